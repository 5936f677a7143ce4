/- The laws without the document's answer: lists of pairs held against one another, and parted. -/
import Derived.Test.YtjohkmkgmbihkaaDoorKeepB
namespace Go.Proofs.YtjohkmkgmbihkaaDoor
set_option linter.unusedVariables false
open Go.ChangeShapes Go.WideShapes Go.ChangeAt Go.RowKit

theorem take_eq_all {α : Type} {A B : List α} (hl : A.length = B.length) {k : Nat} (hk : ¬ k < A.length) (h : A.take k = B.take k) : A = B := by
  rwa [List.take_of_length_le (by omega), List.take_of_length_le (by omega)] at h
theorem take_eq_succ {α : Type} {A B : List α} {k : Nat} (ha : k < A.length) (hb : k < B.length) (h : A.take k = B.take k) (e : A[k] = B[k]) : A.take (k + 1) = B.take (k + 1) := by
  rw [List.take_succ_eq_append_getElem ha, List.take_succ_eq_append_getElem hb, h, e]
theorem take_ne {α : Type} {A B : List α} {k : Nat} (ha : k < A.length) (hb : k < B.length) (e : A[k] ≠ B[k]) : A ≠ B := by
  rintro rfl; exact e rfl

end Go.Proofs.YtjohkmkgmbihkaaDoor
