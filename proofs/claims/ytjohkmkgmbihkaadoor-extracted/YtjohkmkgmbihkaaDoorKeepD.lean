/- The laws without the document's answer: the pairs from one key to another. -/
import Derived.Test.YtjohkmkgmbihkaaDoorKeepC
namespace Go.Proofs.YtjohkmkgmbihkaaDoor
set_option linter.unusedVariables false
open Go.ChangeShapes Go.WideShapes Go.ChangeAt Go.RowKit

/-- From lo to hi. -/
def inR (lo hi : ByteArray) (k : ByteArray) : Bool := !(Op.bytesLess k.toList lo.toList) && (Op.bytesLess k.toList hi.toList || k.toList == hi.toList)
def withinP (A : List Pr) (lo hi : ByteArray) : List Pr := A.filter fun p => inR lo hi p.1
theorem filter_succ {α : Type} (A : List α) (f : α → Bool) (k : Nat) (h : k < A.length) : (A.take (k + 1)).filter f = (A.take k).filter f ++ if f A[k] then [A[k]] else [] := by
  rw [List.take_succ_eq_append_getElem h, List.filter_append]
  congr 1
  cases hf : f A[k] <;> simp [hf]
theorem prs_one (w : World) (p : Pr) (t : TypeId) : Prs (w.alloc (.cells #[.string p.1, .string p.2] t)) (.slice (some ⟨w.heap.size, 0, none⟩) 1 1) [p] := by
  refine ⟨by simp [pc_length], .inr ⟨w.heap.size, 0, 1, rfl, by simp, by simp [maxLen], by simp, ?_⟩⟩
  intro j u hu
  rw [Nat.zero_add, cell_new]
  simpa [pc] using hu
end Go.Proofs.YtjohkmkgmbihkaaDoor
