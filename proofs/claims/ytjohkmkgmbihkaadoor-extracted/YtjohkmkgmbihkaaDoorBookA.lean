/- The walks of the book: what an entry may be; New. -/
import Derived.Test.YtjohkmkgmbihkaaDoorShelfF
namespace Go.Proofs.YtjohkmkgmbihkaaDoor
set_option linter.unusedVariables false
open Go.ChangeShapes Go.WideShapes Go.ChangeAt Go.RowKit

/-- A key; a value; a height. -/
def keyB (s : ByteArray) : Bool := decide (1 ≤ s.size ∧ s.size ≤ 8)
def valB (s : ByteArray) : Bool := decide (s.size ≤ 20)
def hgtB (h : Int) : Bool := decide (0 ≤ h ∧ h ≤ 15)
/-- What is wrong with an entry. -/
def fault (k t : ByteArray) (h : Int) : Int := if keyB k then if valB t then if hgtB h then 0 else 3 else 2 else 1

set_option maxHeartbeats 400000 in
set_option maxRecDepth 100000 in
theorem IsKey_any (s : ByteArray) (w : World) : Calls Tryd.prog 21 #[.string s] w fun e w' => e = .returned (.bool (keyB s)) ∧ w' = w := by
  by_cases h1 : 1 ≤ s.size
  · by_cases h2 : s.size ≤ 8
    · have e := hid (show keyB s = true by simp [keyB, h1, h2])
      go_enter Tryd.func21, Tryd.ntmps21
      go_wp2
      go_ret
      exact ⟨by rw [e.out]; simp <;> omega, rfl⟩
    · have e := hid (show keyB s = false by simp [keyB]; omega)
      go_enter Tryd.func21, Tryd.ntmps21
      go_wp2
      go_ret
      exact ⟨by rw [e.out]; simp <;> omega, rfl⟩
  · have e := hid (show keyB s = false by simp [keyB]; omega)
    go_enter Tryd.func21, Tryd.ntmps21
    go_wp2
    go_ret
    exact ⟨by rw [e.out]; simp <;> omega, rfl⟩

set_option maxHeartbeats 400000 in
set_option maxRecDepth 100000 in
theorem IsValue_any (s : ByteArray) (w : World) : Calls Tryd.prog 71 #[.string s] w fun e w' => e = .returned (.bool (valB s)) ∧ w' = w := by
  by_cases h2 : s.size ≤ 20
  · have e := hid (show valB s = true by simp [valB, h2])
    go_enter Tryd.func71, Tryd.ntmps71
    go_wp2
    go_ret
    exact ⟨by rw [e.out]; simp <;> omega, rfl⟩
  · have e := hid (show valB s = false by simp [valB]; omega)
    go_enter Tryd.func71, Tryd.ntmps71
    go_wp2
    go_ret
    exact ⟨by rw [e.out]; simp <;> omega, rfl⟩

set_option maxHeartbeats 400000 in
set_option maxRecDepth 100000 in
theorem IsHeight_any (h : Int) (w : World) : Calls Tryd.prog 72 #[.int .i64 h] w fun e w' => e = .returned (.bool (hgtB h)) ∧ w' = w := by
  by_cases h1 : 0 ≤ h
  · by_cases h2 : h ≤ 15
    · have e := hid (show hgtB h = true by simp [hgtB, h1, h2])
      go_enter Tryd.func72, Tryd.ntmps72
      go_wp2
      go_ret
      exact ⟨by rw [e.out]; simp <;> omega, rfl⟩
    · have e := hid (show hgtB h = false by simp [hgtB]; omega)
      go_enter Tryd.func72, Tryd.ntmps72
      go_wp2
      go_ret
      exact ⟨by rw [e.out]; simp <;> omega, rfl⟩
  · have e := hid (show hgtB h = false by simp [hgtB]; omega)
    go_enter Tryd.func72, Tryd.ntmps72
    go_wp2
    go_ret
    exact ⟨by rw [e.out]; simp <;> omega, rfl⟩

set_option maxHeartbeats 400000 in
set_option maxRecDepth 100000 in
theorem Fault_any (k t : ByteArray) (h : Int) (w : World) :
    Calls Tryd.prog 69 #[.agg #[.string k, .string t, .int .i64 h]] w fun e w' => e = .returned (.int .i64 (fault k t h)) ∧ Ext w w' := by
  cases e1 : keyB k with
  | false =>
    have HF := hid (show fault k t h = 1 by simp [fault, e1])
    have E1 := hid e1
    clear e1
    go_enter Tryd.func69, Tryd.ntmps69
    go_wp2_with fail
    refine (IsKey_any _ _).mono ?_
    rintro e w1 ⟨rfl, rfl⟩
    rw [E1.out]
    go_wp2_with fail
    go_ret
    exact ⟨by rw [HF.out]; simp, (Ext.refl _).alloc _⟩
  | true =>
    cases e2 : valB t with
    | false =>
      have HF := hid (show fault k t h = 2 by simp [fault, e1, e2])
      have E1 := hid e1
      have E2 := hid e2
      clear e1 e2
      go_enter Tryd.func69, Tryd.ntmps69
      go_wp2_with fail
      refine (IsKey_any _ _).mono ?_
      rintro e w1 ⟨rfl, rfl⟩
      rw [E1.out]
      go_wp2_with fail
      refine (IsValue_any _ _).mono ?_
      rintro e w1 ⟨rfl, rfl⟩
      rw [E2.out]
      go_wp2_with fail
      go_ret
      exact ⟨by rw [HF.out]; simp, (Ext.refl _).alloc _⟩
    | true =>
      cases e3 : hgtB h with
      | false =>
        have HF := hid (show fault k t h = 3 by simp [fault, e1, e2, e3])
        have E1 := hid e1
        have E2 := hid e2
        have E3 := hid e3
        clear e1 e2 e3
        go_enter Tryd.func69, Tryd.ntmps69
        go_wp2_with fail
        refine (IsKey_any _ _).mono ?_
        rintro e w1 ⟨rfl, rfl⟩
        rw [E1.out]
        go_wp2_with fail
        refine (IsValue_any _ _).mono ?_
        rintro e w1 ⟨rfl, rfl⟩
        rw [E2.out]
        go_wp2_with fail
        refine (IsHeight_any _ _).mono ?_
        rintro e w1 ⟨rfl, rfl⟩
        rw [E3.out]
        go_wp2_with fail
        go_ret
        exact ⟨by rw [HF.out]; simp, (Ext.refl _).alloc _⟩
      | true =>
        have HF := hid (show fault k t h = 0 by simp [fault, e1, e2, e3])
        have E1 := hid e1
        have E2 := hid e2
        have E3 := hid e3
        clear e1 e2 e3
        go_enter Tryd.func69, Tryd.ntmps69
        go_wp2_with fail
        refine (IsKey_any _ _).mono ?_
        rintro e w1 ⟨rfl, rfl⟩
        rw [E1.out]
        go_wp2_with fail
        refine (IsValue_any _ _).mono ?_
        rintro e w1 ⟨rfl, rfl⟩
        rw [E2.out]
        go_wp2_with fail
        refine (IsHeight_any _ _).mono ?_
        rintro e w1 ⟨rfl, rfl⟩
        rw [E3.out]
        go_wp2_with fail
        go_ret
        exact ⟨by rw [HF.out]; simp, (Ext.refl _).alloc _⟩

/-- What a book may hold. -/
def Good (L : List It) : Prop := Sorted L ∧ L.length ≤ 50 ∧ ∀ x ∈ L, keyB x.key = true ∧ valB x.val = true ∧ x.h ≤ 15
theorem Good.nil : Good [] := ⟨List.Pairwise.nil, by simp, fun x h => by cases h⟩
end Go.Proofs.YtjohkmkgmbihkaaDoor
