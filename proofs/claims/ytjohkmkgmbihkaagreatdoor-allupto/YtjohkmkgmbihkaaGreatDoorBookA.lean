/- The walks of the book: what an entry may be; New. -/
import Derived.Test.YtjohkmkgmbihkaaGreatDoorShelfF
namespace Go.Proofs.YtjohkmkgmbihkaaGreatDoor
set_option linter.unusedVariables false
open Go.ChangeShapes Go.WideShapes Go.ChangeAt Go.RowKit

/-- A key; a value; a height. -/
def keyB (s : ByteArray) : Bool := decide (1 ≤ s.size ∧ s.size ≤ 8)
def valB (s : ByteArray) : Bool := decide (s.size ≤ 20)
def hgtB (h : Int) : Bool := decide (0 ≤ h ∧ h ≤ 15)
/-- What is wrong with an entry. -/
def fault (k t : ByteArray) (h : Int) : Int := if keyB k then if valB t then if hgtB h then 0 else 3 else 2 else 1

set_option maxHeartbeats 400000 in
set_option maxRecDepth 100000 in
theorem IsKey_any (s : ByteArray) (w : World) : Calls Tryz.prog 63 #[.string s] w fun e w' => e = .returned (.bool (keyB s)) ∧ w' = w := by
  by_cases h1 : 1 ≤ s.size
  · by_cases h2 : s.size ≤ 8
    · have e := hid (show keyB s = true by simp [keyB, h1, h2])
      go_enter Tryz.func63, Tryz.ntmps63
      go_wp2
      go_ret
      exact ⟨by rw [e.out]; simp <;> omega, rfl⟩
    · have e := hid (show keyB s = false by simp [keyB]; omega)
      go_enter Tryz.func63, Tryz.ntmps63
      go_wp2
      go_ret
      exact ⟨by rw [e.out]; simp <;> omega, rfl⟩
  · have e := hid (show keyB s = false by simp [keyB]; omega)
    go_enter Tryz.func63, Tryz.ntmps63
    go_wp2
    go_ret
    exact ⟨by rw [e.out]; simp <;> omega, rfl⟩

set_option maxHeartbeats 400000 in
set_option maxRecDepth 100000 in
theorem IsValue_any (s : ByteArray) (w : World) : Calls Tryz.prog 80 #[.string s] w fun e w' => e = .returned (.bool (valB s)) ∧ w' = w := by
  by_cases h2 : s.size ≤ 20
  · have e := hid (show valB s = true by simp [valB, h2])
    go_enter Tryz.func80, Tryz.ntmps80
    go_wp2
    go_ret
    exact ⟨by rw [e.out]; simp <;> omega, rfl⟩
  · have e := hid (show valB s = false by simp [valB]; omega)
    go_enter Tryz.func80, Tryz.ntmps80
    go_wp2
    go_ret
    exact ⟨by rw [e.out]; simp <;> omega, rfl⟩

set_option maxHeartbeats 400000 in
set_option maxRecDepth 100000 in
theorem IsHeight_any (h : Int) (w : World) : Calls Tryz.prog 81 #[.int .i64 h] w fun e w' => e = .returned (.bool (hgtB h)) ∧ w' = w := by
  by_cases h1 : 0 ≤ h
  · by_cases h2 : h ≤ 15
    · have e := hid (show hgtB h = true by simp [hgtB, h1, h2])
      go_enter Tryz.func81, Tryz.ntmps81
      go_wp2
      go_ret
      exact ⟨by rw [e.out]; simp <;> omega, rfl⟩
    · have e := hid (show hgtB h = false by simp [hgtB]; omega)
      go_enter Tryz.func81, Tryz.ntmps81
      go_wp2
      go_ret
      exact ⟨by rw [e.out]; simp <;> omega, rfl⟩
  · have e := hid (show hgtB h = false by simp [hgtB]; omega)
    go_enter Tryz.func81, Tryz.ntmps81
    go_wp2
    go_ret
    exact ⟨by rw [e.out]; simp <;> omega, rfl⟩

set_option maxHeartbeats 400000 in
set_option maxRecDepth 100000 in
theorem Fault_any (k t : ByteArray) (h : Int) (w : World) :
    Calls Tryz.prog 45 #[.agg #[.string k, .string t, .int .i64 h]] w fun e w' => e = .returned (.int .i64 (fault k t h)) ∧ Ext w w' := by
  cases e1 : keyB k with
  | false =>
    have HF := hid (show fault k t h = 1 by simp [fault, e1])
    have E1 := hid e1
    clear e1
    go_enter Tryz.func45, Tryz.ntmps45
    go_wp2_with fail
    refine (IsKey_any _ _).mono ?_
    rintro e w1 ⟨rfl, rfl⟩
    rw [E1.out]
    go_wp2_with fail
    go_ret
    exact ⟨by rw [HF.out]; simp, (Ext.refl _).alloc _⟩
  | true =>
    cases e2 : valB t with
    | false =>
      have HF := hid (show fault k t h = 2 by simp [fault, e1, e2])
      have E1 := hid e1
      have E2 := hid e2
      clear e1 e2
      go_enter Tryz.func45, Tryz.ntmps45
      go_wp2_with fail
      refine (IsKey_any _ _).mono ?_
      rintro e w1 ⟨rfl, rfl⟩
      rw [E1.out]
      go_wp2_with fail
      refine (IsValue_any _ _).mono ?_
      rintro e w1 ⟨rfl, rfl⟩
      rw [E2.out]
      go_wp2_with fail
      go_ret
      exact ⟨by rw [HF.out]; simp, (Ext.refl _).alloc _⟩
    | true =>
      cases e3 : hgtB h with
      | false =>
        have HF := hid (show fault k t h = 3 by simp [fault, e1, e2, e3])
        have E1 := hid e1
        have E2 := hid e2
        have E3 := hid e3
        clear e1 e2 e3
        go_enter Tryz.func45, Tryz.ntmps45
        go_wp2_with fail
        refine (IsKey_any _ _).mono ?_
        rintro e w1 ⟨rfl, rfl⟩
        rw [E1.out]
        go_wp2_with fail
        refine (IsValue_any _ _).mono ?_
        rintro e w1 ⟨rfl, rfl⟩
        rw [E2.out]
        go_wp2_with fail
        refine (IsHeight_any _ _).mono ?_
        rintro e w1 ⟨rfl, rfl⟩
        rw [E3.out]
        go_wp2_with fail
        go_ret
        exact ⟨by rw [HF.out]; simp, (Ext.refl _).alloc _⟩
      | true =>
        have HF := hid (show fault k t h = 0 by simp [fault, e1, e2, e3])
        have E1 := hid e1
        have E2 := hid e2
        have E3 := hid e3
        clear e1 e2 e3
        go_enter Tryz.func45, Tryz.ntmps45
        go_wp2_with fail
        refine (IsKey_any _ _).mono ?_
        rintro e w1 ⟨rfl, rfl⟩
        rw [E1.out]
        go_wp2_with fail
        refine (IsValue_any _ _).mono ?_
        rintro e w1 ⟨rfl, rfl⟩
        rw [E2.out]
        go_wp2_with fail
        refine (IsHeight_any _ _).mono ?_
        rintro e w1 ⟨rfl, rfl⟩
        rw [E3.out]
        go_wp2_with fail
        go_ret
        exact ⟨by rw [HF.out]; simp, (Ext.refl _).alloc _⟩

/-- What a book may hold. -/
def Good (L : List It) : Prop := Sorted L ∧ L.length ≤ 50 ∧ ∀ x ∈ L, keyB x.key = true ∧ valB x.val = true ∧ x.h ≤ 15
/-- A book in memory. -/
def Bk (w : World) (b : Nat) (v : Value) (L : List It) : Prop := w.heap[b]? = some (.cells #[v] 91 (0, 0)) ∧ w.ownsRow 0 87 3 v L.length (cellsOf L) ∧ Good L
theorem Good.nil : Good [] := ⟨List.Pairwise.nil, by simp, fun x h => by cases h⟩
theorem Bk.its {w : World} {b : Nat} {v : Value} {L : List It} (h : Bk w b v L) : Its w v L := Its.own h.2.1
theorem Bk.ext {w w' : World} {b : Nat} {v : Value} {L : List It} (h : Bk w b v L) (hx : Ext w w') : Bk w' b v L := ⟨hx.row h.1, owns_ext h.2.1 hx, h.2.2⟩
theorem Bk.cell {w : World} {b : Nat} {v : Value} {L : List It} (h : Bk w b v L) : w.cell? ⟨b, 0, none⟩ = some v := by rw [cell_of_row w b 0 _ _ _ h.1]; rfl
theorem Bk.frozen {w : World} {b : Nat} {v : Value} {L : List It} (h : Bk w b v L) : w.frozen? ⟨b, 0, none⟩ = false := frozen_of_row w b 0 _ _ h.1
theorem Bk.lt {w : World} {b : Nat} {v : Value} {L : List It} (h : Bk w b v L) : b < w.heap.size := row_lt h.1

set_option maxHeartbeats 400000 in
theorem New_any (w : World) : Calls Tryz.prog 35 #[] w fun e w' => e = .returned (.pointer (some ⟨w.heap.size, 0, none⟩)) ∧ Ext w w' ∧ Bk w' w.heap.size (.slice none 0 0) [] := by
  go_enter Tryz.func35, Tryz.ntmps35
  go_wp2_with fail
  go_ret
  exact ⟨rfl, (Ext.refl _).alloc _, heap_alloc_new w _, World.ownsRow_nil _ _ _ _, Good.nil⟩
end Go.Proofs.YtjohkmkgmbihkaaGreatDoor
