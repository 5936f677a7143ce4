/- The walks of the document's book: asking it. -/
import Derived.Test.YtjohkmkgmbihkaaGreatDoorKeepD
namespace Go.Proofs.YtjohkmkgmbihkaaGreatDoor
set_option linter.unusedVariables false
open Go.ChangeShapes Go.WideShapes Go.ChangeAt Go.RowKit
attribute [local go_sem ↓] Go.wp_at_zero Go.wp_at_succ

set_option maxHeartbeats 400000 in
set_option maxRecDepth 100000 in
theorem rKey_any (s : ByteArray) (w : World) : Calls Tryz.prog 59 #[.string s] w fun e w' => e = .returned (.bool (keyB s)) ∧ w' = w := by
  by_cases h1 : 1 ≤ s.size
  · by_cases h2 : s.size ≤ 8
    · have e := hid (show keyB s = true by simp [keyB, h1, h2])
      go_enter Tryz.func59, Tryz.ntmps59
      go_wp2
      go_ret
      exact ⟨by rw [e.out]; simp <;> omega, rfl⟩
    · have e := hid (show keyB s = false by simp [keyB]; omega)
      go_enter Tryz.func59, Tryz.ntmps59
      go_wp2
      go_ret
      exact ⟨by rw [e.out]; simp <;> omega, rfl⟩
  · have e := hid (show keyB s = false by simp [keyB]; omega)
    go_enter Tryz.func59, Tryz.ntmps59
    go_wp2
    go_ret
    exact ⟨by rw [e.out]; simp <;> omega, rfl⟩
set_option maxHeartbeats 400000 in
set_option maxRecDepth 100000 in
theorem rValue_any (s : ByteArray) (w : World) : Calls Tryz.prog 120 #[.string s] w fun e w' => e = .returned (.bool (valB s)) ∧ w' = w := by
  by_cases h2 : s.size ≤ 20
  · have e := hid (show valB s = true by simp [valB, h2])
    go_enter Tryz.func120, Tryz.ntmps120
    go_wp2
    go_ret
    exact ⟨by rw [e.out]; simp <;> omega, rfl⟩
  · have e := hid (show valB s = false by simp [valB]; omega)
    go_enter Tryz.func120, Tryz.ntmps120
    go_wp2
    go_ret
    exact ⟨by rw [e.out]; simp <;> omega, rfl⟩

/-- The document's book in memory. -/
def Rf (w : World) (r : Nat) (v : Value) (L : List It) : Prop := w.heap[r]? = some (.cells #[v] 99 (0, 0)) ∧ w.ownsRow 0 110 3 v L.length (cellsOf L) ∧ Good L
theorem Rf.its {w : World} {b : Nat} {v : Value} {L : List It} (h : Rf w b v L) : Its w v L := Its.own h.2.1
theorem Rf.ext {w w' : World} {b : Nat} {v : Value} {L : List It} (h : Rf w b v L) (hx : Ext w w') : Rf w' b v L := ⟨hx.row h.1, owns_ext h.2.1 hx, h.2.2⟩
theorem Rf.cell {w : World} {b : Nat} {v : Value} {L : List It} (h : Rf w b v L) : w.cell? ⟨b, 0, none⟩ = some v := by rw [cell_of_row w b 0 _ _ _ h.1]; rfl
theorem Rf.frozen {w : World} {b : Nat} {v : Value} {L : List It} (h : Rf w b v L) : w.frozen? ⟨b, 0, none⟩ = false := frozen_of_row w b 0 _ _ h.1
theorem Rf.lt {w : World} {b : Nat} {v : Value} {L : List It} (h : Rf w b v L) : b < w.heap.size := row_lt h.1

set_option maxHeartbeats 1000000 in
set_option maxRecDepth 100000 in
theorem rPlace_any (r : Nat) (v : Value) (L : List It) (k : ByteArray) (w : World) (hR : Rf w r v L) :
    Calls Tryz.prog 121 #[.pointer (some ⟨r, 0, none⟩), .string k] w fun e w' => e = .returned (.tuple #[.int .i64 (plc L k), .bool (has L k)]) ∧ Ext w w' := by
  have hc := hR.cell
  have hn := hR.2.2.2.1
  have hpl := plc_le L k
  obtain ⟨a, cap, ev, h1, h2⟩ := hR.its.shape
  subst ev
  have HI := hid hR.its
  clear hR
  go_enter Tryz.func121, Tryz.ntmps121
  go_wp2_with fail
  go_loop [6] (fun i => ∃ t : Nat, t ≤ plc L k ∧ i = .int .i64 t) (fun i => L.length - (intOf i).toNat)
  case atStart => exact ⟨0, Nat.zero_le _, rfl⟩
  case round =>
    obtain ⟨t, ht, rfl⟩ := hrel
    by_cases hb : t < plc L k
    · have hlt : t < L.length := by omega
      rcases HI.out.cases with ⟨_, q⟩ | ⟨b1, o1, c1, q1, _, _, _, g1⟩
      · rw [q] at hlt; simp at hlt
      simp only [Value.slice.injEq] at q1
      obtain ⟨rfl, _, rfl⟩ := q1
      obtain ⟨e1, _, _⟩ := item_cells g1 hlt
      clear g1
      have hl' : Op.bytesLess L[t].key.toList k.toList = true := plc_below hb hlt
      go_wp2_with fail
      go_round
      case rel => exact ⟨t + 1, by omega, by go_num⟩
      case measure => simp [intOf]; omega
    · obtain rfl : t = plc L k := by omega
      clear hb ht
      by_cases hlt : plc L k < L.length
      · rcases HI.out.cases with ⟨_, q⟩ | ⟨b1, o1, c1, q1, _, _, _, g1⟩
        · rw [q] at hlt; simp at hlt
        simp only [Value.slice.injEq] at q1
        obtain ⟨rfl, _, rfl⟩ := q1
        obtain ⟨e1, _, _⟩ := item_cells g1 hlt
        clear g1
        have jj : (plc L k : Int) < (L.length : Int) := by omega
        have hl' : Op.bytesLess (L[plc L k]).key.toList k.toList = false := plc_at (L := L) (k := k) hlt
        have HH := hid (show has L k = ((L[plc L k]).key.toList == k.toList) by unfold has; rw [List.getElem?_eq_getElem hlt]; rfl)
        go_wp2_with fail
        go_quiet (fail)
        go_wp2_with fail
        go_ret2
        exact ⟨ret_ib rfl HH.out.symm, (Ext.refl w).drewN _⟩
      · have jj : decide (plc L k < L.length) = false := by simp; omega
        have jk : ¬ (plc L k : Int) < (L.length : Int) := by omega
        have HH := hid (show has L k = false by unfold has; rw [List.getElem?_eq_none (by omega)])
        go_wp2_with fail
        go_quiet (fail)
        go_wp2_with fail
        go_ret2
        exact ⟨ret_ib rfl HH.out.symm, (Ext.refl w).drewN _⟩

set_option maxHeartbeats 400000 in
set_option maxRecDepth 100000 in
theorem rGet_any (b : Nat) (v : Value) (L : List It) (k : ByteArray) (w : World) (hB : Rf w b v L) :
    Calls Tryz.prog 94 #[.pointer (some ⟨b, 0, none⟩), .string k] w
      fun e w' => e = .returned (.tuple #[.string (getV L k), .int .i64 (getE L k)]) ∧ Ext w w' := by
  have HB := hid hB
  have hn := hB.2.2.2.1
  cases e1 : keyB k with
  | false =>
    have G1 := hid (show getE L k = 1 by simp [getE, e1])
    have G2 := hid (show getV L k = ⟨#[]⟩ by simp [getV, e1])
    have E1 := hid e1
    clear e1 hB
    go_enter Tryz.func94, Tryz.ntmps94
    go_wp2_with fail
    refine (rKey_any _ _).mono ?_
    rintro e w1 ⟨rfl, rfl⟩
    rw [E1.out]
    go_wp2_with fail
    go_ret2
    exact ⟨ret_si G2.out.symm G1.out.symm, Ext.refl _⟩
  | true =>
    cases e2 : has L k with
    | false =>
      have G1 := hid (show getE L k = 5 by simp [getE, e1, e2])
      have G2 := hid (show getV L k = ⟨#[]⟩ by simp [getV, e1, e2])
      have E1 := hid e1
      have E2 := hid e2
      clear e1 e2 hB
      go_enter Tryz.func94, Tryz.ntmps94
      go_wp2_with fail
      refine (rKey_any _ _).mono ?_
      rintro e w1 ⟨rfl, rfl⟩
      rw [E1.out]
      go_wp2_with fail
      refine (rPlace_any b v L k _ HB.out).mono ?_
      rintro e w1 ⟨rfl, hx⟩
      rw [E2.out]
      go_wp2_with fail
      go_ret2
      exact ⟨ret_si G2.out.symm G1.out.symm, hx⟩
    | true =>
      obtain ⟨hlt, hke⟩ := has_iff.1 e2
      clear hke
      rcases hB.its.cases with ⟨_, h0⟩ | ⟨bb, o, cap, rfl, h3, h4, h5, h6⟩
      · subst h0; simp at hlt
      have G1 := hid (show getE L k = 0 by simp [getE, e1, e2])
      have G2 := hid (show getV L k = (L[plc L k]).val by simp [getV, e1, e2, List.getElem?_eq_getElem hlt])
      have E1 := hid e1
      have E2 := hid e2
      have H6 := hid h6
      clear e1 e2 hB h6
      go_enter Tryz.func94, Tryz.ntmps94
      go_wp2_with fail
      refine (rKey_any _ _).mono ?_
      rintro e w1 ⟨rfl, hw1⟩
      replace hw1 := hw1.symm
      subst hw1
      rw [E1.out]
      go_wp2_with fail
      refine (rPlace_any b _ L k _ HB.out).mono ?_
      rintro e w1 ⟨rfl, hx⟩
      rw [E2.out]
      have hc := Rf.cell (Rf.ext HB.out hx)
      obtain ⟨_, g2, _⟩ := item_cells (cells_ext hx h5 H6.out) hlt
      go_wp2_with fail
      go_ret2
      exact ⟨ret_si G2.out.symm G1.out.symm, hx⟩
end Go.Proofs.YtjohkmkgmbihkaaGreatDoor
