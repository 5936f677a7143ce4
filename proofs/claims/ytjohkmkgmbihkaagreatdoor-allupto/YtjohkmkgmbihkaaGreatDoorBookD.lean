/- The walks of the book: Put. -/
import Derived.Test.YtjohkmkgmbihkaaGreatDoorBookC
import Derived.Deep.RegionHeld3
import Derived.Deep.RegionWith
import Derived.Deep.DrawnRows
namespace Go.Proofs.YtjohkmkgmbihkaaGreatDoor
set_option linter.unusedVariables false
open Go.ChangeShapes Go.WideShapes Go.ChangeAt Go.RowKit

attribute [local go_sem ↓] Go.wp_at_zero Go.wp_at_succ

theorem Ext.keep1 {w w' : World} (hx : Ext w w') {a : Addr} {u : Value} (h : w.cell? a = some u) : w'.cell? a = some u := (hx.cell (World.block_lt_of_cell? w a h)).trans h

theorem With_sl (L : List It) (hs : Sorted L) (hn : L.length ≤ 50) (x : It) (v : Value) (w : World) (hv : Its w v L) :
    Calls Tryz.prog 47 #[v, x.val'] w
      fun e w' => ∃ a n c, e = .returned (.slice a n c) ∧ Ext w w' ∧ w'.ownsRow w.heap.size 87 3 (.slice a n c) (put L x).length (cellsOf (put L x)) := by
  refine (With_any L hs hn x v w hv).mono ?_
  rintro e w' ⟨v', rfl, hx, ho⟩
  obtain ⟨a, c, e, _⟩ := (Its.own ho).shape
  subst e
  exact ⟨_, _, _, rfl, hx, ho⟩

set_option maxHeartbeats 1000000 in
set_option maxRecDepth 100000 in
theorem Put_any (b : Nat) (v : Value) (L : List It) (k t : ByteArray) (h : Int) (w : World) (hB : Bk w b v L) :
    Calls Tryz.prog 21 #[.pointer (some ⟨b, 0, none⟩), .string k, .string t, .int .i64 h] w
      fun e w' => e = .returned (.int .i64 (putE L k t h)) ∧ ∃ v', Bk w' b v' (putL L k t h) ∧ w.grownBy w' (some b) ∧ (v' = v ∨ ∀ g, v'.ownBlock = some g → w.heap.size ≤ g) := by
  have HB := hid hB
  by_cases e1 : fault k t h = 0
  · have hc := Bk.cell hB
    obtain ⟨a, cap, ev, _, _⟩ := hB.its.shape
    subst ev
    have hblt := hB.lt
    cases e2 : (decide (L.length < 50) || has L k) with
    | false =>
      have G1 := hid (show putE L k t h = 4 by simp only [putE, e1, e2]; simp)
      have G2 := hid (show putL L k t h = L by rw [putL, G1.out]; simp)
      have E1 := hid e1
      have E2 := hid e2
      clear e1 e2 hB
      go_enter Tryz.func21, Tryz.ntmps21
      go_wp2_with fail
      refine (Fault_any _ _ _ _).mono ?_
      rintro e w1 ⟨rfl, hx⟩
      rw [E1.out]
      have hx' := ((Ext.refl w).alloc _).trans hx
      have hc1 := hx'.keep1 hc
      go_wp2_with fail
      refine (Takes_any L HB.out.2.2.1 HB.out.2.2.2.1 _ k _ (Bk.its (Bk.ext HB.out hx'))).mono ?_
      rintro e w2 ⟨rfl, hx2⟩
      rw [E2.out]
      go_wp2_with fail
      go_ret
      exact ⟨ret_int G1.out.symm, _, by rw [G2.out]; exact Bk.ext HB.out (hx'.trans hx2), (hx'.trans hx2).mod b, .inl rfl⟩
    | true =>
      have G1 := hid (show putE L k t h = 0 by simp only [putE, e1, e2]; simp)
      have G2 := hid (show putL L k t h = put L ⟨k, t, h.toNat⟩ by rw [putL, G1.out]; simp)
      have GG := hid (HB.out.2.2.putL k t h)
      have hh : ((h.toNat : Nat) : Int) = h := by obtain ⟨_, _, q, _⟩ := putE_zero G1.out; omega
      have HH := hid hh
      have E1 := hid e1
      have E2 := hid e2
      have hW := With_sl L HB.out.2.2.1 HB.out.2.2.2.1 ⟨k, t, h.toNat⟩ (.slice a L.length cap)
      simp only [It.val', hh] at hW
      have HW := hid hW
      clear e1 e2 hB hh hW
      go_enter Tryz.func21, Tryz.ntmps21
      go_wp2_with fail
      refine (Fault_any _ _ _ _).mono ?_
      rintro e w1 ⟨rfl, hx⟩
      rw [E1.out]
      have hx' := ((Ext.refl w).alloc _).trans hx
      have hc1 := hx'.keep1 hc
      obtain ⟨bc, bf, bz⟩ := box_cells hx
      have d0 : w1.cell? ⟨w.heap.size, 0, none⟩ = some (.string k) := bc 0
      have d1 : w1.cell? ⟨w.heap.size, 1, none⟩ = some (.string t) := bc 1
      have d2 : w1.cell? ⟨w.heap.size, 2, none⟩ = some (.int .i64 h) := bc 2
      clear bc bf
      go_wp2_with fail
      refine (Takes_any L HB.out.2.2.1 HB.out.2.2.2.1 _ k _ (Bk.its (Bk.ext HB.out hx'))).mono ?_
      rintro e w2 ⟨rfl, hx2⟩
      rw [E2.out]
      have hc2 := hx2.keep1 hc1
      have f0 := hx2.keep1 d0
      have f1 := hx2.keep1 d1
      have f2 := hx2.keep1 d2
      have hx3 := hx'.trans hx2
      clear hc1 d0 d1 d2 hc
      go_wp2_with fail
      go_region_with (go_at_call 47; refine (HW.out _ ?_).mono ?_; exact (Bk.its (Bk.ext HB.out hx3.drew)); rintro e w3 ⟨a3, n3, m3, rfl, hx4, ho⟩; have HO := hid ho; clear ho; have fz := Bk.frozen (Bk.ext HB.out (hx3.drew.trans hx4)); have c3 := hx4.keep1 (show w2.drew.cell? _ = _ from hc2))
      all_goals
        go_wp2_with fail
        go_ret
        obtain ⟨q1, q2, q3⟩ := Bk.set HB.out (hx3.drew.trans hx4) (owns_base HO.out hx3.size) (by rw [← G2.out]; exact GG.out)
        exact ⟨ret_int G1.out.symm, _, by rw [G2.out]; exact q1, q2, .inr q3⟩
  · have G1 := hid (show putE L k t h = fault k t h by rw [putE, if_neg e1])
    have G2 := hid (show putL L k t h = L by rw [putL, G1.out, if_neg e1])
    have E1 : (fault k t h != 0) = true := by simpa using e1
    clear hB
    go_enter Tryz.func21, Tryz.ntmps21
    go_wp2_with fail
    refine (Fault_any _ _ _ _).mono ?_
    rintro e w1 ⟨rfl, hx⟩
    have hx' := ((Ext.refl w).alloc _).trans hx
    go_wp2_with fail
    go_ret
    exact ⟨ret_int G1.out.symm, v, by rw [G2.out]; exact Bk.ext HB.out hx', hx'.mod b, .inl rfl⟩
end Go.Proofs.YtjohkmkgmbihkaaGreatDoor
