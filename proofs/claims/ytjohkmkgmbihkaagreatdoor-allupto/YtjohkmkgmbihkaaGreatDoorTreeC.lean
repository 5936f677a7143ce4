/- The walks of the tree: Of. -/
import Derived.Test.YtjohkmkgmbihkaaGreatDoorTreeB
namespace Go.Proofs.YtjohkmkgmbihkaaGreatDoor
set_option linter.unusedVariables false
open Go.ChangeShapes Go.WideShapes Go.ChangeAt Go.RowKit
attribute [local go_sem ↓] Go.wp_at_zero Go.wp_at_succ

theorem sz_entries (w : World) : (sizeOf (Tryz.prog.elem 88)).run Tryz.prog w = .ok 3 w := by kernel_rfl
theorem cutE_h (a : Option Addr) (n cap i : Nat) (h : i ≤ cap) (w : World) :
    (Instr.slice 88 (.slice a n cap) none (some (.int .i64 (i : Int))) none).run Tryz.prog w = .ok (sliced a 0 i cap 3) w := by
  rw [run_slice_h w 88 a n cap (by kernel_rfl) .i64 i (by omega) (by omega), sz_entries]
  rfl
theorem cutE_l (a : Option Addr) (n cap i : Nat) (h : i ≤ n) (w : World) :
    (Instr.slice 88 (.slice a n cap) (some (.int .i64 (i : Int))) none none).run Tryz.prog w = .ok (sliced a i n cap 3) w := by
  rw [run_slice_l w 88 a n cap (by kernel_rfl) .i64 i (by omega) (by omega), sz_entries]
  rfl

theorem set_far (w : World) (b i j : Nat) (u : Value) (hij : i ≠ j) {v : Value} (h : w.cell? ⟨b, j, none⟩ = some v) : (w.setCell ⟨b, i, none⟩ u).cell? ⟨b, j, none⟩ = some v := by
  exact (World.cell?_setCell_other _ _ _ _ (by intro q; injection q; omega)).trans h
/-- What is said of the making of a tree. -/
def OfSaid (n : Nat) : Prop := ∀ (L : List It) (v : Value) (w : World), L.length ≤ n → L.length ≤ 50 → Small L → Its w v L →
  Calls Tryz.prog 67 #[v] w fun e w' => ∃ T : Tr, e = .returned (.pointer T.addr) ∧ Ext w w' ∧ T.In w' ∧ Shape T L

set_option maxHeartbeats 400000 in
set_option maxRecDepth 100000 in
theorem Of_nil (v : Value) (w : World) (hv : Its w v []) : Calls Tryz.prog 67 #[v] w fun e w' => ∃ T : Tr, e = .returned (.pointer T.addr) ∧ Ext w w' ∧ T.In w' ∧ Shape T [] := by
  obtain ⟨a, cap, e, _⟩ := hv.shape
  subst e
  clear hv
  go_enter Tryz.func67, Tryz.ntmps67
  go_wp2_with fail
  go_ret
  exact ⟨.nil, rfl, Ext.refl _, trivial, rfl⟩

set_option maxHeartbeats 2000000 in
set_option maxRecDepth 100000 in
theorem Of_step (n : Nat) (ih : OfSaid n) (L : List It) (h0 : L ≠ []) (hn1 : L.length ≤ n + 1) (hn : L.length ≤ 50) (hs : Small L) (b o cap : Nat) (w : World) (hcap : L.length ≤ cap) (hb : b < w.heap.size)
    (hc : ∀ j u, (cellsOf L)[j]? = some u → w.cell? ⟨b, o + j, none⟩ = some u) (hv : Its w (.slice (some ⟨b, o, none⟩) L.length cap) L) :
    Calls Tryz.prog 67 #[.slice (some ⟨b, o, none⟩) L.length cap] w fun e w' => ∃ T : Tr, e = .returned (.pointer T.addr) ∧ Ext w w' ∧ T.In w' ∧ Shape T L := by
  have ht := top_lt h0
  obtain ⟨V1, e1⟩ : ∃ V, V = sliced (some ⟨b, o, none⟩) 0 (top L) cap 3 := ⟨_, rfl⟩
  obtain ⟨V2, e2⟩ : ∃ V, V = sliced (some ⟨b, o, none⟩) (top L + 1) L.length cap 3 := ⟨_, rfl⟩
  have r1 : ∀ w, (Instr.slice 88 (.slice (some ⟨b, o, none⟩) L.length cap) none (some (.int .i64 (top L : Int))) none).run Tryz.prog w = .ok V1 w := fun w => by rw [e1]; exact cutE_h _ L.length cap (top L) (by omega) w
  have r2 : ∀ w, (Instr.slice 88 (.slice (some ⟨b, o, none⟩) L.length cap) (some (.int .i64 ((top L : Int) + 1))) none none).run Tryz.prog w = .ok V2 w := fun w => by rw [e2]; exact cutE_l _ L.length cap (top L + 1) (by omega) w
  have i1 := hv.take (i := top L) (by omega)
  have i2 := hv.drop (i := top L + 1) ht
  rw [← e1] at i1
  rw [← e2] at i2
  have c1 : ∀ w', Ext w w' → Calls Tryz.prog 67 #[V1] w' fun e w'' => ∃ T : Tr, e = .returned (.pointer T.addr) ∧ Ext w' w'' ∧ T.In w'' ∧ Shape T (L.take (top L)) :=
    fun w' hx => ih _ V1 w' (by simp; omega) (by simp; omega) (hs.take _) (i1.ext hx)
  have c2 : ∀ w', Ext w w' → Calls Tryz.prog 67 #[V2] w' fun e w'' => ∃ T : Tr, e = .returned (.pointer T.addr) ∧ Ext w' w'' ∧ T.In w'' ∧ Shape T (L.drop (top L + 1)) :=
    fun w' hx => ih _ V2 w' (by simp; omega) (by simp; omega) (hs.drop _) (i2.ext hx)
  have C1 := hid c1
  have C2 := hid c2
  have HV := hid hv
  have HC := hid hc
  obtain ⟨X, hX⟩ : ∃ X, X = L[top L]'ht := ⟨_, rfl⟩
  have HS := hid (show X.key.size ≤ 8 ∧ X.val.size ≤ 20 ∧ X.h ≤ 15 by rw [hX]; exact hs.get ht)
  have HD := hid (show dig L = Sm.sum (head X ++ dig (L.take (top L)) ++ dig (L.drop (top L + 1))) by rw [hX]; exact dig_node h0)
  have HX := hid hX
  have t1 : (0 : Int) ≤ (top L : Int) := Int.natCast_nonneg _
  have t2 : (top L : Int) < (L.length : Int) := by omega
  have hpos : 0 < L.length := List.length_pos_iff.2 h0
  have wr1 : IntKind.i64.wrap ((top L : Int) + 1) = (top L : Int) + 1 := by rw [IntKind.wrap_i64]; omega
  have H0 := hid h0
  clear e1 e2 c1 c2 i1 i2 hv hc ih h0 hX
  go_enter Tryz.func67, Tryz.ntmps67
  go_wp2_with fail
  refine (top_any L H0.out hn _ _ HV.out).mono ?_
  rintro e w1 ⟨rfl, hx⟩
  obtain ⟨d0, d1, d2⟩ := item_cells (cells_ext hx hb HC.out) ht
  rw [← HX.out] at d0 d1 d2
  go_wp2_with fail
  go_region_held3 (fun w' => w'.cell? ⟨b, o + top L * 3, none⟩ = some (.string X.key) ∧ w'.cell? ⟨b, o + top L * 3 + 1, none⟩ = some (.string X.val) ∧ w'.cell? ⟨b, o + top L * 3 + 2, none⟩ = some (.int .i64 X.h)) (go_keep)
    (first
      | (go_at_call_of 67 V1; refine (C1.out _ ?_).mono ?_; exact (by first | assumption | exact hx.drew); rintro e w2 ⟨T1, rfl, hx2, hin1, hsh1⟩; have hy2 : Ext w1 w2 := Ext.trans ((Ext.refl _).drew) hx2; have k0 := hy2.keep1 d0; have k1 := hy2.keep1 d1; have k2 := hy2.keep1 d2; have HI1 := hid hin1; have HS1 := hid hsh1; clear hin1 hsh1)
      | (go_at_call_of 67 V2; refine (C2.out _ ?_).mono ?_; exact hx.trans hy2; rintro e w3 ⟨T2, rfl, hx3, hin2, hsh2⟩; have hy3 : Ext w1 w3 := Ext.trans hy2 hx3; have m0 := hy3.keep1 d0; have m1 := hy3.keep1 d1; have m2 := hy3.keep1 d2; have HI2 := hid hin2; have HS2 := hid hsh2; clear hin2 hsh2))
  rename_i hheld
  clear hheld k0 k1 k2 m0 m1 m2 d0 d1 d2 r1 r2 C1 C2 HC HV wr1
  have hrow := heap_alloc_new w3 (.cells #[.string X.key, .string X.val, .int .i64 X.h, .pointer T1.addr, .pointer T2.addr, .string ⟨#[]⟩] 119)
  have hx4 := (Ext.refl w3).alloc (.cells #[.string X.key, .string X.val, .int .i64 X.h, .pointer T1.addr, .pointer T2.addr, .string ⟨#[]⟩] 119)
  go_wp2_with fail
  generalize w3.alloc (.cells #[.string X.key, .string X.val, .int .i64 X.h, .pointer T1.addr, .pointer T2.addr, .string ⟨#[]⟩] 119) = W4 at *
  obtain ⟨c0, c1, c2, c3, c4, c5⟩ := node_cells hrow
  have HR := hid hrow
  have hBlt : w3.heap.size < W4.heap.size := row_lt hrow
  have hx13 := hx2.trans hx3
  clear hrow
  have I1 : Hid (∀ w', Ext W4 w' → T1.In w') := fun w' hx' => HI1.out.ext ((hx3.trans hx4).trans hx')
  have I2 : Hid (∀ w', Ext W4 w' → T2.In w') := fun w' hx' => HI2.out.ext (hx4.trans hx')
  have g1 := dig_size (L.take (top L))
  have g2 := dig_size (L.drop (top L + 1))
  generalize hD1 : dig (L.take (top L)) = D1 at *
  generalize hD2 : dig (L.drop (top L + 1)) = D2 at *
  have K1 : Hid (∀ w', Ext W4 w' → Calls Tryz.prog 39 #[.pointer T1.addr] w' fun e w'' => e = .returned (.string D1) ∧ Ext w' w'') := fun w' hx' => by rw [← hD1]; exact NodeDigest_any T1 _ w' (I1.out w' hx') HS1.out
  have K2 : Hid (∀ w', Ext W4 w' → Calls Tryz.prog 39 #[.pointer T2.addr] w' fun e w'' => e = .returned (.string D2) ∧ Ext w' w'') := fun w' hx' => by rw [← hD2]; exact NodeDigest_any T2 _ w' (I2.out w' hx') HS2.out
  have hts : (head X ++ D1 ++ D2).size ≤ maxLen := by
    have := HS.out
    rw [ByteArray.size_append, ByteArray.size_append, head_size, g1, g2]; unfold maxLen; omega
  have HTS := hid hts
  clear hD1 hD2 hts
  go_region_held3 (fun w' => w'.cell? ⟨w3.heap.size, 0, none⟩ = some (.string X.key) ∧ w'.cell? ⟨w3.heap.size, 1, none⟩ = some (.string X.val) ∧ w'.cell? ⟨w3.heap.size, 2, none⟩ = some (.int .i64 X.h) ∧ w'.cell? ⟨w3.heap.size, 3, none⟩ = some (.pointer T1.addr) ∧ w'.cell? ⟨w3.heap.size, 4, none⟩ = some (.pointer T2.addr)) (go_keep)
    (first
      | (go_at_call_of 39 (Tr.addr T1); refine (K1.out _ ?_).mono ?_; exact (Ext.refl _).drew; rintro e w5 ⟨rfl, hx5⟩; have hy5 : Ext W4 w5 := Ext.trans ((Ext.refl _).drew) hx5; have k0 := hy5.keep1 c0; have k1 := hy5.keep1 c1; have k2 := hy5.keep1 c2; have k3 := hy5.keep1 c3; have k4 := hy5.keep1 c4)
      | (go_at_call_of 39 (Tr.addr T2); refine (K2.out _ ?_).mono ?_; exact hy5; rintro e w6 ⟨rfl, hx6⟩; have hy6 : Ext W4 w6 := Ext.trans hy5 hx6; have k0 := hy6.keep1 c0; have k1 := hy6.keep1 c1; have k2 := hy6.keep1 c2; have k3 := hy6.keep1 c3; have k4 := hy6.keep1 c4)
      | (go_at_call 99; refine (Text_any X D1 D2 HS.out.1 HS.out.2.1 HS.out.2.2 g1 g2 _).mono ?_; rintro e w7 ⟨rfl, hx7⟩; have hy7 : Ext W4 w7 := Ext.trans hy6 hx7; have k0 := hy7.keep1 c0; have k1 := hy7.keep1 c1; have k2 := hy7.keep1 c2; have k3 := hy7.keep1 c3; have k4 := hy7.keep1 c4)
      | (go_at_call 49; refine (of_any _ _ HTS.out).mono ?_; rintro e w8 ⟨rfl, hx8⟩; have hy8 : Ext W4 w8 := Ext.trans hy7 hx8; have k0 := hy8.keep1 c0; have k1 := hy8.keep1 c1; have k2 := hy8.keep1 c2; have k3 := hy8.keep1 c3; have k4 := hy8.keep1 c4; have k5 := hy8.keep1 c5; have f5 : w8.frozen? ⟨w3.heap.size, 5, none⟩ = false := frozen_of_row _ _ _ _ _ (hy8.row HR.out); have s0 := fun u => set_far w8 w3.heap.size 5 0 u (by decide) k0; have s1 := fun u => set_far w8 w3.heap.size 5 1 u (by decide) k1; have s2 := fun u => set_far w8 w3.heap.size 5 2 u (by decide) k2; have s3 := fun u => set_far w8 w3.heap.size 5 3 u (by decide) k3; have s4 := fun u => set_far w8 w3.heap.size 5 4 u (by decide) k4))
  go_wp2_with fail
  go_ret
  have hfin : Ext w3 (w8.setCell ⟨w3.heap.size, 5, none⟩ (.string (Sm.sum (head X ++ D1 ++ D2)))) := Ext.setCell (hx4.trans hy8) (Nat.le_refl _) _
  have hrow8 := heap_setCell_same w8 w3.heap.size 5 _ 119 (.string (Sm.sum (head X ++ D1 ++ D2))) (hy8.row HR.out)
  refine ⟨.node w3.heap.size X T1 T2 (dig L), rfl, (hx.trans hy3).trans hfin, ⟨?_, HI1.out.ext (hx3.trans hfin), HI2.out.ext hfin⟩, ⟨H0.out, HX.out, HS1.out, HS2.out, rfl⟩⟩
  rw [HD.out]
  exact hrow8

theorem Of_all : ∀ n, OfSaid n := by
  intro n
  induction n with
  | zero =>
    intro L v w h1 h2 hs hv
    obtain rfl : L = [] := List.eq_nil_of_length_eq_zero (by omega)
    exact Of_nil v w hv
  | succ n ih =>
    intro L v w h1 h2 hs hv
    by_cases h0 : L = []
    · subst h0; exact Of_nil v w hv
    · rcases hv.cases with ⟨_, q⟩ | ⟨b, o, cap, rfl, h3, h4, h5, h6⟩
      · exact absurd q h0
      · exact Of_step n ih L h0 h1 h2 hs b o cap w h3 h5 h6 hv
theorem Good.small {L : List It} (h : Good L) : Small L := fun x hx => by
  obtain ⟨h1, h2, h3⟩ := h.2.2 x hx
  simp [keyB, valB] at h1 h2
  exact ⟨h1.2, h2, h3⟩
theorem Of_any (L : List It) (hg : Good L) (v : Value) (w : World) (hv : Its w v L) :
    Calls Tryz.prog 67 #[v] w fun e w' => ∃ T : Tr, e = .returned (.pointer T.addr) ∧ Ext w w' ∧ T.In w' ∧ Shape T L := Of_all 50 L v w hg.2.1 hg.2.1 hg.small hv
end Go.Proofs.YtjohkmkgmbihkaaGreatDoor
