/- The walks of the document's book: its digest. -/
import Derived.Test.YtjohkmkgmbihkaaGreatDoorRefB
namespace Go.Proofs.YtjohkmkgmbihkaaGreatDoor
set_option linter.unusedVariables false
open Go.ChangeShapes Go.WideShapes Go.ChangeAt Go.RowKit
attribute [local go_sem ↓] Go.wp_at_zero Go.wp_at_succ

set_option maxHeartbeats 400000 in
set_option maxRecDepth 100000 in
theorem rOne_any (n : Int) (h0 : 0 ≤ n) (h1 : n < 256) (w : World) :
    Calls Tryz.prog 119 #[.int .i64 n] w fun e w' => e = .returned (.string (byte n.toNat)) ∧ Ext w w' := by
  have hcv := conv1 w
  go_enter Tryz.func119, Tryz.ntmps119
  go_wp2_with fail
  go_ret
  exact ⟨ret_str (byte_str n h0 h1), (Ext.refl _).alloc _⟩

set_option maxHeartbeats 2000000 in
set_option maxRecDepth 100000 in
theorem rHead_any (x : It) (hk : x.key.size ≤ 8) (hv : x.val.size ≤ 20) (hh : x.h ≤ 15) (w : World) :
    Calls Tryz.prog 90 #[x.val'] w fun e w' => e = .returned (.string (head x)) ∧ Ext w w' := by
  have z1 := byte_size x.key.size
  have z2 := byte_size x.val.size
  have z3 := byte_size x.h
  have d0 := cell_new w #[.string x.key, .string x.val, .int .i64 x.h] 110 0
  have d1 := cell_new w #[.string x.key, .string x.val, .int .i64 x.h] 110 1
  have d2 := cell_new w #[.string x.key, .string x.val, .int .i64 x.h] 110 2
  have hx0 := (Ext.refl w).alloc (.cells #[.string x.key, .string x.val, .int .i64 x.h] 110)
  have n1 : ¬ 9223372036854775807 < 1 + 1 := by omega
  have n2 : ¬ 9223372036854775807 < 1 + 1 + x.key.size := by omega
  have n3 : ¬ 9223372036854775807 < 1 + 1 + x.key.size + 1 := by omega
  have n4 : ¬ 9223372036854775807 < 1 + 1 + x.key.size + 1 + x.val.size := by omega
  have n5 : ¬ 9223372036854775807 < 1 + 1 + x.key.size + 1 + x.val.size + 1 := by omega
  go_enter Tryz.func90, Tryz.ntmps90
  go_wp2_with fail
  generalize w.alloc (.cells #[.string x.key, .string x.val, .int .i64 x.h] 110) = W0 at *
  replace d0 : W0.cell? ⟨w.heap.size, 0, none⟩ = some (.string x.key) := d0
  replace d1 : W0.cell? ⟨w.heap.size, 1, none⟩ = some (.string x.val) := d1
  replace d2 : W0.cell? ⟨w.heap.size, 2, none⟩ = some (.int .i64 x.h) := d2
  go_region_held3 (fun w' => w'.cell? ⟨w.heap.size, 0, none⟩ = some (.string x.key) ∧ w'.cell? ⟨w.heap.size, 1, none⟩ = some (.string x.val) ∧ w'.cell? ⟨w.heap.size, 2, none⟩ = some (.int .i64 x.h)) (go_keep)
    (first
      | (go_at_call 119; refine (rOne_any _ ?_ ?_ _).mono ?_; omega; omega; rintro e w1 ⟨rfl, hx1⟩; have hy : Ext W0 w1 := Ext.trans (by first | assumption | exact (Ext.refl _).drew) hx1; have c0 := hy.keep1 d0; have c1 := hy.keep1 d1; have c2 := hy.keep1 d2; rw [Int.toNat_natCast]; clear hx1))
  go_wp2_with fail
  go_ret
  exact ⟨rfl, hx0.trans (by assumption)⟩

set_option maxHeartbeats 1000000 in
set_option maxRecDepth 100000 in
theorem rTop_any (L : List It) (h0 : L ≠ []) (hn : L.length ≤ 50) (v : Value) (w : World) (hv : Its w v L) :
    Calls Tryz.prog 89 #[v] w fun e w' => e = .returned (.int .i64 (top L)) ∧ Ext w w' := by
  rcases hv.cases with ⟨_, q⟩ | ⟨b, o, cap, rfl, h3, h4, h5, h6⟩
  · exact absurd q h0
  · have hpos := List.length_pos_iff.2 h0
    have H6 := hid h6
    have HT1 := hid (topTo_one L)
    clear h6 hv h0
    go_enter Tryz.func89, Tryz.ntmps89
    go_wp2_with fail
    go_loopw [3, 4] (fun t i wr => ∃ k : Nat, 1 ≤ k ∧ k ≤ L.length ∧ i = .int .i64 k ∧ t = .int .i64 (topTo L k) ∧ Ext w wr) (fun _ i _ => L.length - (intOf i).toNat)
    case atStart => exact ⟨1, Nat.le_refl _, by omega, rfl, by rw [HT1.out]; rfl, Ext.refl _⟩
    case round =>
      obtain ⟨k, hk1, hk, rfl, rfl, hx⟩ := hrel
      have hle := topTo_le L k
      by_cases hlt : k < L.length
      · have ht : topTo L k < L.length := by omega
        have hsucc := topTo_succ L k hlt ht
        obtain ⟨a1, a2, a3⟩ := item_cells (cells_ext hx h5 H6.out) hlt
        obtain ⟨b1, b2, b3⟩ := item_cells (cells_ext hx h5 H6.out) ht
        by_cases hc : L[topTo L k].h < L[k].h
        · rw [if_pos hc] at hsucc
          have HS := hid hsucc
          clear hsucc
          have hci : (L[topTo L k].h : Int) < (L[k].h : Int) := by omega
          go_wp2_with fail
          go_quiet (fail)
          go_wp2_with fail
          go_roundw
          case rel => exact ⟨k + 1, by omega, by omega, by go_num, by rw [HS.out], hx.drewN _⟩
          case measure => simp [intOf]; omega
        · rw [if_neg hc] at hsucc
          have HS := hid hsucc
          clear hsucc
          have hci : ¬ (L[topTo L k].h : Int) < (L[k].h : Int) := by omega
          go_wp2_with fail
          go_quiet (fail)
          go_wp2_with fail
          go_roundw
          case rel => exact ⟨k + 1, by omega, by omega, by go_num, by rw [HS.out], hx.drewN _⟩
          case measure => simp [intOf]; omega
      · have e : k = L.length := by omega
        subst e
        go_wp2_with fail
        go_ret
        exact ⟨rfl, hx⟩

def rDigSaid (n : Nat) : Prop := ∀ (L : List It) (v : Value) (w : World), L.length ≤ n → L.length ≤ 50 → Small L → Its w v L →
  Calls Tryz.prog 55 #[v] w fun e w' => e = .returned (.string (dig L)) ∧ Ext w w'

set_option maxHeartbeats 400000 in
set_option maxRecDepth 100000 in
theorem rDig_nil (v : Value) (w : World) (hv : Its w v []) : Calls Tryz.prog 55 #[v] w fun e w' => e = .returned (.string (dig [])) ∧ Ext w w' := by
  obtain ⟨a, cap, e, _⟩ := hv.shape
  subst e
  clear hv
  go_enter Tryz.func55, Tryz.ntmps55
  go_wp2_with fail
  refine (refSum_any ⟨#[69]⟩ _ (by decide)).mono ?_
  rintro e w1 ⟨rfl, n, rfl⟩
  go_wp2_with fail
  go_ret
  exact ⟨rfl, (Ext.refl _).drewN _⟩

set_option maxHeartbeats 1000000 in
set_option maxRecDepth 100000 in
theorem rDig_step (n : Nat) (ih : rDigSaid n) (L : List It) (h0 : L ≠ []) (hn1 : L.length ≤ n + 1) (hn : L.length ≤ 50) (hs : Small L) (b o cap : Nat) (w : World) (hcap : L.length ≤ cap) (hb : b < w.heap.size)
    (hc : ∀ j u, (cellsOf L)[j]? = some u → w.cell? ⟨b, o + j, none⟩ = some u) (hv : Its w (.slice (some ⟨b, o, none⟩) L.length cap) L) :
    Calls Tryz.prog 55 #[.slice (some ⟨b, o, none⟩) L.length cap] w fun e w' => e = .returned (.string (dig L)) ∧ Ext w w' := by
  have ht := top_lt h0
  obtain ⟨V1, e1⟩ : ∃ V, V = sliced (some ⟨b, o, none⟩) 0 (top L) cap 3 := ⟨_, rfl⟩
  obtain ⟨V2, e2⟩ : ∃ V, V = sliced (some ⟨b, o, none⟩) (top L + 1) L.length cap 3 := ⟨_, rfl⟩
  have r1 : ∀ w, (Instr.slice 97 (.slice (some ⟨b, o, none⟩) L.length cap) none (some (.int .i64 (top L : Int))) none).run Tryz.prog w = .ok V1 w := fun w => by rw [e1]; exact cutI_h _ L.length cap (top L) (by omega) w
  have r2 : ∀ w, (Instr.slice 97 (.slice (some ⟨b, o, none⟩) L.length cap) (some (.int .i64 ((top L : Int) + 1))) none none).run Tryz.prog w = .ok V2 w := fun w => by rw [e2]; exact cutI_l _ L.length cap (top L + 1) (by omega) w
  have i1 := hv.take (i := top L) (by omega)
  have i2 := hv.drop (i := top L + 1) ht
  rw [← e1] at i1
  rw [← e2] at i2
  have C1 := hid (fun w' (hx : Ext w w') => ih _ V1 w' (by simp; omega) (by simp; omega) (hs.take _) (i1.ext hx))
  have C2 := hid (fun w' (hx : Ext w w') => ih _ V2 w' (by simp; omega) (by simp; omega) (hs.drop _) (i2.ext hx))
  obtain ⟨X, hX⟩ : ∃ X, X = L[top L]'ht := ⟨_, rfl⟩
  have HS := hid (show X.key.size ≤ 8 ∧ X.val.size ≤ 20 ∧ X.h ≤ 15 by rw [hX]; exact hs.get ht)
  have HD := hid (show dig L = Sm.sum (head X ++ dig (L.take (top L)) ++ dig (L.drop (top L + 1))) by rw [hX]; exact dig_node h0)
  have HX := hid hX
  have HC := hid hc
  have HV := hid hv
  have H0 := hid h0
  have hpos : 0 < L.length := List.length_pos_iff.2 h0
  have g1 := dig_size (L.take (top L))
  have g2 := dig_size (L.drop (top L + 1))
  have hhd : (head X).size ≤ 40 := by have := HS.out; rw [head_size]; omega
  generalize dig (L.take (top L)) = D1 at *
  generalize dig (L.drop (top L + 1)) = D2 at *
  have t2 : (top L : Int) < (L.length : Int) := by omega
  have HSZ := hid (show (head X ++ D1 ++ D2).size ≤ maxLen by rw [ByteArray.size_append, ByteArray.size_append]; unfold maxLen; omega)
  clear e1 e2 i1 i2 hv hc ih h0 hX
  go_enter Tryz.func55, Tryz.ntmps55
  go_wp2_with fail
  refine (rTop_any L H0.out hn _ _ HV.out).mono ?_
  rintro e w1 ⟨rfl, hx⟩
  go_wp2_with fail
  refine (C1.out _ hx).mono ?_
  rintro e w2 ⟨rfl, hx2⟩
  go_wp2_with fail
  refine (C2.out _ (hx.trans hx2)).mono ?_
  rintro e w3 ⟨rfl, hx3⟩
  obtain ⟨d0, d1, d2⟩ := item_cells (cells_ext ((hx.trans hx2).trans hx3) hb HC.out) ht
  rw [← HX.out] at d0 d1 d2
  go_wp2_with fail
  refine (rHead_any X HS.out.1 HS.out.2.1 HS.out.2.2 _).mono ?_
  rintro e w4 ⟨rfl, hx4⟩
  go_wp2_with fail
  refine (refSum_any _ _ HSZ.out).mono ?_
  rintro e w5 ⟨rfl, nn, rfl⟩
  go_wp2_with fail
  go_ret
  exact ⟨ret_str HD.out.symm, (((hx.trans hx2).trans hx3).trans hx4).drewN _⟩

theorem rDig_all : ∀ n, rDigSaid n := by
  intro n
  induction n with
  | zero =>
    intro L v w h1 h2 hs hv
    obtain rfl : L = [] := List.eq_nil_of_length_eq_zero (by omega)
    exact rDig_nil v w hv
  | succ n ih =>
    intro L v w h1 h2 hs hv
    by_cases h0 : L = []
    · subst h0; exact rDig_nil v w hv
    · rcases hv.cases with ⟨_, q⟩ | ⟨b, o, cap, rfl, h3, h4, h5, h6⟩
      · exact absurd q h0
      · exact rDig_step n ih L h0 h1 h2 hs b o cap w h3 h5 h6 hv
theorem rDigest_any (L : List It) (hg : Good L) (v : Value) (w : World) (hv : Its w v L) :
    Calls Tryz.prog 55 #[v] w fun e w' => e = .returned (.string (dig L)) ∧ Ext w w' := rDig_all 50 L v w hg.2.1 hg.2.1 hg.small hv

set_option maxHeartbeats 1000000 in
set_option maxRecDepth 100000 in
theorem rWithin_any (b : Nat) (v : Value) (L : List It) (w : World) (hB : Rf w b v L) :
    Calls Tryz.prog 52 #[.pointer (some ⟨b, 0, none⟩), .string ⟨#[]⟩, .string ⟨#[]⟩] w
      fun e w' => ∃ v', e = .returned v' ∧ Ext w w' ∧ w'.ownsRow w.heap.size 53 2 v' (L.map It.pr).length (pc (L.map It.pr)) := by
  have hc := hB.cell
  have hblt := hB.lt
  have hn := hB.2.2.2.1
  obtain ⟨a, cap, ev, h1, h2⟩ := hB.its.shape
  subst ev
  have HI := hid hB.its
  clear hB
  go_enter Tryz.func52, Tryz.ntmps52
  go_wp2_with fail
  go_loopw [7, 8, 9] (fun v i _ wr => ∃ k : Nat, k ≤ L.length ∧ i = .int .i64 k ∧ Ext w wr ∧ wr.ownsRow w.heap.size 53 2 v ((L.take k).map It.pr).length (pc ((L.take k).map It.pr))) (fun _ i _ _ => L.length - (intOf i).toNat)
  case atStart => exact ⟨0, Nat.zero_le _, rfl, Ext.refl _, World.ownsRow_nil _ _ _ _⟩
  case round =>
    obtain ⟨k, hk, rfl, hx, hown⟩ := hrel
    have hcr := hx.keep1 hc
    by_cases hlt : k < L.length
    · rcases HI.out.cases with ⟨_, q⟩ | ⟨b1, o1, c1, q1, _, _, hb1, g1⟩
      · rw [q] at hlt; simp at hlt
      simp only [Value.slice.injEq] at q1
      obtain ⟨rfl, _, rfl⟩ := q1
      obtain ⟨d1, d2, d3⟩ := item_cells (cells_ext hx hb1 g1) hlt
      clear g1
      have e : (L.take (k + 1)).map It.pr = (L.take k).map It.pr ++ [(L[k].key, L[k].val)] := by
        rw [List.take_succ_eq_append_getElem hlt, List.map_append]; rfl
      have hxA := hx.alloc (.cells #[.string L[k].key, .string L[k].val, .int .i64 L[k].h] 110)
      obtain ⟨v', w', hr, ho, hx', _⟩ := append_pair w _ u7 _ (L[k].key, L[k].val) hxA (hown.alloc _) (by simp; omega)
      rw [← e] at ho
      simp only [World.size_alloc] at hr
      have HO := hid ho
      have HR := hid hr
      clear ho hr hown e
      go_wp2_with (at_builtin; refine wpList_append_run rfl _ _ 27 27 rfl u7 (.slice (some ⟨wr.heap.size + 1, 0, none⟩) 1 1) rfl rfl _ _ HR.out ?_)
      go_roundw
      case rel => exact ⟨k + 1, by omega, by go_num, hx', HO.out⟩
      case measure => simp [intOf]; omega
    · have e : L.take k = L := List.take_of_length_le (by omega)
      rw [e] at hown
      have HO := hid hown
      clear hown e
      go_wp2_with fail
      go_ret
      exact ⟨_, rfl, hx, HO.out⟩
end Go.Proofs.YtjohkmkgmbihkaaGreatDoor
