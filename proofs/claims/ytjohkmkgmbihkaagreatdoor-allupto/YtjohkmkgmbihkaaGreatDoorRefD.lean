/- The walks of the document's book: its answers. -/
import Derived.Test.YtjohkmkgmbihkaaGreatDoorRefC
namespace Go.Proofs.YtjohkmkgmbihkaaGreatDoor
set_option linter.unusedVariables false
open Go.ChangeShapes Go.WideShapes Go.ChangeAt Go.RowKit
attribute [local go_sem ↓] Go.wp_at_zero Go.wp_at_succ

set_option maxHeartbeats 400000 in
set_option maxRecDepth 100000 in
theorem rMatters_any (lo hi low high : ByteArray) (w : World) :
    Calls Tryz.prog 61 #[.string lo, .string hi, .string low, .string high] w fun e w' => e = .returned (.bool (mat lo hi low high)) ∧ w' = w := by
  go_enter Tryz.func61, Tryz.ntmps61
  go_wp2_with fail
  all_goals
    go_ret
    refine ⟨?_, rfl⟩
    rw [mat_eq]
    simp [*]

set_option maxHeartbeats 400000 in
set_option maxRecDepth 100000 in
theorem rAsked_any (lo hi : ByteArray) (w : World) :
    Calls Tryz.prog 31 #[.string lo, .string hi] w fun e w' => e = .returned (.int .i64 (askE lo hi)) ∧ w' = w := by
  cases e1 : keyB lo with
  | false =>
    have HF := hid (show askE lo hi = 1 by simp [askE, e1])
    have E1 := hid e1
    clear e1
    go_enter Tryz.func31, Tryz.ntmps31
    go_wp2_with fail
    refine (rKey_any _ _).mono ?_
    rintro e w1 ⟨rfl, rfl⟩
    rw [E1.out]
    go_wp2_with fail
    refine (rKey_any _ _).mono ?_
    rintro e w1 ⟨rfl, rfl⟩
    go_wp2_with fail
    go_ret
    exact ⟨ret_int HF.out.symm, rfl⟩
  | true =>
    cases e2 : keyB hi with
    | false =>
      have HF := hid (show askE lo hi = 1 by simp [askE, e1, e2])
      have E1 := hid e1
      have E2 := hid e2
      clear e1 e2
      go_enter Tryz.func31, Tryz.ntmps31
      go_wp2_with fail
      refine (rKey_any _ _).mono ?_
      rintro e w1 ⟨rfl, rfl⟩
      rw [E1.out]
      go_wp2_with fail
      refine (rKey_any _ _).mono ?_
      rintro e w1 ⟨rfl, rfl⟩
      rw [E2.out]
      go_wp2_with fail
      go_ret
      exact ⟨ret_int HF.out.symm, rfl⟩
    | true =>
      have HF := hid (show askE lo hi = if Op.bytesLess lo.toList hi.toList || lo.toList == hi.toList then 0 else 6 by simp [askE, e1, e2])
      have E1 := hid e1
      have E2 := hid e2
      clear e1 e2
      go_enter Tryz.func31, Tryz.ntmps31
      go_wp2_with fail
      refine (rKey_any _ _).mono ?_
      rintro e w1 ⟨rfl, rfl⟩
      rw [E1.out]
      go_wp2_with fail
      refine (rKey_any _ _).mono ?_
      rintro e w1 ⟨rfl, rfl⟩
      rw [E2.out]
      go_wp2_with fail
      all_goals
        go_ret
        rename_i hq
        refine ⟨?_, rfl⟩
        rw [HF.out]
        simp
        first | (simpa using hq; done) | (intro ha; simpa [ha] using hq)

def rAnsSaid (lo hi : ByteArray) (n : Nat) : Prop := ∀ (L : List It) (v : Value) (low high : ByteArray) (w : World), L.length ≤ n → L.length ≤ 50 → Small L → Its w v L →
  Calls Tryz.prog 88 #[v, .string lo, .string hi, .string low, .string high] w fun e w' => e = .returned (.string (ans lo hi L low high)) ∧ Ext w w'

set_option maxHeartbeats 400000 in
set_option maxRecDepth 100000 in
theorem rAns_not (lo hi : ByteArray) (L : List It) (v : Value) (low high : ByteArray) (w : World) (hm : mat lo hi low high = false) (hn : L.length ≤ 50) (hs : Small L) (hv : Its w v L) :
    Calls Tryz.prog 88 #[v, .string lo, .string hi, .string low, .string high] w fun e w' => e = .returned (.string (ans lo hi L low high)) ∧ Ext w w' := by
  have HM := hid hm
  have HA := hid (ans_not hm L)
  have HV := hid hv
  have HS := hid hs
  have g := dig_size L
  clear hm hv hs
  go_enter Tryz.func88, Tryz.ntmps88
  go_wp2_with fail
  refine (rMatters_any lo hi low high _).mono ?_
  rintro e w1 ⟨rfl, hw1⟩
  replace hw1 := hw1.symm
  subst hw1
  rw [HM.out]
  go_wp2_with fail
  refine (rDig_all 50 L _ _ hn hn HS.out HV.out).mono ?_
  rintro e w2 ⟨rfl, hx2⟩
  go_wp2_with fail
  go_ret
  exact ⟨ret_str HA.out.symm, hx2⟩

set_option maxHeartbeats 400000 in
set_option maxRecDepth 100000 in
theorem rAns_nil (lo hi : ByteArray) (v : Value) (low high : ByteArray) (w : World) (hm : mat lo hi low high = true) (hv : Its w v []) :
    Calls Tryz.prog 88 #[v, .string lo, .string hi, .string low, .string high] w fun e w' => e = .returned (.string (ans lo hi [] low high)) ∧ Ext w w' := by
  have HM := hid hm
  have HA := hid (ans_nil hm)
  obtain ⟨a, cap, e, _⟩ := hv.shape
  subst e
  clear hm hv
  go_enter Tryz.func88, Tryz.ntmps88
  go_wp2_with fail
  refine (rMatters_any lo hi low high _).mono ?_
  rintro e w1 ⟨rfl, rfl⟩
  rw [HM.out]
  go_wp2_with fail
  go_ret
  exact ⟨ret_str HA.out.symm, Ext.refl _⟩

set_option maxHeartbeats 2000000 in
set_option maxRecDepth 100000 in
theorem rAns_step (lo hi : ByteArray) (n : Nat) (ih : rAnsSaid lo hi n) (L : List It) (h0 : L ≠ []) (low high : ByteArray) (hm : mat lo hi low high = true) (hn1 : L.length ≤ n + 1) (hn : L.length ≤ 50) (hs : Small L) (b o cap : Nat) (w : World) (hcap : L.length ≤ cap) (hb : b < w.heap.size)
    (hc : ∀ j u, (cellsOf L)[j]? = some u → w.cell? ⟨b, o + j, none⟩ = some u) (hv : Its w (.slice (some ⟨b, o, none⟩) L.length cap) L) :
    Calls Tryz.prog 88 #[.slice (some ⟨b, o, none⟩) L.length cap, .string lo, .string hi, .string low, .string high] w fun e w' => e = .returned (.string (ans lo hi L low high)) ∧ Ext w w' := by
  have ht := top_lt h0
  obtain ⟨V1, e1⟩ : ∃ V, V = sliced (some ⟨b, o, none⟩) 0 (top L) cap 3 := ⟨_, rfl⟩
  obtain ⟨V2, e2⟩ : ∃ V, V = sliced (some ⟨b, o, none⟩) (top L + 1) L.length cap 3 := ⟨_, rfl⟩
  have r1 : ∀ w, (Instr.slice 97 (.slice (some ⟨b, o, none⟩) L.length cap) none (some (.int .i64 (top L : Int))) none).run Tryz.prog w = .ok V1 w := fun w => by rw [e1]; exact cutI_h _ L.length cap (top L) (by omega) w
  have r2 : ∀ w, (Instr.slice 97 (.slice (some ⟨b, o, none⟩) L.length cap) (some (.int .i64 ((top L : Int) + 1))) none none).run Tryz.prog w = .ok V2 w := fun w => by rw [e2]; exact cutI_l _ L.length cap (top L + 1) (by omega) w
  have wr1 : IntKind.i64.wrap ((top L : Int) + 1) = (top L : Int) + 1 := by rw [IntKind.wrap_i64]; omega
  have i1 := hv.take (i := top L) (by omega)
  have i2 := hv.drop (i := top L + 1) ht
  rw [← e1] at i1
  rw [← e2] at i2
  obtain ⟨X, hX⟩ : ∃ X, X = L[top L]'ht := ⟨_, rfl⟩
  have C1 := hid (fun w' (hx : Ext w w') => ih _ V1 low X.key w' (by simp; omega) (by simp; omega) (hs.take _) (i1.ext hx))
  have C2 := hid (fun w' (hx : Ext w w') => ih _ V2 X.key high w' (by simp; omega) (by simp; omega) (hs.drop _) (i2.ext hx))
  have HS := hid (show X.key.size ≤ 8 ∧ X.val.size ≤ 20 ∧ X.h ≤ 15 by rw [hX]; exact hs.get ht)
  have HA := hid (show ans lo hi L low high = head X ++ ans lo hi (L.take (top L)) low X.key ++ ans lo hi (L.drop (top L + 1)) X.key high by rw [hX]; exact ans_node hm h0)
  have za := ans_size lo hi 50 (L.take (top L)) low X.key (by simp; omega) (hs.take _)
  have zb := ans_size lo hi 50 (L.drop (top L + 1)) X.key high (by simp; omega) (hs.drop _)
  have zl : (L.take (top L)).length ≤ 50 := by simp; omega
  have zr : (L.drop (top L + 1)).length ≤ 50 := by simp; omega
  generalize ans lo hi (L.take (top L)) low X.key = A1 at *
  generalize ans lo hi (L.drop (top L + 1)) X.key high = A2 at *
  have hhd : (head X).size ≤ 40 := by have := HS.out; rw [head_size]; omega
  have y1 : A1.size ≤ 2000 := by omega
  have y2 : A2.size ≤ 2000 := by omega
  have HX := hid hX
  have HC := hid hc
  have HV := hid hv
  have H0 := hid h0
  have HM := hid hm
  have hpos : 0 < L.length := List.length_pos_iff.2 h0
  have t1 : (0 : Int) ≤ (top L : Int) := Int.natCast_nonneg _
  have t2 : (top L : Int) < (L.length : Int) := by omega
  clear e1 e2 i1 i2 hv hc ih h0 hX hm za zb zl zr hs
  go_enter Tryz.func88, Tryz.ntmps88
  go_wp2_with fail
  refine (rMatters_any lo hi low high _).mono ?_
  rintro e w1 ⟨rfl, hw1⟩
  replace hw1 := hw1.symm
  subst hw1
  rw [HM.out]
  go_wp2_with fail
  refine (rTop_any L H0.out hn _ _ HV.out).mono ?_
  rintro e w1 ⟨rfl, hx⟩
  obtain ⟨d0, _, _⟩ := item_cells (cells_ext hx hb HC.out) ht
  rw [← HX.out] at d0
  go_wp2_with fail
  go_region_held3 (fun w' => w'.cell? ⟨b, o + top L * 3, none⟩ = some (.string X.key)) (go_keep)
    (first
      | (go_at_call_of 88 V1; refine (C1.out _ hx.drew).mono ?_; rintro e w2 ⟨rfl, hx2⟩; have hy2 : Ext w1 w2 := Ext.trans ((Ext.refl _).drew) hx2; have c0 := hy2.keep1 d0))
  go_wp2_with fail
  go_region_held3 (fun w' => w'.cell? ⟨b, o + top L * 3, none⟩ = some (.string X.key)) (go_keep)
    (first
      | (go_at_call_of 88 V2; refine (C2.out _ (hx.trans hy2).drew).mono ?_; rintro e w3 ⟨rfl, hx3⟩; have hy3 : Ext w2 w3 := Ext.trans ((Ext.refl _).drew) hx3; have c1 := hy3.keep1 c0))
  have hx3' := (hx.trans hy2).trans hy3
  obtain ⟨f0, f1, f2⟩ := item_cells (cells_ext hx3' hb HC.out) ht
  rw [← HX.out] at f0 f1 f2
  go_wp2_with fail
  refine (rHead_any X HS.out.1 HS.out.2.1 HS.out.2.2 _).mono ?_
  rintro e w4 ⟨rfl, hx4⟩
  go_wp2_with fail
  go_ret
  exact ⟨ret_str HA.out.symm, hx3'.trans hx4⟩

theorem rAns_all (lo hi : ByteArray) : ∀ n, rAnsSaid lo hi n := by
  intro n
  induction n with
  | zero =>
    intro L v low high w h1 h2 hs hv
    cases hm : mat lo hi low high with
    | false => exact rAns_not lo hi L v low high w hm h2 hs hv
    | true =>
      obtain rfl : L = [] := List.eq_nil_of_length_eq_zero (by omega)
      exact rAns_nil lo hi v low high w hm hv
  | succ n ih =>
    intro L v low high w h1 h2 hs hv
    cases hm : mat lo hi low high with
    | false => exact rAns_not lo hi L v low high w hm h2 hs hv
    | true =>
      by_cases h0 : L = []
      · subst h0; exact rAns_nil lo hi v low high w hm hv
      · rcases hv.cases with ⟨_, q⟩ | ⟨b, o, cap, rfl, h3, h4, h5, h6⟩
        · exact absurd q h0
        · exact rAns_step lo hi n ih L h0 low high hm h1 h2 hs b o cap w h3 h5 h6 hv

set_option maxHeartbeats 1000000 in
set_option maxRecDepth 100000 in
theorem rProve_any (b : Nat) (v : Value) (L : List It) (lo hi : ByteArray) (w : World) (hB : Rf w b v L) :
    Calls Tryz.prog 54 #[.pointer (some ⟨b, 0, none⟩), .string lo, .string hi] w
      fun e w' => e = .returned (.tuple #[.string (proveV L lo hi), .int .i64 (askE lo hi)]) ∧ Ext w w' := by
  have HB := hid hB
  have hc := hB.cell
  clear hB
  by_cases e1 : askE lo hi = 0
  · have HP := hid (show proveV L lo hi = ans lo hi L ⟨#[]⟩ ⟨#[]⟩ by simp [proveV, e1])
    have E1 := hid e1
    clear e1
    go_enter Tryz.func54, Tryz.ntmps54
    go_wp2_with fail
    refine (rAsked_any lo hi _).mono ?_
    rintro e w1 ⟨rfl, hw1⟩
    replace hw1 := hw1.symm
    subst hw1
    rw [E1.out]
    go_wp2_with fail
    refine (rAns_all lo hi 50 L v ⟨#[]⟩ ⟨#[]⟩ _ HB.out.2.2.2.1 HB.out.2.2.2.1 HB.out.2.2.small HB.out.its).mono ?_
    rintro e w2 ⟨rfl, hx⟩
    go_wp2_with fail
    go_ret2
    exact ⟨ret_si HP.out.symm E1.out.symm, hx⟩
  · have HP := hid (show proveV L lo hi = ⟨#[]⟩ by simp [proveV, e1])
    have E1 : (askE lo hi != 0) = true := by simpa using e1
    go_enter Tryz.func54, Tryz.ntmps54
    go_wp2_with fail
    refine (rAsked_any lo hi _).mono ?_
    rintro e w1 ⟨rfl, rfl⟩
    go_wp2_with fail
    go_ret2
    exact ⟨ret_si HP.out.symm rfl, Ext.refl _⟩
end Go.Proofs.YtjohkmkgmbihkaaGreatDoor
