/- For all steps and every three texts: the answer of a book that was filled by the steps passes with its digest and tells what the book has from lo to hi; it passes with no other digest. No condition; the one listed variable is tied to the program's text. -/
import Derived.Test.YtjohkmkgmbihkaaGreatDoorChkB
import Derived.Test.YtjohkmkgmbihkaaGreatDoorAnsRead3
import Derived.Test.YtjohkmkgmbihkaaGreatDoorKeepF
import Derived.Test.YtjohkmkgmbihkaaGreatDoorStepsRow
import Derived.Test.YtjohkmkgmbihkaaGreatDoorLaid
namespace Go.Proofs.YtjohkmkgmbihkaaGreatDoor
set_option linter.unusedVariables false
open Go.ChangeShapes Go.WideShapes Go.ChangeAt Go.RowKit
theorem ask_inR (lo hi k : ByteArray) : askB lo hi k = inR lo hi k := by
  unfold askB inR
  congr 1
  cases h1 : Op.bytesLess k.toList lo.toList with
  | true =>
    have h2 : lt lo k = false := lt_asymm (show lt k lo = true from h1)
    have h3 : beq lo k = false := beq_false.2 (fun e => by subst e; rw [bl_irrefl] at h1; cases h1)
    show (lt lo k || beq lo k) = !true
    rw [h2, h3]; rfl
  | false =>
    cases h2 : Op.bytesLess lo.toList k.toList with
    | true => rfl
    | false =>
      have := bl_tri _ _ h1 h2
      simp [this]
theorem askL_within (lo hi : ByteArray) (L : List It) : askL lo hi L = withinP (prs L) lo hi := by
  unfold askL withinP prs
  rw [List.filter_map]
  congr 1
  apply List.filter_congr
  intro x _
  simp [It.pr, ask_inR]
theorem good_fault {L : List It} (h : Good L) : ∀ x ∈ L, fault x.key x.val x.h = 0 := fun x hx => by
  obtain ⟨h1, h2, h3⟩ := h.2.2 x hx
  have h4 : hgtB (x.h : Int) = true := decide_eq_true ⟨by omega, by omega⟩
  simp [fault, h1, h2, h4]
/-- What Check answers of a book's own answer. -/
theorem chk_own {L : List It} (hg : Good L) (dg lo hi : ByteArray) (ha : askE lo hi = 0) :
    chkE dg lo hi (proveV L lo hi) = (if beq (dig L) dg then 0 else 9) ∧ chkL dg lo hi (proveV L lo hi) = if beq (dig L) dg then withinP (prs L) lo hi else [] := by
  have hp : proveV L lo hi = ans lo hi L e0 e0 := by unfold proveV; rw [if_pos ha]
  have hr := rdA_ans lo hi L (good_fault hg) hg.2.1
  have hl : lookE lo hi (ans lo hi L e0 e0) = 0 := by
    unfold lookE
    rw [if_neg (by simp [ha]), hr]
    simp [okT_ofL lo hi hg.1]
  rw [hp]
  have hc : chkE dg lo hi (ans lo hi L e0 e0) = if beq (dig L) dg then 0 else 9 := by
    unfold chkE
    rw [if_neg (by simp [hl]), hr]
    simp [digT_ofL]
  refine ⟨hc, ?_⟩
  unfold chkL
  rw [hc, hr]
  cases hb : beq (dig L) dg with
  | true => simp [prsT_ofL lo hi hg.1, askL_within]
  | false => simp
theorem chk_not (L : List It) (dg lo hi : ByteArray) (ha : askE lo hi ≠ 0) : chkE dg lo hi (proveV L lo hi) = askE lo hi ∧ chkL dg lo hi (proveV L lo hi) = [] := by
  have hl : lookE lo hi (proveV L lo hi) = askE lo hi := by unfold lookE; rw [if_pos ha]
  have hc : chkE dg lo hi (proveV L lo hi) = askE lo hi := by unfold chkE; rw [if_pos (by rw [hl]; exact ha), hl]
  exact ⟨hc, by unfold chkL; rw [if_pos (by rw [hc]; exact ha)]⟩
theorem prove_size {L : List It} (hg : Good L) (lo hi : ByteArray) : (proveV L lo hi).size ≤ 2000 := by
  unfold proveV
  split
  · have := ans_size lo hi L.length L ⟨#[]⟩ ⟨#[]⟩ (Nat.le_refl _) hg.small
    have := hg.2.1
    omega
  · decide

set_option maxHeartbeats 4000000 in
set_option maxRecDepth 100000 in
theorem Proved_ok (ss : List St) (v : Value) (lo hi other : ByteArray) (w : World) (hv : Sts w v ss) (hlen : ss.length ≤ maxLen) (hge : ErrT w) (ha : askE lo hi = 0) :
    Calls Tryz.prog 7 #[v, .string lo, .string hi, .string other] w fun e w' => e = .returned (.bool true) ∧ Ext w w' := by
  obtain ⟨hgood, hk30⟩ := fill_good ss (min ss.length 60 + 1)
  rw [show fillTo ss (min ss.length 60 + 1) = fillL ss from rfl] at hgood hk30
  have HF := hid (fun w hv => filled_any ss v w hv hlen)
  generalize fillL ss = L at *
  have hL := hgood.2.1
  have hpr : (prs L).length ≤ 50 := by rw [prs_length]; omega
  have hw1 : (withinP (prs L) lo hi).length ≤ 50 := Nat.le_trans (List.length_filter_le _ _) hpr
  have C1 := chk_own hgood (dig L) lo hi ha
  rw [show beq (dig L) (dig L) = true from beq_iff.2 rfl] at C1
  simp only [if_true] at C1
  have C2 := chk_own hgood other lo hi ha
  have hps := prove_size hgood lo hi
  have HP := hid (fun w b hB => prove_on b L lo hi w w (Ext.refl _) hB)
  rw [ha] at HP
  generalize proveV L lo hi = S at *
  have CK1 := hid (fun w hg => Check_any (dig L) lo hi S (by omega) w hg)
  have CK2 := hid (fun w hg => Check_any other lo hi S (by omega) w hg)
  rw [C1.1, C1.2] at CK1
  rw [C2.1, C2.2] at CK2
  have HV := hid hv
  have HG := hid hge
  clear hv hge C1 C2 hgood hk30
  obtain ⟨dl, hdl⟩ : ∃ z, dig L = z := ⟨_, rfl⟩
  rw [hdl] at CK1 CK2
  have HD := hid (fun w b hB => digest_on b L w w (Ext.refl _) hB)
  rw [hdl] at HD
  clear hdl
  go_enter Tryz.func7, Tryz.ntmps7
  go_wp2_with fail
  refine (HF.out _ HV.out).mono ?_
  rintro e w1 ⟨lv, rfl, hx1, hB, hO⟩
  obtain ⟨la, lc, elv, _⟩ := (Prs.own hO).shape
  subst elv
  have HB := hid hB
  have HO := hid hO
  have HX1 := hid hx1
  clear hB hO hx1
  go_wp2_with fail
  refine (HD.out _ _ HB.out).mono ?_
  rintro e w2 ⟨rfl, hB2, hx2⟩
  have HB2 := hid hB2
  clear hB2
  go_wp2_with fail
  refine (HP.out _ _ HB2.out).mono ?_
  rintro e w3 ⟨rfl, hB3, hx3⟩
  have hy3 := HX1.out.trans (hx2.trans hx3)
  have HY3 := hid hy3
  have HO3 := hid (owns_ext HO.out (hx2.trans hx3))
  clear hB3
  go_wp2_with fail
  refine (CK1.out _ (HG.out.ext HY3.out)).mono ?_
  rintro e w4 ⟨gv, rfl, hx4, hgv⟩
  obtain ⟨ga, gc, rfl⟩ := hgv.shape
  have HGV := hid hgv
  have HY4 := hid (HY3.out.trans hx4)
  have HO4 := hid (owns_ext HO3.out hx4)
  clear hgv hx2 hx3 hy3
  go_wp2_with fail
  refine (within_any (prs L) _ lo hi _ (Prs.own HO4.out) (by omega)).mono ?_
  rintro e w5 ⟨wv, rfl, hx5, hwv⟩
  obtain ⟨wa, wc', ewv, _⟩ := (Prs.own hwv).shape
  subst ewv
  have HWV := hid hwv
  have HY5 := hid (HY4.out.trans hx5)
  clear hwv
  go_wp2_with fail
  refine (same_any (withinP (prs L) lo hi) (withinP (prs L) lo hi) _ _ _ (Prs.own (owns_ext HGV.out hx5)) (Prs.own HWV.out) (by unfold maxLen; omega) (by unfold maxLen; omega)).mono ?_
  rintro e w6 ⟨rfl, hx6⟩
  have HY6 := hid (HY5.out.trans hx6)
  rw [show decide (withinP (prs L) lo hi = withinP (prs L) lo hi) = true by simp]
  go_wp2_with fail
  refine (CK2.out _ (HG.out.ext HY6.out)).mono ?_
  cases hb : beq dl other with
  | true =>
    obtain rfl := beq_iff.1 hb
    rintro e w7 ⟨v7, rfl, hx7, hv7⟩
    obtain ⟨xa, xc, rfl⟩ := hv7.shape
    have HY7 := hid (HY6.out.trans hx7)
    clear hv7 hb
    simp only [if_true]
    go_wp2_with fail
    go_ret
    exact ⟨rfl, HY7.out⟩
  | false =>
    rintro e w7 ⟨v7, rfl, hx7, hv7⟩
    obtain ⟨xa, xc, rfl⟩ := hv7.shape
    have HY7 := hid (HY6.out.trans hx7)
    have hne : (other.toList == dl.toList) = false := by
      have := beq_false.1 hb
      exact beq_false.2 (fun e => this e.symm)
    clear hv7 hb
    simp only [Bool.false_eq_true, if_false]
    go_wp2_with fail
    go_ret
    exact ⟨rfl, HY7.out⟩

set_option maxHeartbeats 4000000 in
set_option maxRecDepth 100000 in
theorem Proved_no (ss : List St) (v : Value) (lo hi other : ByteArray) (w : World) (hv : Sts w v ss) (hlen : ss.length ≤ maxLen) (hlo : lo.size ≤ maxLen) (hhi : hi.size ≤ maxLen) (hge : ErrT w) (ha : askE lo hi ≠ 0) :
    Calls Tryz.prog 7 #[v, .string lo, .string hi, .string other] w fun e w' => e = .returned (.bool true) ∧ Ext w w' := by
  obtain ⟨hgood, hk30⟩ := fill_good ss (min ss.length 60 + 1)
  rw [show fillTo ss (min ss.length 60 + 1) = fillL ss from rfl] at hgood hk30
  have HF := hid (fun w hv => filled_any ss v w hv hlen)
  generalize fillL ss = L at *
  have C1 := chk_not L (dig L) lo hi ha
  have hps := prove_size hgood lo hi
  have HP := hid (fun w b hB => prove_on b L lo hi w w (Ext.refl _) hB)
  generalize proveV L lo hi = S at *
  have CK1 := hid (fun w hg => Check_any (dig L) lo hi S (by omega) w hg)
  rw [C1.1, C1.2] at CK1
  have HV := hid hv
  have HG := hid hge
  have hwhy : lo.size < 1 ∨ hi.size < 1 ∨ 8 < lo.size ∨ 8 < hi.size ∨ (Op.bytesLess lo.toList hi.toList = false ∧ (lo.toList == hi.toList) = false) := by
    by_cases h1 : lo.size < 1
    · exact .inl h1
    by_cases h2 : hi.size < 1
    · exact .inr (.inl h2)
    by_cases h3 : 8 < lo.size
    · exact .inr (.inr (.inl h3))
    by_cases h4 : 8 < hi.size
    · exact .inr (.inr (.inr (.inl h4)))
    right; right; right; right
    have k1 : keyB lo = true := decide_eq_true (by omega)
    have k2 : keyB hi = true := decide_eq_true (by omega)
    unfold askE at ha
    rw [k1, k2] at ha
    simp only [Bool.and_self, if_true] at ha
    cases h6 : (Op.bytesLess lo.toList hi.toList || lo.toList == hi.toList) with
    | true => rw [h6] at ha; simp at ha
    | false => exact Bool.or_eq_false_iff.1 h6
  generalize askE lo hi = ak at *
  unfold maxLen at hlo hhi
  clear hv hge C1 hgood hk30
  have HD := hid (fun w b hB => digest_on b L w w (Ext.refl _) hB)
  obtain ⟨dl, hdl⟩ : ∃ z, dig L = z := ⟨_, rfl⟩
  rw [hdl] at CK1 HD
  clear hdl
  have HWHY := hid hwhy
  clear hwhy
  go_enter Tryz.func7, Tryz.ntmps7
  go_wp2_with fail
  refine (HF.out _ HV.out).mono ?_
  rintro e w1 ⟨lv, rfl, hx1, hB, hO⟩
  have HB := hid hB
  have HX1 := hid hx1
  clear hB hO hx1
  go_wp2_with fail
  refine (HD.out _ _ HB.out).mono ?_
  rintro e w2 ⟨rfl, hB2, hx2⟩
  have HB2 := hid hB2
  clear hB2
  go_wp2_with fail
  refine (HP.out _ _ HB2.out).mono ?_
  rintro e w3 ⟨rfl, hB3, hx3⟩
  have HY3 := hid (HX1.out.trans (hx2.trans hx3))
  clear hB3
  go_wp2_with fail
  refine (CK1.out _ (HG.out.ext HY3.out)).mono ?_
  rintro e w4 ⟨gv, rfl, hx4, hgv⟩
  obtain ⟨ga, gc, rfl⟩ := hgv.shape
  have HY4 := hid (HY3.out.trans hx4)
  clear hgv hx2 hx3
  go_wp2_with fail
  all_goals first
    | (go_ret; exact ⟨rfl, HY4.out⟩)
    | (exfalso; omega)
    | (go_ret
       refine ⟨?_, HY4.out⟩
       refine ret_bool ?_
       rcases HWHY.out with h | h | h | h | ⟨h, h'⟩
       · have : decide ((lo.size : Int) < 1) = true := decide_eq_true (by omega)
         rw [this]; rfl
       · have : decide ((hi.size : Int) < 1) = true := decide_eq_true (by omega)
         rw [this]; simp
       · have : decide (8 < (lo.size : Int)) = true := decide_eq_true (by omega)
         rw [this]; simp
       · have : decide (8 < (hi.size : Int)) = true := decide_eq_true (by omega)
         rw [this]; simp
       · rw [h, h']; simp)

namespace proved
open Go.ChangeMaps (open_string shut_string)
theorem laidOut : laidOutB Tryz.prog = true := by kernel_rfl

set_option maxRecDepth 100000 in
theorem contract (H : Type) (enc : TypeId × Value → H) (W : World) (base : Nat) (args : Array Value) (ds gs : List (DataW H)) (before : List MemPlace)
    (hval0 : ∀ (j : Nat) t v, Tryz.f7.params[j]? = some t → args[j]? = some v → Value.okWide Tryz.prog W .any base t v)
    (hW : DataW.Whole enc Tryz.prog Tryz.f7.params.toList Rows.provedSpec.vars false W args.toList ds gs before) (hL : laidMetH Tryz.prog Rows.provedRow.laid W) :
    Calls Tryz.prog 7 args W fun e W' => ∃ v, e = .returned v ∧ Rows.provedSpec.post enc Tryz.prog Tryz.f7 false true false false W args v W' := by
  have hval : ∀ (j : Nat) t v, Tryz.f7.params[j]? = some t → args[j]? = some v → Value.okWide Tryz.prog W .any base t v := hval0
  have hW' := hW
  obtain ⟨p, q, hA0, hV, rfl, hfz, hnd⟩ := hW
  have hA : DataW.TrodAll enc Tryz.prog W 0 (fun _ => true) true Tryz.f7.params.toList args.toList ds p := hA0
  rw [Tryz.params7] at hA hval
  obtain ⟨v0, vs0, d0, ds0, p0, q0, hargs, rfl, rfl, h0, r0⟩ := trodAll_cons hA
  obtain ⟨v1, vs1, d1, ds1, p1, q1, rfl, rfl, rfl, h1, r1⟩ := trodAll_cons r0
  obtain ⟨v2, vs2, d2, ds2, p2, q2, rfl, rfl, rfl, h2, r2⟩ := trodAll_cons r1
  obtain ⟨v3, vs3, d3, ds3, p3, q3, rfl, rfl, rfl, h3, r3⟩ := trodAll_cons r2
  obtain ⟨rfl, rfl, rfl⟩ := trodAll_nil r3
  obtain rfl : args = #[v0, v1, v2, v3] := by cases args; simp_all
  obtain ⟨rfl, rfl⟩ := trodVars_none hV
  obtain ⟨a0, len0, cap0, rfl⟩ := okWide_slice Tryz.underlying35 (hval 0 35 v0 rfl rfl)
  have k0 := h0
  have lt0 : ∀ x ∈ p0, x.block < W.heap.size := by obtain ⟨m, hm⟩ := k0; exact DataW.trod_lt m _ _ _ hm
  obtain ⟨ss, hl, hs⟩ : ∃ ss : List St, ss.length = len0 ∧ Sts W (.slice a0 len0 cap0) ss := by
    obtain ⟨fuel, hf⟩ := h0
    exact steps_of hf
  obtain ⟨a1, rfl, rfl, rfl, w1⟩ := open_string Tryz.underlying9 (hval 1 9 v1 rfl rfl) h1
  obtain ⟨a2, rfl, rfl, rfl, w2⟩ := open_string Tryz.underlying9 (hval 2 9 v2 rfl rfl) h2
  obtain ⟨a3, rfl, rfl, rfl, w3⟩ := open_string Tryz.underlying9 (hval 3 9 v3 rfl rfl) h3
  clear hA0 hval0
  have hm : ss.length ≤ maxLen := by obtain ⟨_, _, _, q1, q2⟩ := hs.shape; omega
  have hE : ErrT W := errT_of_laid hL
  have walk : Calls Tryz.prog 7 #[.slice a0 len0 cap0, .string a1, .string a2, .string a3] W fun e w' => e = .returned (.bool true) ∧ Ext W w' := by
    by_cases ha : askE a1 a2 = 0
    · exact Proved_ok ss _ a1 a2 a3 W hs hm hE ha
    · exact Proved_no ss _ a1 a2 a3 W hs hm w1 w2 hE ha
  refine walk.mono fun e W' ⟨he, bel⟩ => ?_
  subst he
  exact ⟨_, rfl, _, _, _, [], _, [], hW', trodAll_mk1 (shut_bool Tryz.underlying4 _), (trodAll_cons_mk (Below.trod laidOut (by kernel_rfl) (of_decide_eq_true (by kernel_rfl)) k0 bel lt0) (trodAll_cons_mk (shut_string Tryz.underlying9 w1) (trodAll_cons_mk (shut_string Tryz.underlying9 w2) (trodAll_cons_mk (shut_string Tryz.underlying9 w3) trodAll_mk0)))), rfl, bel.frame _, fun h => by cases h⟩

theorem laid_met (os : Os) : laidMetH Tryz.prog Rows.provedRow.laid ((laidWorld os).forCall (fun _ _ => 0) ⟨#[], #[.slice none 0 0, .string ByteArray.empty, .string ByteArray.empty, .string ByteArray.empty], []⟩).memory :=
  laidMetH_of_parts (laidMet_nil _ _) (by kernel_rfl)
theorem reads (os : Os) {H : Type} (enc : TypeId × Value → H) : ∃ places, DataW.whole enc Tryz.prog ((laidWorld os).forCall (fun _ _ => 0) ⟨#[], #[.slice none 0 0, .string ByteArray.empty, .string ByteArray.empty, .string ByteArray.empty], []⟩).memory Tryz.f7.params.toList Rows.provedSpec.vars false #[Value.slice none 0 0, .string ByteArray.empty, .string ByteArray.empty, .string ByteArray.empty].toList 8 = some ([.nil, .lit (.string []), .lit (.string []), .lit (.string [])], [], places) :=
  ⟨[], by kernel_rfl⟩

set_option maxRecDepth 100000 in
theorem lifted (os : Os) (started : os.Started) (H : Type) (enc : TypeId × Value → H) (F : Stop.Interp) :
    ReturnsInHanded {} Tryz.checked os 7 .any ((OpenSpec.ofChange Rows.provedSpec).preRow enc Tryz.prog Tryz.f7 Rows.provedRow.domain false Rows.provedRow.laid) (((OpenSpec.ofChange Rows.provedSpec).at F).post enc Tryz.prog Tryz.f7 false true false false) := by
  obtain ⟨places, hx⟩ := reads os enc
  refine returnsInHanded_of_row (C := Tryz.checked) (s := OpenSpec.ofChange Rows.provedSpec) Tryz.own started (by kernel_rfl) Tryz.func7
    (witness_row_at (enc := enc) (C := Tryz.checked) false (laidWorld os) #[.slice none 0 0, .string ByteArray.empty, .string ByteArray.empty, .string ByteArray.empty] rfl (by kernel_rfl) (by kernel_rfl) (by kernel_rfl)
      (OpenSpec.preRow_of_cond 8 hx (by kernel_rfl) (fun k hk => by cases hk) (by kernel_rfl) (laid_met os))) ?_
  intro W base args ds gs before hval hW _ _ _ hL _ _
  exact contract H enc W base args ds gs before hval hW hL

theorem said : Rows.ProvedSaid :=
  OpenClaim.holds_of_cond 7 Tryz.f7 rfl rfl rfl rfl rfl rfl rfl ⟨rfl, rfl, rfl, rfl, rfl⟩ rfl rfl rfl rfl rfl (by kernel_rfl) Tryz.func7 (by kernel_rfl)
    (of_decide_eq_true (by kernel_rfl)) (by unfold Func.isWrapper; first | (rw [if_pos (by decide +kernel)]; kernel_rfl) | (rw [if_neg (by decide +kernel)]; exact ⟨rfl, rfl⟩))
    (fun os started H enc _ F => by rw [OpenClaim.pre_eq_preRow]; exact lifted os started H enc F)

/-- No parameter wants a stand-in. -/
theorem plain (f : FuncId) (fn : Func) (hf : Tryz.pinned.checked.prog.funcNamed "attest/attestkeep.Proved" = some f) (hfn : Tryz.pinned.checked.prog.funcs[f]? = some fn) :
    true = Tryz.pinned.checked.prog.looks [] ∧ ∀ (j : Nat) t, fn.params[j]? = some t → Tryz.pinned.checked.prog.wantsStandIn t = false := by
  obtain rfl : f = 7 := Option.some.inj ((show Tryz.prog.funcNamed "attest/attestkeep.Proved" = some 7 by kernel_rfl).symm.trans hf) |>.symm
  obtain rfl : fn = Tryz.f7 := (Option.some.inj (Tryz.func7.symm.trans hfn)).symm
  refine ⟨by kernel_rfl, fun j t ht => ?_⟩
  rw [Tryz.params7] at ht
  have hm := Array.mem_of_getElem? ht
  have ht' : t = 35 ∨ t = 9 := by
    simp at hm
    omega
  rcases ht' with rfl | rfl
  · exact (show Tryz.prog.wantsStandIn 35 = false by kernel_rfl)
  · exact (show Tryz.prog.wantsStandIn 9 = false by kernel_rfl)
end proved
/-- The statement. -/
theorem proved_card : Rows.ProvedCardSaid :=
  Claim7.holds_tied_plain_at .later [] _ _ _ _ proved.said (fun _ h => by cases h) (by kernel_rfl) (fun _ h => by cases h) proved_row_tie rfl ⟨rfl, rfl⟩ (by kernel_rfl) rfl proved.plain (by kernel_rfl)
#print axioms proved_card
end Go.Proofs.YtjohkmkgmbihkaaGreatDoor
