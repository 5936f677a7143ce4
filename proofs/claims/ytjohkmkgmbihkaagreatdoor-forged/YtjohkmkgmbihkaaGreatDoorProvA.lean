/- A book's answer passes: the walk. -/
import Derived.Test.YtjohkmkgmbihkaaGreatDoorChkB
import Derived.Test.YtjohkmkgmbihkaaGreatDoorAnsRead3
import Derived.Test.YtjohkmkgmbihkaaGreatDoorKeepF
namespace Go.Proofs.YtjohkmkgmbihkaaGreatDoor
set_option linter.unusedVariables false
open Go.ChangeShapes Go.WideShapes Go.ChangeAt Go.RowKit
theorem ask_inR (lo hi k : ByteArray) : askB lo hi k = inR lo hi k := by
  unfold askB inR
  congr 1
  cases h1 : Op.bytesLess k.toList lo.toList with
  | true =>
    have h2 : lt lo k = false := lt_asymm (show lt k lo = true from h1)
    have h3 : beq lo k = false := beq_false.2 (fun e => by subst e; rw [bl_irrefl] at h1; cases h1)
    show (lt lo k || beq lo k) = !true
    rw [h2, h3]; rfl
  | false =>
    cases h2 : Op.bytesLess lo.toList k.toList with
    | true => rfl
    | false =>
      have := bl_tri _ _ h1 h2
      simp [this]
theorem askL_within (lo hi : ByteArray) (L : List It) : askL lo hi L = withinP (prs L) lo hi := by
  unfold askL withinP prs
  rw [List.filter_map]
  congr 1
  apply List.filter_congr
  intro x _
  simp [It.pr, ask_inR]
theorem good_fault {L : List It} (h : Good L) : ∀ x ∈ L, fault x.key x.val x.h = 0 := fun x hx => by
  obtain ⟨h1, h2, h3⟩ := h.2.2 x hx
  have h4 : hgtB (x.h : Int) = true := decide_eq_true ⟨by omega, by omega⟩
  simp [fault, h1, h2, h4]
/-- What Check answers of a book's own answer. -/
theorem chk_own {L : List It} (hg : Good L) (dg lo hi : ByteArray) (ha : askE lo hi = 0) :
    chkE dg lo hi (proveV L lo hi) = (if beq (dig L) dg then 0 else 9) ∧ chkL dg lo hi (proveV L lo hi) = if beq (dig L) dg then withinP (prs L) lo hi else [] := by
  have hp : proveV L lo hi = ans lo hi L e0 e0 := by unfold proveV; rw [if_pos ha]
  have hr := rdA_ans lo hi L (good_fault hg) hg.2.1
  have hl : lookE lo hi (ans lo hi L e0 e0) = 0 := by
    unfold lookE
    rw [if_neg (by simp [ha]), hr]
    simp [okT_ofL lo hi hg.1]
  rw [hp]
  have hc : chkE dg lo hi (ans lo hi L e0 e0) = if beq (dig L) dg then 0 else 9 := by
    unfold chkE
    rw [if_neg (by simp [hl]), hr]
    simp [digT_ofL]
  refine ⟨hc, ?_⟩
  unfold chkL
  rw [hc, hr]
  cases hb : beq (dig L) dg with
  | true => simp [prsT_ofL lo hi hg.1, askL_within]
  | false => simp
theorem chk_not (L : List It) (dg lo hi : ByteArray) (ha : askE lo hi ≠ 0) : chkE dg lo hi (proveV L lo hi) = askE lo hi ∧ chkL dg lo hi (proveV L lo hi) = [] := by
  have hl : lookE lo hi (proveV L lo hi) = askE lo hi := by unfold lookE; rw [if_pos ha]
  have hc : chkE dg lo hi (proveV L lo hi) = askE lo hi := by unfold chkE; rw [if_pos (by rw [hl]; exact ha), hl]
  exact ⟨hc, by unfold chkL; rw [if_pos (by rw [hc]; exact ha)]⟩
theorem prove_size {L : List It} (hg : Good L) (lo hi : ByteArray) : (proveV L lo hi).size ≤ 2000 := by
  unfold proveV
  split
  · have := ans_size lo hi L.length L ⟨#[]⟩ ⟨#[]⟩ (Nat.le_refl _) hg.small
    have := hg.2.1
    omega
  · decide

set_option maxHeartbeats 4000000 in
set_option maxRecDepth 100000 in
theorem Proved_ok (ss : List St) (v : Value) (lo hi other : ByteArray) (w : World) (hv : Sts w v ss) (hlen : ss.length ≤ maxLen) (hge : ErrT w) (ha : askE lo hi = 0) :
    Calls Tryz.prog 7 #[v, .string lo, .string hi, .string other] w fun e w' => e = .returned (.bool true) ∧ Ext w w' := by
  obtain ⟨hgood, hk30⟩ := fill_good ss (min ss.length 60 + 1)
  rw [show fillTo ss (min ss.length 60 + 1) = fillL ss from rfl] at hgood hk30
  have HF := hid (fun w hv => filled_any ss v w hv hlen)
  generalize fillL ss = L at *
  have hL := hgood.2.1
  have hpr : (prs L).length ≤ 50 := by rw [prs_length]; omega
  have hw1 : (withinP (prs L) lo hi).length ≤ 50 := Nat.le_trans (List.length_filter_le _ _) hpr
  have C1 := chk_own hgood (dig L) lo hi ha
  rw [show beq (dig L) (dig L) = true from beq_iff.2 rfl] at C1
  simp only [if_true] at C1
  have C2 := chk_own hgood other lo hi ha
  have hps := prove_size hgood lo hi
  have HP := hid (fun w b hB => prove_on b L lo hi w w (Ext.refl _) hB)
  rw [ha] at HP
  generalize proveV L lo hi = S at *
  have CK1 := hid (fun w hg => Check_any (dig L) lo hi S (by omega) w hg)
  have CK2 := hid (fun w hg => Check_any other lo hi S (by omega) w hg)
  rw [C1.1, C1.2] at CK1
  rw [C2.1, C2.2] at CK2
  have HV := hid hv
  have HG := hid hge
  clear hv hge C1 C2 hgood hk30
  obtain ⟨dl, hdl⟩ : ∃ z, dig L = z := ⟨_, rfl⟩
  rw [hdl] at CK1 CK2
  have HD := hid (fun w b hB => digest_on b L w w (Ext.refl _) hB)
  rw [hdl] at HD
  clear hdl
  go_enter Tryz.func7, Tryz.ntmps7
  go_wp2_with fail
  refine (HF.out _ HV.out).mono ?_
  rintro e w1 ⟨lv, rfl, hx1, hB, hO⟩
  obtain ⟨la, lc, elv, _⟩ := (Prs.own hO).shape
  subst elv
  have HB := hid hB
  have HO := hid hO
  have HX1 := hid hx1
  clear hB hO hx1
  go_wp2_with fail
  refine (HD.out _ _ HB.out).mono ?_
  rintro e w2 ⟨rfl, hB2, hx2⟩
  have HB2 := hid hB2
  clear hB2
  go_wp2_with fail
  refine (HP.out _ _ HB2.out).mono ?_
  rintro e w3 ⟨rfl, hB3, hx3⟩
  have hy3 := HX1.out.trans (hx2.trans hx3)
  have HY3 := hid hy3
  have HO3 := hid (owns_ext HO.out (hx2.trans hx3))
  clear hB3
  go_wp2_with fail
  refine (CK1.out _ (HG.out.ext HY3.out)).mono ?_
  rintro e w4 ⟨gv, rfl, hx4, hgv⟩
  obtain ⟨ga, gc, rfl⟩ := hgv.shape
  have HGV := hid hgv
  have HY4 := hid (HY3.out.trans hx4)
  have HO4 := hid (owns_ext HO3.out hx4)
  clear hgv hx2 hx3 hy3
  go_wp2_with fail
  refine (within_any (prs L) _ lo hi _ (Prs.own HO4.out) (by omega)).mono ?_
  rintro e w5 ⟨wv, rfl, hx5, hwv⟩
  obtain ⟨wa, wc', ewv, _⟩ := (Prs.own hwv).shape
  subst ewv
  have HWV := hid hwv
  have HY5 := hid (HY4.out.trans hx5)
  clear hwv
  go_wp2_with fail
  refine (same_any (withinP (prs L) lo hi) (withinP (prs L) lo hi) _ _ _ (Prs.own (owns_ext HGV.out hx5)) (Prs.own HWV.out) (by unfold maxLen; omega) (by unfold maxLen; omega)).mono ?_
  rintro e w6 ⟨rfl, hx6⟩
  have HY6 := hid (HY5.out.trans hx6)
  rw [show decide (withinP (prs L) lo hi = withinP (prs L) lo hi) = true by simp]
  go_wp2_with fail
  refine (CK2.out _ (HG.out.ext HY6.out)).mono ?_
  cases hb : beq dl other with
  | true =>
    obtain rfl := beq_iff.1 hb
    rintro e w7 ⟨v7, rfl, hx7, hv7⟩
    obtain ⟨xa, xc, rfl⟩ := hv7.shape
    have HY7 := hid (HY6.out.trans hx7)
    clear hv7 hb
    simp only [if_true]
    go_wp2_with fail
    go_ret
    exact ⟨rfl, HY7.out⟩
  | false =>
    rintro e w7 ⟨v7, rfl, hx7, hv7⟩
    obtain ⟨xa, xc, rfl⟩ := hv7.shape
    have HY7 := hid (HY6.out.trans hx7)
    have hne : (other.toList == dl.toList) = false := by
      have := beq_false.1 hb
      exact beq_false.2 (fun e => this e.symm)
    clear hv7 hb
    simp only [Bool.false_eq_true, if_false]
    go_wp2_with fail
    go_ret
    exact ⟨rfl, HY7.out⟩

set_option maxHeartbeats 4000000 in
set_option maxRecDepth 100000 in
theorem Proved_no (ss : List St) (v : Value) (lo hi other : ByteArray) (w : World) (hv : Sts w v ss) (hlen : ss.length ≤ maxLen) (hlo : lo.size ≤ maxLen) (hhi : hi.size ≤ maxLen) (hge : ErrT w) (ha : askE lo hi ≠ 0) :
    Calls Tryz.prog 7 #[v, .string lo, .string hi, .string other] w fun e w' => e = .returned (.bool true) ∧ Ext w w' := by
  obtain ⟨hgood, hk30⟩ := fill_good ss (min ss.length 60 + 1)
  rw [show fillTo ss (min ss.length 60 + 1) = fillL ss from rfl] at hgood hk30
  have HF := hid (fun w hv => filled_any ss v w hv hlen)
  generalize fillL ss = L at *
  have C1 := chk_not L (dig L) lo hi ha
  have hps := prove_size hgood lo hi
  have HP := hid (fun w b hB => prove_on b L lo hi w w (Ext.refl _) hB)
  generalize proveV L lo hi = S at *
  have CK1 := hid (fun w hg => Check_any (dig L) lo hi S (by omega) w hg)
  rw [C1.1, C1.2] at CK1
  have HV := hid hv
  have HG := hid hge
  have hwhy : lo.size < 1 ∨ hi.size < 1 ∨ 8 < lo.size ∨ 8 < hi.size ∨ (Op.bytesLess lo.toList hi.toList = false ∧ (lo.toList == hi.toList) = false) := by
    by_cases h1 : lo.size < 1
    · exact .inl h1
    by_cases h2 : hi.size < 1
    · exact .inr (.inl h2)
    by_cases h3 : 8 < lo.size
    · exact .inr (.inr (.inl h3))
    by_cases h4 : 8 < hi.size
    · exact .inr (.inr (.inr (.inl h4)))
    right; right; right; right
    have k1 : keyB lo = true := decide_eq_true (by omega)
    have k2 : keyB hi = true := decide_eq_true (by omega)
    unfold askE at ha
    rw [k1, k2] at ha
    simp only [Bool.and_self, if_true] at ha
    cases h6 : (Op.bytesLess lo.toList hi.toList || lo.toList == hi.toList) with
    | true => rw [h6] at ha; simp at ha
    | false => exact Bool.or_eq_false_iff.1 h6
  generalize askE lo hi = ak at *
  unfold maxLen at hlo hhi
  clear hv hge C1 hgood hk30
  have HD := hid (fun w b hB => digest_on b L w w (Ext.refl _) hB)
  obtain ⟨dl, hdl⟩ : ∃ z, dig L = z := ⟨_, rfl⟩
  rw [hdl] at CK1 HD
  clear hdl
  have HWHY := hid hwhy
  clear hwhy
  go_enter Tryz.func7, Tryz.ntmps7
  go_wp2_with fail
  refine (HF.out _ HV.out).mono ?_
  rintro e w1 ⟨lv, rfl, hx1, hB, hO⟩
  have HB := hid hB
  have HX1 := hid hx1
  clear hB hO hx1
  go_wp2_with fail
  refine (HD.out _ _ HB.out).mono ?_
  rintro e w2 ⟨rfl, hB2, hx2⟩
  have HB2 := hid hB2
  clear hB2
  go_wp2_with fail
  refine (HP.out _ _ HB2.out).mono ?_
  rintro e w3 ⟨rfl, hB3, hx3⟩
  have HY3 := hid (HX1.out.trans (hx2.trans hx3))
  clear hB3
  go_wp2_with fail
  refine (CK1.out _ (HG.out.ext HY3.out)).mono ?_
  rintro e w4 ⟨gv, rfl, hx4, hgv⟩
  obtain ⟨ga, gc, rfl⟩ := hgv.shape
  have HY4 := hid (HY3.out.trans hx4)
  clear hgv hx2 hx3
  go_wp2_with fail
  all_goals first
    | (go_ret; exact ⟨rfl, HY4.out⟩)
    | (exfalso; omega)
    | (go_ret
       refine ⟨?_, HY4.out⟩
       refine ret_bool ?_
       rcases HWHY.out with h | h | h | h | ⟨h, h'⟩
       · have : decide ((lo.size : Int) < 1) = true := decide_eq_true (by omega)
         rw [this]; rfl
       · have : decide ((hi.size : Int) < 1) = true := decide_eq_true (by omega)
         rw [this]; simp
       · have : decide (8 < (lo.size : Int)) = true := decide_eq_true (by omega)
         rw [this]; simp
       · have : decide (8 < (hi.size : Int)) = true := decide_eq_true (by omega)
         rw [this]; simp
       · rw [h, h']; simp)
end Go.Proofs.YtjohkmkgmbihkaaGreatDoor
