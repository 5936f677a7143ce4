/- A book is a map: the walk. -/
import Derived.Test.YtjohkmkgmbihkaaKeepF
namespace Go.Proofs.Ytjohkmkgmbihkaa
set_option linter.unusedVariables false
open Go.ChangeShapes Go.WideShapes Go.ChangeAt Go.RowKit

theorem inR_self (k x : ByteArray) : inR k k x = beq x k := by
  unfold inR
  cases h : Op.bytesLess x.toList k.toList with
  | true =>
    have hne : x ≠ k := by rintro rfl; rw [bl_irrefl] at h; cases h
    simp [beq_false.2 hne]
  | false => simp [beq]
theorem filter_key {L : List It} (hs : Sorted L) (k : ByteArray) : L.filter (fun x => beq x.key k) = if has L k then (L[plc L k]?).toList else [] := by
  induction L with
  | nil => simp [has]
  | cons x L ih =>
    have hs' : Sorted L := (List.pairwise_cons.1 hs).2
    have hx : ∀ y ∈ L, lt x.key y.key = true := (List.pairwise_cons.1 hs).1
    cases h : lt x.key k with
    | true =>
      have hb : beq x.key k = false := beq_false.2 (by rintro rfl; rw [lt_irrefl] at h; cases h)
      have e1 : plc (x :: L) k = plc L k + 1 := by rw [plc_cons, if_pos h]
      have e2 : has (x :: L) k = has L k := by unfold has; rw [e1]; simp
      rw [List.filter_cons, hb, e2, e1]
      simpa using ih hs'
    | false =>
      have e1 : plc (x :: L) k = 0 := by rw [plc_cons, if_neg (by simp [h])]
      have e2 : has (x :: L) k = beq x.key k := by unfold has; rw [e1]; simp
      have hr : L.filter (fun x => beq x.key k) = [] := by
        rw [List.filter_eq_nil_iff]
        intro y hy
        have h1 := hx y hy
        intro hb
        rw [beq_iff.1 hb] at h1
        rw [h] at h1; cases h1
      rw [List.filter_cons, hr, e2, e1]
      cases beq x.key k <;> simp
theorem within_self {L : List It} (hs : Sorted L) (k : ByteArray) : withinP (prs L) k k = if has L k then (prs L)[plc L k]?.toList else [] := by
  have : withinP (prs L) k k = prs (L.filter (fun x => beq x.key k)) := by
    unfold withinP prs
    rw [List.filter_map]
    congr 1
    apply List.filter_congr
    intro x _
    simp [It.pr, inR_self]
  rw [this, filter_key hs]
  cases has L k with
  | false => rfl
  | true => simp only [if_true, prs, List.getElem?_map]; cases L[plc L k]? <;> rfl

set_option maxHeartbeats 2000000 in
set_option maxRecDepth 100000 in
theorem Mapped_any (ss : List St) (v : Value) (c : Int) (hc0 : -9223372036854775808 ≤ c) (hc1 : c ≤ 9223372036854775807) (w : World) (hv : Sts w v ss) (hlen : ss.length ≤ maxLen) :
    Calls Try.prog 5 #[v, .int .i64 c] w fun e w' => e = .returned (.bool true) ∧ Ext w w' := by
  obtain ⟨hgood, hk30⟩ := fill_good ss (min ss.length 60 + 1)
  have hl30 := hk30.len hgood.1
  rw [show fillTo ss (min ss.length 60 + 1) = fillL ss from rfl] at hgood hk30 hl30
  have HF := hid (fun w hv => filled_any ss v w hv hlen)
  generalize fillL ss = L at *
  have HV := hid hv
  have HG := hid hgood
  have HKB := hid (keyC_key c)
  clear hv hk30
  generalize hkk : keyC c = kk at *
  have HKK := hid hkk
  clear hkk
  have hW := within_self hgood.1 kk
  have hpr : (prs L).length ≤ 1000 := by rw [prs_length]; omega
  clear hgood
  cases hh : has L kk with
  | true =>
    obtain ⟨hlt, hke⟩ := has_iff.1 hh
    rw [hh, if_pos rfl] at hW
    have hW' : withinP (prs L) kk kk = [(kk, (L[plc L kk]).val)] := by
      rw [hW]; simp [prs, List.getElem?_eq_getElem hlt, It.pr, hke]
    have gE := hid (show getE L kk = 0 by simp [getE, HKB.out, hh])
    have gV := hid (show getV L kk = (L[plc L kk]).val by simp [getV, HKB.out, hh, List.getElem?_eq_getElem hlt])
    generalize (L[plc L kk]'hlt).val = val at *
    have HW := hid hW'
    clear hW hW' hh hke hlt
    go_enter Try.func5, Try.ntmps5
    go_wp2_with fail
    refine (HF.out _ HV.out).mono ?_
    rintro e w1 ⟨lv, rfl, hx1, hB, hO⟩
    have HB := hid hB
    have HO := hid hO
    clear hB hO
    go_wp2_with fail
    obtain ⟨bv, hB⟩ := HB.out
    refine (All_any _ bv L _ hB).mono ?_
    rintro e w2 ⟨av, rfl, hx2, hA⟩
    rw [pairs_pc] at hA
    have HA := hid (show w2.ownsRow w1.heap.size 42 2 av (prs L).length (pc (prs L)) by rw [prs_length]; exact hA)
    have HB2 := hid (hB.ext hx2)
    have HO2 := hid (owns_ext HO.out hx2)
    clear hA hB
    go_wp2_with fail
    refine (key_any c hc0 hc1 _).mono ?_
    rintro e w3 ⟨rfl, hx3⟩
    rw [HKK.out]
    go_wp2_with fail
    refine (Get_any _ bv L kk _ (HB2.out.ext hx3)).mono ?_
    rintro e w4 ⟨rfl, hx4⟩
    rw [gE.out, gV.out]
    go_wp2_with fail
    refine (within_any (prs L) lv kk kk _ (Prs.own (owns_ext (owns_ext HO2.out hx3) hx4)) (by omega)).mono ?_
    rintro e w5 ⟨ov, rfl, hx5, hov⟩
    rw [HW.out] at hov
    obtain ⟨og, oc, eo⟩ : ∃ g cap, ov = .slice (some ⟨g, 0, none⟩) 1 cap := by
      rcases hov.2 with ⟨_, q⟩ | ⟨g, cap, cur, q, _⟩
      · simp at q
      · exact ⟨g, cap, q⟩
    subst eo
    have oc1 : w5.cell? ⟨og, 1, none⟩ = some (.string val) := by
      have := hov.cellAt 1 (by simp)
      simpa [pc] using this
    clear hov
    go_wp2_with fail
    have ha5 := Prs.own (owns_ext (owns_ext (owns_ext HA.out hx3) hx4) hx5)
    have hl5 := Prs.own (owns_ext (owns_ext (owns_ext HO2.out hx3) hx4) hx5)
    refine (same_any (prs L) (prs L) av lv _ ha5 hl5 (by unfold maxLen; omega) (by unfold maxLen; omega)).mono ?_
    rintro e w6 ⟨rfl, hx6⟩
    clear ha5 hl5
    go_wp2_with fail
    go_ret
    exact ⟨ret_bool (by simp), ((((hx1.trans hx2).trans hx3).trans hx4).trans hx5).trans hx6⟩
  | false =>
    rw [hh, if_neg (by simp)] at hW
    have gE := hid (show getE L kk = 5 by simp [getE, HKB.out, hh])
    have gV := hid (show getV L kk = ⟨#[]⟩ by simp [getV, HKB.out, hh])
    have HW := hid hW
    clear hW hh
    go_enter Try.func5, Try.ntmps5
    go_wp2_with fail
    refine (HF.out _ HV.out).mono ?_
    rintro e w1 ⟨lv, rfl, hx1, hB, hO⟩
    have HB := hid hB
    have HO := hid hO
    clear hB hO
    go_wp2_with fail
    obtain ⟨bv, hB⟩ := HB.out
    refine (All_any _ bv L _ hB).mono ?_
    rintro e w2 ⟨av, rfl, hx2, hA⟩
    rw [pairs_pc] at hA
    have HA := hid (show w2.ownsRow w1.heap.size 42 2 av (prs L).length (pc (prs L)) by rw [prs_length]; exact hA)
    have HB2 := hid (hB.ext hx2)
    have HO2 := hid (owns_ext HO.out hx2)
    clear hA hB
    go_wp2_with fail
    refine (key_any c hc0 hc1 _).mono ?_
    rintro e w3 ⟨rfl, hx3⟩
    rw [HKK.out]
    go_wp2_with fail
    refine (Get_any _ bv L kk _ (HB2.out.ext hx3)).mono ?_
    rintro e w4 ⟨rfl, hx4⟩
    rw [gE.out, gV.out]
    go_wp2_with fail
    refine (within_any (prs L) lv kk kk _ (Prs.own (owns_ext (owns_ext HO2.out hx3) hx4)) (by omega)).mono ?_
    rintro e w5 ⟨ov, rfl, hx5, hov⟩
    rw [HW.out] at hov
    obtain ⟨oa, oc, eo⟩ : ∃ a cap, ov = .slice a 0 cap := by
      rcases hov.2 with ⟨q, _⟩ | ⟨g, cap, cur, q, _⟩
      · exact ⟨_, _, q⟩
      · exact ⟨_, cap, q⟩
    subst eo
    clear hov
    go_wp2_with fail
    have ha5 := Prs.own (owns_ext (owns_ext (owns_ext HA.out hx3) hx4) hx5)
    have hl5 := Prs.own (owns_ext (owns_ext (owns_ext HO2.out hx3) hx4) hx5)
    refine (same_any (prs L) (prs L) av lv _ ha5 hl5 (by unfold maxLen; omega) (by unfold maxLen; omega)).mono ?_
    rintro e w6 ⟨rfl, hx6⟩
    clear ha5 hl5
    go_wp2_with fail
    go_ret
    exact ⟨ret_bool (by simp), ((((hx1.trans hx2).trans hx3).trans hx4).trans hx5).trans hx6⟩
end Go.Proofs.Ytjohkmkgmbihkaa
