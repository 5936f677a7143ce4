/- An answer, read for a question; Check. -/
import Derived.Test.YtjohkmkgmbihkaaGreatDoorOverI
import Derived.Test.YtjohkmkgmbihkaaGreatDoorBookE
namespace Go.Proofs.YtjohkmkgmbihkaaGreatDoor
open Go.ChangeShapes Go.WideShapes Go.ChangeAt Go.RowKit
set_option linter.unusedVariables false
/-- What is wrong with bytes as an answer to a question (but for the digest). -/
def lookE (lo hi s : ByteArray) : Int := if askE lo hi ≠ 0 then askE lo hi else match rdA s with
  | none => 7
  | some t => if okT lo hi t e0 e0 then 0 else 8
theorem ret_T4 {fn : Func} {Q : Ending → World → Prop} {tmps : Array Value} {w : World} {b : Nat} {x y ev : Value} {f : Nat × Nat} (h : fn.results = #[.cell 4 82, .tmp 5])
    (hp : tmps.getD 4 undef = .pointer (some ⟨b, 0, none⟩)) (he : tmps.getD 5 undef = ev) (hb : w.heap[b]? = some (.cells #[x, y] 82 f)) (hq : Q (.returned (.tuple #[.agg #[x, y], ev])) w) :
    bodyPost Tryz.prog fn Q .ret ⟨tmps, []⟩ w := by
  refine bodyPost_ret (v := .tuple #[.agg #[x, y], ev]) ?_ rfl hq
  rw [results_cell_tmp h, hp, he]
  simp [asAddr, Result.andThen, load_T w b x y f hb]

set_option maxHeartbeats 4000000 in
set_option maxRecDepth 100000 in
theorem read_any (lo hi s : ByteArray) (hs : s.size ≤ 9223372036854775807) (w : World) (hg : ErrT w) :
    Calls Tryz.prog 42 #[.agg #[.string lo, .string hi], .string s] w fun e w' => Ext w w' ∧
      ((lookE lo hi s ≠ 0 ∧ e = .returned (.tuple #[nilT, .int .i64 (lookE lo hi s)])) ∨
        (lookE lo hi s = 0 ∧ ∃ t p d, rdA s = some t ∧ e = .returned (.tuple #[.agg #[.pointer p, .string d], .int .i64 0]) ∧ AIn w' t p d)) := by
  obtain ⟨W1, hW1⟩ : ∃ z, z = (w.alloc (.cells #[.string lo, .string hi] 77)).alloc oT := ⟨_, rfl⟩
  have hx1 : Ext w W1 := by rw [hW1]; exact ((Ext.refl w).alloc _).alloc _
  have hb1 : W1.heap[w.heap.size + 1]? = some oT := by rw [hW1]; exact heap_alloc2_new w _ _
  have hq1 : W1.heap[w.heap.size]? = some (.cells #[.string lo, .string hi] 77) := by rw [hW1]; exact ((Ext.refl _).alloc _).row (heap_alloc_new w _)
  have Q := hid (fun (w' : World) (hx : Ext W1 w') => (⟨cell_of_row _ _ 0 _ _ _ (hx.row hb1), cell_of_row _ _ 1 _ _ _ (hx.row hb1), row_frz (hx.row hb1), cell_of_row _ _ 0 _ _ _ (hx.row hq1), cell_of_row _ _ 1 _ _ _ (hx.row hq1), hx.row hb1⟩ :
    w'.cell? ⟨w.heap.size + 1, 0, none⟩ = some (.pointer none) ∧ w'.cell? ⟨w.heap.size + 1, 1, none⟩ = some (.string ⟨#[]⟩) ∧ (∀ i, w'.frozen? ⟨w.heap.size + 1, i, none⟩ = false) ∧ w'.cell? ⟨w.heap.size, 0, none⟩ = some (.string lo) ∧ w'.cell? ⟨w.heap.size, 1, none⟩ = some (.string hi) ∧ w'.heap[w.heap.size + 1]? = some oT))
  have HW1 := hid hW1
  have HX1 := hid hx1
  have HG := hid hg
  clear hW1 hx1 hb1 hq1 hg
  by_cases ha : askE lo hi = 0
  · have HA := hid ha
    cases hr : rdA s with
    | none =>
      have hE : lookE lo hi s = 7 := by unfold lookE; rw [if_neg (by simp [ha]), hr]
      rw [hE]
      have HR := hid (Read_any s hs)
      rw [hr] at HR
      clear ha hr hE
      go_enter Tryz.func42, Tryz.ntmps42
      go_wp2_with fail
      rw [← HW1.out]
      refine (Ask_any lo hi _).mono ?_
      rintro e w2 ⟨rfl, hx2⟩
      rw [HA.out]
      go_wp2_with fail
      refine (HR.out _).mono ?_
      rintro e w3 ⟨hx3, ev, hev, rfl⟩
      obtain ⟨t1, u1, rfl⟩ := hev.iface
      have HEv := hid hev
      have hy3 := hx2.trans hx3
      clear hev
      have x4 := (Ext.refl w3).alloc oT
      have HE := hid (errno_U _ HEv.out _ (HG.out.ext ((HX1.out.trans hy3).trans x4)))
      go_wp2_with fail
      refine HE.out.mono ?_
      rintro e w4 ⟨rfl, hx4⟩
      have hy4 := (hy3.trans x4).trans hx4
      obtain ⟨q0, q1, qf, -, -, qb⟩ := Q.out _ hy4
      have HY := hid (HX1.out.trans hy4)
      have HB := hid qb
      clear x4 hx4 hy4 hy3 hx3 hx2 qb
      go_wp2_with fail
      exact ret_T4 (by kernel_rfl) rfl rfl (set2 HB.out _ _) ⟨(HY.out.setCell (by simp) _).setCell (by simp) _, .inl ⟨by decide, rfl⟩⟩
    | some t =>
      have HR := hid (Read_any s hs)
      rw [hr] at HR
      cases ho : okT lo hi t e0 e0 with
      | false =>
        have hE : lookE lo hi s = 8 := by unfold lookE; rw [if_neg (by simp [ha]), hr]; simp [ho]
        rw [hE]
        have HO := hid ho
        clear ha hr hE ho
        go_enter Tryz.func42, Tryz.ntmps42
        go_wp2_with fail
        rw [← HW1.out]
        refine (Ask_any lo hi _).mono ?_
        rintro e w2 ⟨rfl, hx2⟩
        rw [HA.out]
        go_wp2_with fail
        refine (HR.out _).mono ?_
        rintro e w3 ⟨hx3, p, d, rfl, hai⟩
        have hy3 := hx2.trans hx3
        have x4 := (Ext.refl w3).alloc (.cells #[.pointer p, .string d] 82)
        have HF := hid (TFault_any lo hi t p d _ (hai.ext x4))
        have hy4 := hy3.trans x4
        obtain ⟨-, -, -, q3, q4, -⟩ := Q.out _ hy4
        clear hai
        go_wp2_with fail
        refine HF.out.mono ?_
        rintro e w4 ⟨v, rfl, hx4, hv⟩
        rw [HO.out] at hv
        rcases hv.shape with ⟨h, _⟩ | ⟨_, hm, t1, u1, rfl⟩
        · cases h
        have hy5 := hy4.trans hx4
        have HE := hid (errno_M _ hm _ (HG.out.ext (HX1.out.trans hy5)))
        clear hm hv
        go_wp2_with fail
        refine HE.out.mono ?_
        rintro e w5 ⟨rfl, hx5⟩
        have hy6 := hy5.trans hx5
        obtain ⟨q0, q1, qf, -, -, qb⟩ := Q.out _ hy6
        have HY := hid (HX1.out.trans hy6)
        have HB := hid qb
        clear x4 hx4 hy4 hy3 hx3 hx2 qb hy5 hy6 hx5
        go_wp2_with fail
        exact ret_T4 (by kernel_rfl) rfl rfl (set2 HB.out _ _) ⟨(HY.out.setCell (by simp) _).setCell (by simp) _, .inl ⟨by decide, rfl⟩⟩
      | true =>
        have hE : lookE lo hi s = 0 := by unfold lookE; rw [if_neg (by simp [ha]), hr]; simp [ho]
        rw [hE]
        have HO := hid ho
        clear ha hr hE ho
        go_enter Tryz.func42, Tryz.ntmps42
        go_wp2_with fail
        rw [← HW1.out]
        refine (Ask_any lo hi _).mono ?_
        rintro e w2 ⟨rfl, hx2⟩
        rw [HA.out]
        go_wp2_with fail
        refine (HR.out _).mono ?_
        rintro e w3 ⟨hx3, p, d, rfl, hai⟩
        have hy3 := hx2.trans hx3
        have x4 := (Ext.refl w3).alloc (.cells #[.pointer p, .string d] 82)
        have HF := hid (TFault_any lo hi t p d _ (hai.ext x4))
        have hy4 := hy3.trans x4
        obtain ⟨-, -, -, q3, q4, -⟩ := Q.out _ hy4
        have hn3 := heap_alloc_new w3 (.cells #[.pointer p, .string d] 82)
        have HAI := hid (hai.ext x4)
        clear hai
        go_wp2_with fail
        refine HF.out.mono ?_
        rintro e w4 ⟨v, rfl, hx4, hv⟩
        rw [HO.out] at hv
        rcases hv.shape with ⟨_, rfl⟩ | ⟨h, _⟩
        rotate_left
        · cases h
        have hy5 := hy4.trans hx4
        obtain ⟨q0, q1, qf, -, -, qb⟩ := Q.out _ hy5
        have t0 : w4.cell? ⟨w3.heap.size, 0, none⟩ = some (.pointer p) := cell_of_row _ _ 0 _ _ _ (hx4.row hn3)
        have t1 : w4.cell? ⟨w3.heap.size, 1, none⟩ = some (.string d) := cell_of_row _ _ 1 _ _ _ (hx4.row hn3)
        have HY := hid (HX1.out.trans hy5)
        have HB := hid qb
        have HAJ := hid (HAI.out.ext hx4)
        clear x4 hx4 hy4 hy3 hx3 hx2 qb hy5 hv hn3
        go_wp2_with fail
        exact ret_T4 (by kernel_rfl) rfl rfl (set2 HB.out _ _) ⟨(HY.out.setCell (by simp) _).setCell (by simp) _, .inr ⟨by first | trivial | rfl, t, p, d, by first | trivial | rfl, rfl,
          AIn.set (tree_row HB.out 0 (.pointer p) #[.pointer p, .string ⟨#[]⟩] (by rfl)) (AIn.set HB.out HAJ.out 0 _) 1 _⟩⟩
  · have hE : lookE lo hi s = askE lo hi := by unfold lookE; rw [if_pos ha]
    rw [hE]
    clear hE
    have AK := hid (Ask_any lo hi)
    generalize askE lo hi = ak at *
    go_enter Tryz.func42, Tryz.ntmps42
    go_wp2_with fail
    rw [← HW1.out]
    refine (AK.out _).mono ?_
    rintro e w2 ⟨rfl, hx2⟩
    obtain ⟨q0, q1, qf, -, -, qb⟩ := Q.out _ hx2
    have HY := hid (HX1.out.trans hx2)
    have HB := hid qb
    clear hx2 qb
    go_wp2_with fail
    exact ret_T4 (by kernel_rfl) rfl rfl (set2 HB.out _ _) ⟨(HY.out.setCell (by simp) _).setCell (by simp) _, .inl ⟨ha, rfl⟩⟩
end Go.Proofs.YtjohkmkgmbihkaaGreatDoor

namespace Go.Proofs.YtjohkmkgmbihkaaGreatDoor
open Go.ChangeShapes Go.WideShapes Go.ChangeAt Go.RowKit
set_option linter.unusedVariables false
/-- What Check answers. -/
def chkE (dg lo hi s : ByteArray) : Int := if lookE lo hi s ≠ 0 then lookE lo hi s else match rdA s with
  | none => 9
  | some t => if beq (digT t) dg then 0 else 9
def chkL (dg lo hi s : ByteArray) : List Pq := if chkE dg lo hi s ≠ 0 then [] else match rdA s with
  | none => []
  | some t => prsT lo hi t

theorem look_some {lo hi s : ByteArray} (h : lookE lo hi s = 0) : ∃ t, rdA s = some t := by
  unfold lookE at h
  split at h
  next ha => exact absurd h ha
  · cases hr : rdA s with
    | none => rw [hr] at h; simp at h
    | some t => exact ⟨t, rfl⟩
set_option maxHeartbeats 4000000 in
set_option maxRecDepth 100000 in
theorem Check_any (dg lo hi s : ByteArray) (hs : s.size ≤ 9223372036854775807) (w : World) (hg : ErrT w) :
    Calls Tryz.prog 17 #[.string dg, .string lo, .string hi, .string s] w fun e w' => ∃ v, e = .returned (.tuple #[v, .int .i64 (chkE dg lo hi s)]) ∧ Ext w w' ∧ ROwn w w' (chkL dg lo hi s) v := by
  obtain ⟨W1, hW1⟩ : ∃ z, z = w.alloc (.cells #[.string lo, .string hi] 77) := ⟨_, rfl⟩
  have hx1 : Ext w W1 := by rw [hW1]; exact (Ext.refl w).alloc _
  have hq1 : W1.heap[w.heap.size]? = some (.cells #[.string lo, .string hi] 77) := by rw [hW1]; exact heap_alloc_new w _
  have Q := hid (fun (w' : World) (hx : Ext W1 w') => q_cells (hx.row hq1))
  have HR := hid (read_any lo hi s hs W1 (hg.ext hx1))
  have HW1 := hid hW1
  have HX1 := hid hx1
  clear hW1 hx1 hq1 hg
  by_cases hE : lookE lo hi s = 0
  · obtain ⟨t, hr⟩ := look_some hE
    obtain ⟨hok, hcn⟩ := rdA_gives hr
    have HLE := hid hE
    have HRA := hid hr
    have HOK := hid hok
    clear hok
    cases hb : beq (digT t) dg with
    | true =>
      have hc : chkE dg lo hi s = 0 := by unfold chkE; rw [if_neg (by simp [hE]), hr]; simp [hb]
      have hl : chkL dg lo hi s = prsT lo hi t := by unfold chkL; rw [if_neg (by simp [hc]), hr]
      rw [hc, hl]
      have HBQ := hid (beq_iff.1 hb)
      clear hc hl hb hr hE
      go_enter Tryz.func17, Tryz.ntmps17
      go_wp2_with fail
      rw [← HW1.out]
      refine HR.out.mono ?_
      rintro e w2 ⟨hx2, h⟩
      rcases h with ⟨h, _⟩ | ⟨_, t', p, d, hr', rfl, hai⟩
      · exact absurd HLE.out h
      obtain rfl : t = t' := Option.some.inj (HRA.out.symm.trans hr')
      have x3 := (Ext.refl w2).alloc (.cells #[.pointer p, .string d] 82)
      have HN := hid (heap_alloc_new w2 (.cells #[.pointer p, .string d] 82))
      have HD := hid (TDigest_any t hcn HOK.out p d _ (hai.ext x3))
      have HAI := hid (hai.ext x3)
      have HY := hid (hx2.trans x3)
      clear hai hr' x3 hx2
      go_wp2_with fail
      refine HD.out.mono ?_
      rintro e w4 ⟨rfl, hx4⟩
      have hy4 := HY.out.trans hx4
      obtain ⟨q0, q1⟩ := Q.out _ hy4
      have t0 : w4.cell? ⟨w2.heap.size, 0, none⟩ = some (.pointer p) := cell_of_row _ _ 0 _ _ _ (hx4.row HN.out)
      have t1 : w4.cell? ⟨w2.heap.size, 1, none⟩ = some (.string d) := cell_of_row _ _ 1 _ _ _ (hx4.row HN.out)
      have HP := hid (TPairs_any lo hi t hcn p d w4 (HAI.out.ext hx4))
      rw [HBQ.out]
      go_wp2_with fail
      refine HP.out.mono ?_
      rintro e w5 ⟨v, rfl, hx5, hv⟩
      have HV := hid (owns_base hv (HX1.out.trans hy4).size)
      have HX5 := hid ((HX1.out.trans hy4).trans hx5)
      obtain ⟨va, vc, rfl⟩ := hv.shape
      clear hv
      go_wp2_with fail
      go_ret2
      exact ⟨_, rfl, HX5.out, HV.out⟩
    | false =>
      have hc : chkE dg lo hi s = 9 := by unfold chkE; rw [if_neg (by simp [hE]), hr]; simp [hb]
      have hl : chkL dg lo hi s = [] := by unfold chkL; rw [if_pos (by simp [hc])]
      rw [hc, hl]
      obtain ⟨dt, hdt⟩ : ∃ z, digT t = z := ⟨_, rfl⟩
      have hne : (dt.toList == dg.toList) = false := by rw [← hdt]; exact hb
      have HDT := hid hdt
      clear hc hl hb hr hE hdt
      go_enter Tryz.func17, Tryz.ntmps17
      go_wp2_with fail
      rw [← HW1.out]
      refine HR.out.mono ?_
      rintro e w2 ⟨hx2, h⟩
      rcases h with ⟨h, _⟩ | ⟨_, t', p, d, hr', rfl, hai⟩
      · exact absurd HLE.out h
      obtain rfl : t = t' := Option.some.inj (HRA.out.symm.trans hr')
      have x3 := (Ext.refl w2).alloc (.cells #[.pointer p, .string d] 82)
      have HN := hid (heap_alloc_new w2 (.cells #[.pointer p, .string d] 82))
      have HD := hid (TDigest_any t hcn HOK.out p d _ (hai.ext x3))
      have HAI := hid (hai.ext x3)
      have HY := hid (hx2.trans x3)
      clear hai hr' x3 hx2
      go_wp2_with fail
      refine HD.out.mono ?_
      rintro e w4 ⟨rfl, hx4⟩
      rw [HDT.out]
      have HX5 := hid ((HX1.out.trans HY.out).trans hx4)
      go_wp2_with fail
      go_ret2
      exact ⟨_, rfl, HX5.out, World.ownsRow_nil _ _ _ _⟩
  · have hc : chkE dg lo hi s = lookE lo hi s := by unfold chkE; rw [if_pos hE]
    have hl : chkL dg lo hi s = [] := by unfold chkL; rw [if_pos (by rw [hc]; exact hE)]
    rw [hc, hl]
    clear hc hl
    generalize lookE lo hi s = le at *
    go_enter Tryz.func17, Tryz.ntmps17
    go_wp2_with fail
    rw [← HW1.out]
    refine HR.out.mono ?_
    rintro e w2 ⟨hx2, h⟩
    rcases h with ⟨_, rfl⟩ | ⟨h, _⟩
    rotate_left
    · exact absurd h hE
    have HX5 := hid ((HX1.out.trans hx2).alloc oT)
    go_wp2_with fail
    go_ret2
    exact ⟨_, rfl, HX5.out, World.ownsRow_nil _ _ _ _⟩
end Go.Proofs.YtjohkmkgmbihkaaGreatDoor
