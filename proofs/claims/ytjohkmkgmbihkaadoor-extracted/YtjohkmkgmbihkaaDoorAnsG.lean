/- What reads an answer: any tree; the whole. -/
import Derived.Test.YtjohkmkgmbihkaaDoorAnsF
namespace Go.Proofs.YtjohkmkgmbihkaaDoor
open Go.ChangeShapes Go.WideShapes Go.ChangeAt Go.RowKit
set_option linter.unusedVariables false

theorem lit0 : (⟨#[]⟩ : ByteArray).toList = [] := by first | rfl | decide | simp | simp [go_sem]
theorem lit1 (c : UInt8) : (⟨#[c]⟩ : ByteArray).toList = [c] := by first | rfl | simp | simp [go_sem]
set_option maxHeartbeats 8000000 in
set_option maxRecDepth 100000 in
theorem tree_step (r : Nat) (g : Rdr) (hl : Less g) (s : ByteArray) (n : Nat) (w : World) (h : Rd w r s n) (hT : n < 50 → ∀ s' n', n < n' → n' ≤ 50 → TreeC r g s' n') :
    Calls Tryd.prog 22 #[.pointer (some ⟨r, 0, none⟩)] w (Post w r (rdW g s n)) := by
  have hrb : r < w.heap.size := row_lt h.1
  have hx0 := (Ext.refl w).alloc oT
  have hb0 : (w.alloc oT).heap[w.heap.size]? = some oT := heap_alloc_new w _
  have hs0 : w.heap.size < (w.alloc oT).heap.size := by simp
  have hg0 := World.grownBy_alloc w oT (some r)
  have hR0 := h.ext hx0
  clear h
  unfold rdW
  cases et : tk s 1 with
  | none =>
    have hlt := tk_none et
    have HR := hid hR0
    clear et hR0
    go_enter Tryd.func22, Tryd.ntmps22
    go_wp2_with fail
    refine (take_no r s n 1 _ HR.out hlt (by omega)).mono ?_
    rintro e w1 ⟨⟨ev, hev, rfl⟩, hw⟩
    subst hw
    obtain ⟨t1, u1, rfl⟩ := hev.iface
    have HE := hid hev
    have hb := hb0
    have HG := hid hg0
    generalize w.alloc oT = w1 at *
    clear hev hb0 hx0 hg0
    have b0 : w1.cell? ⟨w.heap.size, 0, none⟩ = some (.pointer none) := cell_of_row _ _ 0 _ _ _ hb
    have b1 : w1.cell? ⟨w.heap.size, 1, none⟩ = some (.string ⟨#[]⟩) := cell_of_row _ _ 1 _ _ _ hb
    have f0 := row_frz hb
    have HB := hid hb
    clear hb
    go_wp2_with fail
    exact fin_no (by kernel_rfl) HG.out HB.out HE.out rfl rfl
  | some q =>
    obtain ⟨c, s2⟩ := q
    obtain ⟨ht1, ht2, hd, hs2⟩ := tk_size et
    have hle : 1 ≤ s.size := by omega
    have HT := hid (take_ok r s n 1 _ hR0 hle)
    rw [← hd, ← hs2] at HT
    clear et hd hs2 hR0
    simp only
    cases q1 : beq c ⟨#[78]⟩ with
    | true =>
      rw [if_pos rfl]
      obtain rfl := beq_iff.1 q1
      clear q1
      cases e2 : rdN g s2 n with
      | none =>
        go_enter Tryd.func22, Tryd.ntmps22
        go_wp2_with fail
        refine HT.out.mono ?_
        rintro e w1 ⟨rfl, hr1, hg1⟩
        have hb := (hg1.block w.heap.size hs0 (by simp; omega)).trans hb0
        have hs1 : w.heap.size < w1.heap.size := row_lt hb
        have HG := hid (hg0.trans hg1)
        have HR := hid hr1
        clear hr1 hg1 hb0 hx0 hg0
        have hn := node_any r g hl s2 n w1 HR.out hT
        rw [e2] at hn
        have HN := hid hn
        have HB0 := hid hb
        clear hn hb
        go_wp2_with fail
        refine HN.out.mono ?_
        rintro e w2 ⟨hg2, ev, hev, rfl⟩
        obtain ⟨t1, u1, rfl⟩ := hev.iface
        have HE := hid hev
        have hb := (hg2.block w.heap.size hs1 (by simp; omega)).trans HB0.out
        have HG2 := hid (HG.out.trans hg2)
        clear hev hg2
        have b0 : w2.cell? ⟨w.heap.size, 0, none⟩ = some (.pointer none) := cell_of_row _ _ 0 _ _ _ hb
        have b1 : w2.cell? ⟨w.heap.size, 1, none⟩ = some (.string ⟨#[]⟩) := cell_of_row _ _ 1 _ _ _ hb
        have f0 := row_frz hb
        have HB := hid hb
        clear hb
        go_wp2_with fail
        exact fin_no (by kernel_rfl) HG2.out HB.out HE.out rfl rfl
      | some p2 =>
        obtain ⟨t2, s3, n3⟩ := p2
        go_enter Tryd.func22, Tryd.ntmps22
        go_wp2_with fail
        refine HT.out.mono ?_
        rintro e w1 ⟨rfl, hr1, hg1⟩
        have hb := (hg1.block w.heap.size hs0 (by simp; omega)).trans hb0
        have hs1 : w.heap.size < w1.heap.size := row_lt hb
        have HG := hid (hg0.trans hg1)
        have HR := hid hr1
        clear hr1 hg1 hb0 hx0 hg0
        have hn := node_any r g hl s2 n w1 HR.out hT
        rw [e2] at hn
        have HN := hid hn
        have HB0 := hid hb
        clear hn hb
        go_wp2_with fail
        refine HN.out.mono ?_
        rintro e w2 ⟨hg2, p, d, rfl, ha, hr2⟩
        have hb := (hg2.block w.heap.size hs1 (by simp; omega)).trans HB0.out
        have HG2 := hid (HG.out.trans hg2)
        have HA := hid ha
        have HR2 := hid hr2
        clear ha hr2 hg2
        have b0 : w2.cell? ⟨w.heap.size, 0, none⟩ = some (.pointer none) := cell_of_row _ _ 0 _ _ _ hb
        have b1 : w2.cell? ⟨w.heap.size, 1, none⟩ = some (.string ⟨#[]⟩) := cell_of_row _ _ 1 _ _ _ hb
        have f0 := row_frz hb
        have HB := hid hb
        clear hb
        go_wp2_with fail
        exact fin_ok (by kernel_rfl) HG2.out hrb HB.out HA.out HR2.out rfl rfl
    | false =>
      rw [if_neg (by simp)]
      cases q2 : beq c ⟨#[69]⟩ with
      | true =>
        rw [if_pos rfl]
        obtain rfl := beq_iff.1 q2
        clear q1 q2
        go_enter Tryd.func22, Tryd.ntmps22
        go_wp2_with fail
        refine HT.out.mono ?_
        rintro e w1 ⟨rfl, hr1, hg1⟩
        have hb := (hg1.block w.heap.size hs0 (by simp; omega)).trans hb0
        have hs1 : w.heap.size < w1.heap.size := row_lt hb
        have HG := hid (hg0.trans hg1)
        have HR := hid hr1
        clear hr1 hg1 hb0 hx0 hg0
        have b0 : w1.cell? ⟨w.heap.size, 0, none⟩ = some (.pointer none) := cell_of_row _ _ 0 _ _ _ hb
        have b1 : w1.cell? ⟨w.heap.size, 1, none⟩ = some (.string ⟨#[]⟩) := cell_of_row _ _ 1 _ _ _ hb
        have f0 := row_frz hb
        have HB := hid hb
        clear hb
        go_wp2_with fail
        exact fin_ok (t := .empty) (p := none) (d := ⟨#[]⟩) (by kernel_rfl) HG.out hrb HB.out ⟨rfl, rfl⟩ HR.out rfl rfl
      | false =>
        rw [if_neg (by simp)]
        cases q3 : beq c ⟨#[83]⟩ with
        | true =>
          rw [if_pos rfl]
          obtain rfl := beq_iff.1 q3
          clear q1 q2 q3
          cases e2 : rdS s2 n with
          | none =>
            go_enter Tryd.func22, Tryd.ntmps22
            go_wp2_with fail
            refine HT.out.mono ?_
            rintro e w1 ⟨rfl, hr1, hg1⟩
            have hb := (hg1.block w.heap.size hs0 (by simp; omega)).trans hb0
            have hs1 : w.heap.size < w1.heap.size := row_lt hb
            have HG := hid (hg0.trans hg1)
            have HR := hid hr1
            clear hr1 hg1 hb0 hx0 hg0
            have hn := alone_any r s2 n w1 HR.out
            rw [e2] at hn
            have HN := hid hn
            have HB0 := hid hb
            clear hn hb
            go_wp2_with fail
            refine HN.out.mono ?_
            rintro e w2 ⟨hg2, ev, hev, rfl⟩
            obtain ⟨t1, u1, rfl⟩ := hev.iface
            have HE := hid hev
            have hb := (hg2.block w.heap.size hs1 (by simp; omega)).trans HB0.out
            have HG2 := hid (HG.out.trans hg2)
            clear hev hg2
            have b0 : w2.cell? ⟨w.heap.size, 0, none⟩ = some (.pointer none) := cell_of_row _ _ 0 _ _ _ hb
            have b1 : w2.cell? ⟨w.heap.size, 1, none⟩ = some (.string ⟨#[]⟩) := cell_of_row _ _ 1 _ _ _ hb
            have f0 := row_frz hb
            have HB := hid hb
            clear hb
            go_wp2_with fail
            exact fin_no (by kernel_rfl) HG2.out HB.out HE.out rfl rfl
          | some p2 =>
            obtain ⟨t2, s3, n3⟩ := p2
            go_enter Tryd.func22, Tryd.ntmps22
            go_wp2_with fail
            refine HT.out.mono ?_
            rintro e w1 ⟨rfl, hr1, hg1⟩
            have hb := (hg1.block w.heap.size hs0 (by simp; omega)).trans hb0
            have hs1 : w.heap.size < w1.heap.size := row_lt hb
            have HG := hid (hg0.trans hg1)
            have HR := hid hr1
            clear hr1 hg1 hb0 hx0 hg0
            have hn := alone_any r s2 n w1 HR.out
            rw [e2] at hn
            have HN := hid hn
            have HB0 := hid hb
            clear hn hb
            go_wp2_with fail
            refine HN.out.mono ?_
            rintro e w2 ⟨hg2, p, d, rfl, ha, hr2⟩
            have hb := (hg2.block w.heap.size hs1 (by simp; omega)).trans HB0.out
            have HG2 := hid (HG.out.trans hg2)
            have HA := hid ha
            have HR2 := hid hr2
            clear ha hr2 hg2
            have b0 : w2.cell? ⟨w.heap.size, 0, none⟩ = some (.pointer none) := cell_of_row _ _ 0 _ _ _ hb
            have b1 : w2.cell? ⟨w.heap.size, 1, none⟩ = some (.string ⟨#[]⟩) := cell_of_row _ _ 1 _ _ _ hb
            have f0 := row_frz hb
            have HB := hid hb
            clear hb
            go_wp2_with fail
            exact fin_ok (by kernel_rfl) HG2.out hrb HB.out HA.out HR2.out rfl rfl
        | false =>
          rw [if_neg (by simp)]
          have r1 : (c.toList == [78]) = false := by rw [← lit1 78]; exact q1
          have r2 : (c.toList == [69]) = false := by rw [← lit1 69]; exact q2
          have r3 : (c.toList == [83]) = false := by rw [← lit1 83]; exact q3
          clear q1 q2 q3
          go_enter Tryd.func22, Tryd.ntmps22
          go_wp2_with fail
          refine HT.out.mono ?_
          rintro e w1 ⟨rfl, hr1, hg1⟩
          have hb := (hg1.block w.heap.size hs0 (by simp; omega)).trans hb0
          have hs1 : w.heap.size < w1.heap.size := row_lt hb
          have HG := hid (hg0.trans hg1)
          have HR := hid hr1
          clear hr1 hg1 hb0 hx0 hg0
          have b0 : w1.cell? ⟨w.heap.size, 0, none⟩ = some (.pointer none) := cell_of_row _ _ 0 _ _ _ hb
          have b1 : w1.cell? ⟨w.heap.size, 1, none⟩ = some (.string ⟨#[]⟩) := cell_of_row _ _ 1 _ _ _ hb
          have f0 := row_frz hb
          have HB := hid hb
          clear hb
          go_wp2_with fail
          exact fin_no (by kernel_rfl) HG.out HB.out (Chain.base _) rfl rfl

theorem rtree_any (r : Nat) : ∀ (f : Nat) (s : ByteArray) (n : Nat), 50 ≤ n + f → TreeC r (rd f) s n
  | 0, s, n, hf => fun w h => tree_step r _ (fun s n t r m h _ => by cases h) s n w h (fun hlt => absurd hf (by omega))
  | f + 1, s, n, hf => fun w h => tree_step r _ (rd_less f) s n w h (fun hlt s' n' h1 h2 => rtree_any r f s' n' (by omega))

set_option maxHeartbeats 8000000 in
set_option maxRecDepth 100000 in
theorem Read_any (s : ByteArray) (hs : s.size ≤ 9223372036854775807) (w : World) :
    Calls Tryd.prog 12 #[.string s] w fun e w' => Ext w w' ∧ match rdA s with
      | none => ∃ ev, ErrU ev ∧ e = .returned (.tuple #[nilT, ev])
      | some t => ∃ p d, e = .returned (.tuple #[.agg #[.pointer p, .string d], .nilIface]) ∧ AIn w' t p d := by
  have hx0 := (Ext.refl w).alloc oT
  have hb0 : (w.alloc oT).heap[w.heap.size]? = some oT := heap_alloc_new w _
  have e0 : (w.alloc oT).heap.size = w.heap.size + 1 := by simp
  have hr1 : Rd ((w.alloc oT).alloc (.cells #[.string s, .int .i64 0] 66)) (w.heap.size + 1) s 0 := ⟨by rw [← e0]; exact heap_alloc_new _ _, hs, by omega⟩
  have x1 := (Ext.refl (w.alloc oT)).alloc (.cells #[.string s, .int .i64 0] 66)
  have hb1 := (x1.block w.heap.size (by simp)).trans hb0
  have hs1 : w.heap.size < ((w.alloc oT).alloc (.cells #[.string s, .int .i64 0] 66)).heap.size := row_lt hb1
  have hx1 := hx0.trans x1
  have ht := rtree_any (w.heap.size + 1) 50 s 0 (by omega) _ hr1
  unfold rdA
  clear hx0 hb0 x1 hr1
  cases er : rd 50 s 0 with
  | none =>
    rw [er] at ht
    have HT := hid ht
    clear ht er
    go_enter Tryd.func12, Tryd.ntmps12
    go_wp2_with fail
    refine HT.out.mono ?_
    rintro e w1 ⟨hg, ev, hev, rfl⟩
    obtain ⟨t1, u1, rfl⟩ := hev.iface
    have HE := hid hev
    have hb := (hg.block w.heap.size hs1 (by simp)).trans hb1
    have HX := hid (hx1.grown1 (by omega) hg)
    clear hev hg hb1
    have y0 := fun ob => ((Ext.refl w1).alloc ob).keep1 (show w1.cell? ⟨w.heap.size, 0, none⟩ = some (.pointer none) from cell_of_row _ _ 0 _ _ _ hb)
    have y1 := fun ob => ((Ext.refl w1).alloc ob).keep1 (show w1.cell? ⟨w.heap.size, 1, none⟩ = some (.string ⟨#[]⟩) from cell_of_row _ _ 1 _ _ _ hb)
    have z0 : ∀ ob i, (w1.alloc ob).frozen? ⟨w.heap.size, i, none⟩ = false := fun ob i => row_frz (((Ext.refl w1).alloc ob).row hb) i
    have HB := hid hb
    clear hb
    go_wp2_with fail
    exact ret_T (by kernel_rfl) rfl rfl (set2 (((Ext.refl w1).alloc _).row HB.out) _ _) ⟨((HX.out.alloc _).setCell (Nat.le_refl _) _).setCell (Nat.le_refl _) _, _, HE.out, rfl⟩
  | some q =>
    obtain ⟨t, s2, n2⟩ := q
    rw [er] at ht
    have HT := hid ht
    clear ht er
    simp only
    cases q1 : beq s2 ⟨#[]⟩ with
    | true =>
      rw [if_pos rfl]
      obtain rfl := beq_iff.1 q1
      clear q1
      go_enter Tryd.func12, Tryd.ntmps12
      go_wp2_with fail
      refine HT.out.mono ?_
      rintro e w1 ⟨hg, p, d, rfl, ha, hr⟩
      have hb := (hg.block w.heap.size hs1 (by simp)).trans hb1
      have HX := hid (hx1.grown1 (by omega) hg)
      have c0 := fun ob => ((Ext.refl w1).alloc ob).keep1 hr.c0
      have HA := hid ha
      clear hg hb1 ha hr
      have y0 := fun ob => ((Ext.refl w1).alloc ob).keep1 (show w1.cell? ⟨w.heap.size, 0, none⟩ = some (.pointer none) from cell_of_row _ _ 0 _ _ _ hb)
      have y1 := fun ob => ((Ext.refl w1).alloc ob).keep1 (show w1.cell? ⟨w.heap.size, 1, none⟩ = some (.string ⟨#[]⟩) from cell_of_row _ _ 1 _ _ _ hb)
      have z0 : ∀ ob i, (w1.alloc ob).frozen? ⟨w.heap.size, i, none⟩ = false := fun ob i => row_frz (((Ext.refl w1).alloc ob).row hb) i
      have HB := hid hb
      clear hb
      go_wp2_with fail
      have hbf := ((Ext.refl w1).alloc (.cells #[.pointer p, .string d] 30)).row HB.out
      exact ret_T (by kernel_rfl) rfl rfl (set2 hbf _ _) ⟨((HX.out.alloc _).setCell (Nat.le_refl _) _).setCell (Nat.le_refl _) _, p, d, rfl,
        AIn.set (tree_row hbf 0 (.pointer p) #[.pointer p, .string ⟨#[]⟩] (by rfl)) (AIn.set hbf (HA.out.ext ((Ext.refl w1).alloc _)) 0 _) 1 _⟩
    | false =>
      rw [if_neg (by simp)]
      have r1 : s2.toList.isEmpty = false := by
        have := beq_false.1 q1
        cases hh : s2.toList with
        | nil => exact absurd (beq_iff.1 (by unfold beq; rw [hh, lit0]; rfl)) this
        | cons a b => rfl
      clear q1
      go_enter Tryd.func12, Tryd.ntmps12
      go_wp2_with fail
      refine HT.out.mono ?_
      rintro e w1 ⟨hg, p, d, rfl, ha, hr⟩
      have hb := (hg.block w.heap.size hs1 (by simp)).trans hb1
      have HX := hid (hx1.grown1 (by omega) hg)
      have c0 := fun ob => ((Ext.refl w1).alloc ob).keep1 hr.c0
      clear hg hb1 ha hr
      have y0 := fun ob => ((Ext.refl w1).alloc ob).keep1 (show w1.cell? ⟨w.heap.size, 0, none⟩ = some (.pointer none) from cell_of_row _ _ 0 _ _ _ hb)
      have y1 := fun ob => ((Ext.refl w1).alloc ob).keep1 (show w1.cell? ⟨w.heap.size, 1, none⟩ = some (.string ⟨#[]⟩) from cell_of_row _ _ 1 _ _ _ hb)
      have z0 : ∀ ob i, (w1.alloc ob).frozen? ⟨w.heap.size, i, none⟩ = false := fun ob i => row_frz (((Ext.refl w1).alloc ob).row hb) i
      have HB := hid hb
      clear hb
      go_wp2_with fail
      exact ret_T (by kernel_rfl) rfl rfl (set2 (((Ext.refl w1).alloc _).row HB.out) _ _) ⟨((HX.out.alloc _).setCell (Nat.le_refl _) _).setCell (Nat.le_refl _) _, _, Chain.base _, rfl⟩
end Go.Proofs.YtjohkmkgmbihkaaDoor
