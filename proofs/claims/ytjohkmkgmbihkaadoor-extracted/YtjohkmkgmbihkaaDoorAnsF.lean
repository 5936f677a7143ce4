/- What reads an answer: a node. -/
import Derived.Test.YtjohkmkgmbihkaaDoorAnsE
namespace Go.Proofs.YtjohkmkgmbihkaaDoor
open Go.ChangeShapes Go.WideShapes Go.ChangeAt Go.RowKit
set_option linter.unusedVariables false
/-- What a call of the reader's tree does. -/
def TreeC (r : Nat) (g : Rdr) (s : ByteArray) (n : Nat) : Prop := ∀ w, Rd w r s n → Calls Tryd.prog 22 #[.pointer (some ⟨r, 0, none⟩)] w (Post w r (g s n))

theorem fin_noX {fn : Func} {w w1 wf : World} {r : Nat} {tmps : Array Value} {ev : Value} {x y : Value} (hr : fn.results = #[.cell 2 30, .tmp 3]) (hg : w.grownBy w1 (some r)) (hb : w1.heap[w.heap.size]? = some (.cells #[x, y] 30))
    (he : ErrU ev) (hx : Ext ((w1.setCell ⟨w.heap.size, 0, none⟩ (.pointer none)).setCell ⟨w.heap.size, 1, none⟩ (.string ⟨#[]⟩)) wf) (h2 : tmps.getD 2 undef = .pointer (some ⟨w.heap.size, 0, none⟩)) (h3 : tmps.getD 3 undef = ev) :
    bodyPost Tryd.prog fn (Post w r none) .ret ⟨tmps, []⟩ wf :=
  ret_T hr h2 h3 (hx.row (set2 hb _ _)) ⟨grown_ext (grown_new (grown_new hg (Nat.le_refl _) _) (Nat.le_refl _) _) hx, ev, he, rfl⟩
set_option maxHeartbeats 8000000 in
set_option maxRecDepth 100000 in
theorem node_any (r : Nat) (g : Rdr) (hl : Less g) (s : ByteArray) (n : Nat) (w : World) (h : Rd w r s n) (hT : n < 50 → ∀ s' n', n < n' → n' ≤ 50 → TreeC r g s' n') :
    Calls Tryd.prog 43 #[.pointer (some ⟨r, 0, none⟩)] w (Post w r (rdN g s n)) := by
  have hrb : r < w.heap.size := row_lt h.1
  have hn50 := h.2.2
  have hx0 := (Ext.refl w).alloc oT
  have hb0 : (w.alloc oT).heap[w.heap.size]? = some oT := heap_alloc_new w _
  have hs0 : w.heap.size < (w.alloc oT).heap.size := by simp
  have hg0 := World.grownBy_alloc w oT (some r)
  have hR0 := h.ext hx0
  have c1 := hR0.c1
  have f1 := hR0.f 1
  have c1' := h.c1
  have f1' := h.f 1
  have h0 := h
  clear h
  unfold rdN
  by_cases h50 : n = 50
  · rw [if_pos h50]
    have b0 : (w.alloc oT).cell? ⟨w.heap.size, 0, none⟩ = some (.pointer none) := cell_of_row _ _ 0 _ _ _ hb0
    have b1 : (w.alloc oT).cell? ⟨w.heap.size, 1, none⟩ = some (.string ⟨#[]⟩) := cell_of_row _ _ 1 _ _ _ hb0
    have f0 := row_frz hb0
    have h50' : (n : Int) = 50 := by omega
    have HB := hid hb0
    have HG := hid hg0
    clear hR0 hT hb0 hg0 hx0 h50 h0
    subst_vars
    go_enter Tryd.func43, Tryd.ntmps43
    go_wp2_with fail
    exact ret_T (by kernel_rfl) rfl rfl HB.out ⟨HG.out, _, Chain.base _, rfl⟩
  · rw [if_neg h50]
    have hT := hT (by omega)
    have h50' : ¬ (n : Int) = 50 := by omega
    obtain ⟨hR1, hgs⟩ := h0.set1 (n + 1) (by omega)
    rw [show ((n + 1 : Nat) : Int) = (n : Int) + 1 by omega] at hR1 hgs
    have hsz : (w.setCell ⟨r, 1, none⟩ (.int .i64 ((n : Int) + 1))).heap.size = w.heap.size := by simp [World.setCell]
    have hb1 := heap_alloc_new (w.setCell ⟨r, 1, none⟩ (.int .i64 ((n : Int) + 1))) oT
    rw [hsz] at hb1
    have hg1 := hgs.trans (World.grownBy_alloc (w.setCell ⟨r, 1, none⟩ (.int .i64 ((n : Int) + 1))) oT (some r))
    have hs1 : w.heap.size < ((w.setCell ⟨r, 1, none⟩ (.int .i64 ((n : Int) + 1))).alloc oT).heap.size := row_lt hb1
    have hn := entry_any r s (n + 1) _ (hR1.ext ((Ext.refl _).alloc oT))
    clear hR0 hgs hb0 hg0 hx0 hs0 hR1 h50 h0 hsz
    cases en : ent s with
    | none =>
      rw [en] at hn
      have HN := hid hn
      clear hn en hT
      go_enter Tryd.func43, Tryd.ntmps43
      go_wp2_with fail
      refine HN.out.mono ?_
      rintro e w1 ⟨hg, ev, hev, rfl⟩
      obtain ⟨t1, u1, rfl⟩ := hev.iface
      have HE := hid hev
      have hb := (hg.block w.heap.size hs1 (by simp; omega)).trans hb1
      have H2 := hid (hg1.trans hg)
      clear hev hg hb1 hg1
      have b0 : w1.cell? ⟨w.heap.size, 0, none⟩ = some (.pointer none) := cell_of_row _ _ 0 _ _ _ hb
      have b1 : w1.cell? ⟨w.heap.size, 1, none⟩ = some (.string ⟨#[]⟩) := cell_of_row _ _ 1 _ _ _ hb
      have f0 := row_frz hb
      have y0 := fun ob => ((Ext.refl w1).alloc ob).keep1 b0
      have y1 := fun ob => ((Ext.refl w1).alloc ob).keep1 b1
      have z0 : ∀ ob i, (w1.alloc ob).frozen? ⟨w.heap.size, i, none⟩ = false := fun ob i => row_frz (((Ext.refl w1).alloc ob).row hb) i
      have HB := hid hb
      clear hb
      go_wp2_with fail
      exact fin_noX (w1 := w1.alloc _) (by kernel_rfl) (grown_alloc' H2.out _) (((Ext.refl w1).alloc _).row HB.out) HE.out (Ext.refl _) rfl rfl
    | some p =>
      obtain ⟨x, s1⟩ := p
      rw [en] at hn
      have HN := hid hn
      clear hn en
      simp only
      cases e2 : g s1 (n + 1) with
      | none =>
        go_enter Tryd.func43, Tryd.ntmps43
        go_wp2_with fail
        refine HN.out.mono ?_
        rintro e w1 ⟨hg, rfl, hr⟩
        have hb2 := (hg.block w.heap.size hs1 (by simp; omega)).trans hb1
        have hg2 := hg1.trans hg
        have hs2 : w.heap.size < w1.heap.size := row_lt hb2
        clear hg hb1 hg1
        have x1 := (Ext.refl w1).alloc (.cells #[.string x.key, .string x.val, .int .i64 (x.h : Int)] 77)
        have hc1 := heap_alloc_new w1 (.cells #[.string x.key, .string x.val, .int .i64 (x.h : Int)] 77)
        have hz1 : w1.heap.size < (w1.alloc (.cells #[.string x.key, .string x.val, .int .i64 (x.h : Int)] 77)).heap.size := by simp
        have hrw : r < w1.heap.size := row_lt hr.1
        have ht1 := hT s1 (n + 1) (by omega) (by omega) _ (hr.ext x1)
        rw [e2] at ht1
        have HT1 := hid ht1
        have hb3 := (x1.block w.heap.size hs2).trans hb2
        have hg3 := grown_ext hg2 x1
        have hs3 : w.heap.size < (w1.alloc (.cells #[.string x.key, .string x.val, .int .i64 (x.h : Int)] 77)).heap.size := row_lt hb3
        clear ht1 hr hb2 hg2
        go_wp2_with fail
        refine HT1.out.mono ?_
        rintro e w2 ⟨hg, ev, hev, rfl⟩
        obtain ⟨t1, u1, rfl⟩ := hev.iface
        have HE := hid hev
        have hb := (hg.block w.heap.size hs3 (by simp; omega)).trans hb3
        have hc2 := (hg.block w1.heap.size hz1 (by simp; omega)).trans hc1
        have k0 : w2.cell? ⟨w1.heap.size, 0, none⟩ = some (.string x.key) := cell_of_row _ _ 0 _ _ _ hc2
        have k1 := fun ob => ((Ext.refl w2).alloc ob).keep1 k0
        have H2 := hid (hg3.trans hg)
        clear hev hg hb3 hg3 hc1
        have b0 : w2.cell? ⟨w.heap.size, 0, none⟩ = some (.pointer none) := cell_of_row _ _ 0 _ _ _ hb
        have b1 : w2.cell? ⟨w.heap.size, 1, none⟩ = some (.string ⟨#[]⟩) := cell_of_row _ _ 1 _ _ _ hb
        have f0 := row_frz hb
        have y0 := fun ob => ((Ext.refl w2).alloc ob).keep1 b0
        have y1 := fun ob => ((Ext.refl w2).alloc ob).keep1 b1
        have z0 : ∀ ob i, (w2.alloc ob).frozen? ⟨w.heap.size, i, none⟩ = false := fun ob i => row_frz (((Ext.refl w2).alloc ob).row hb) i
        have HB := hid hb
        clear hb
        have hlt2 : w1.heap.size < w2.heap.size := row_lt hc2
        have hwl : w.heap.size < w1.heap.size := hs2
        go_wp2_with fail
        go_region
        all_goals (try go_wp2_with fail)
        all_goals exact fin_noX (w1 := w2.alloc _) (by kernel_rfl) (grown_alloc' H2.out _) (((Ext.refl w2).alloc _).row HB.out) (Chain.wrap _ _ _ HE.out) (Ext.refl _).drew rfl rfl
      | some p2 =>
        obtain ⟨l, s2, n2⟩ := p2
        have hl2 := hl _ _ _ _ _ e2 (by omega)
        simp only
        cases e3 : g s2 n2 with
        | none =>
          go_enter Tryd.func43, Tryd.ntmps43
          go_wp2_with fail
          refine HN.out.mono ?_
          rintro e w1 ⟨hg, rfl, hr⟩
          have hb2 := (hg.block w.heap.size hs1 (by simp; omega)).trans hb1
          have hg2 := hg1.trans hg
          have hs2 : w.heap.size < w1.heap.size := row_lt hb2
          clear hg hb1 hg1
          have x1 := (Ext.refl w1).alloc (.cells #[.string x.key, .string x.val, .int .i64 (x.h : Int)] 77)
          have hc1 := heap_alloc_new w1 (.cells #[.string x.key, .string x.val, .int .i64 (x.h : Int)] 77)
          have hz1 : w1.heap.size < (w1.alloc (.cells #[.string x.key, .string x.val, .int .i64 (x.h : Int)] 77)).heap.size := by simp
          have hrw : r < w1.heap.size := row_lt hr.1
          have ht1 := hT s1 (n + 1) (by omega) (by omega) _ (hr.ext x1)
          rw [e2] at ht1
          have HT1 := hid ht1
          have hb3 := (x1.block w.heap.size hs2).trans hb2
          have hg3 := grown_ext hg2 x1
          have hs3 : w.heap.size < (w1.alloc (.cells #[.string x.key, .string x.val, .int .i64 (x.h : Int)] 77)).heap.size := row_lt hb3
          clear ht1 hr hb2 hg2
          go_wp2_with fail
          refine HT1.out.mono ?_
          rintro e w2 ⟨hg, pl, dl, rfl, ha2, hr2⟩
          have hb4 := (hg.block w.heap.size hs3 (by simp; omega)).trans hb3
          have hc2 := (hg.block w1.heap.size hz1 (by simp; omega)).trans hc1
          have hg4 := hg3.trans hg
          have hs4 : w.heap.size < w2.heap.size := row_lt hb4
          have hlt2 : w1.heap.size < w2.heap.size := row_lt hc2
          have hrw2 : r < w2.heap.size := row_lt hr2.1
          clear hg hb3 hg3 hc1
          have x2 := (Ext.refl w2).alloc (.cells #[.pointer pl, .string dl] 30)
          have ho2 := heap_alloc_new w2 (.cells #[.pointer pl, .string dl] 30)
          have hz2 : w2.heap.size < (w2.alloc (.cells #[.pointer pl, .string dl] 30)).heap.size := by simp
          have ht2 := hT s2 n2 (by omega) (by omega) _ (hr2.ext x2)
          rw [e3] at ht2
          have HT2 := hid ht2
          have hb5 := (x2.block w.heap.size hs4).trans hb4
          have hc3 := (x2.block w1.heap.size hlt2).trans hc2
          have hg5 := grown_ext hg4 x2
          have hs5 : w.heap.size < (w2.alloc (.cells #[.pointer pl, .string dl] 30)).heap.size := row_lt hb5
          have hs6 : w1.heap.size < (w2.alloc (.cells #[.pointer pl, .string dl] 30)).heap.size := row_lt hc3
          have HA2 := hid (ha2.ext x2)
          have HR2 := hid (hr2.ext x2)
          clear ht2 hr2 ha2 hb4 hg4 hc2
          go_wp2_with fail
          refine HT2.out.mono ?_
          rintro e w3 ⟨hg, ev, hev, rfl⟩
          obtain ⟨t1, u1, rfl⟩ := hev.iface
          have HE := hid hev
          have hb := (hg.block w.heap.size hs5 (by simp; omega)).trans hb5
          have hc4 := (hg.block w1.heap.size hs6 (by simp; omega)).trans hc3
          have k0 : w3.cell? ⟨w1.heap.size, 0, none⟩ = some (.string x.key) := cell_of_row _ _ 0 _ _ _ hc4
          have k1 := fun ob => ((Ext.refl w3).alloc ob).keep1 k0
          have H2 := hid (hg5.trans hg)
          clear hev hg hb5 hg5 hc3
          have b0 : w3.cell? ⟨w.heap.size, 0, none⟩ = some (.pointer none) := cell_of_row _ _ 0 _ _ _ hb
          have b1 : w3.cell? ⟨w.heap.size, 1, none⟩ = some (.string ⟨#[]⟩) := cell_of_row _ _ 1 _ _ _ hb
          have f0 := row_frz hb
          have y0 := fun ob => ((Ext.refl w3).alloc ob).keep1 b0
          have y1 := fun ob => ((Ext.refl w3).alloc ob).keep1 b1
          have z0 : ∀ ob i, (w3.alloc ob).frozen? ⟨w.heap.size, i, none⟩ = false := fun ob i => row_frz (((Ext.refl w3).alloc ob).row hb) i
          have HB := hid hb
          clear hb
          have hlt3 : w1.heap.size < w3.heap.size := row_lt hc4
          have hwl : w.heap.size < w1.heap.size := hs2
          go_wp2_with fail
          go_region
          all_goals (try go_wp2_with fail)
          all_goals exact fin_noX (w1 := w3.alloc _) (by kernel_rfl) (grown_alloc' H2.out _) (((Ext.refl w3).alloc _).row HB.out) (Chain.wrap _ _ _ HE.out) (Ext.refl _).drew rfl rfl
        | some p3 =>
          obtain ⟨rt, s3, n3⟩ := p3
          simp only
          go_enter Tryd.func43, Tryd.ntmps43
          go_wp2_with fail
          refine HN.out.mono ?_
          rintro e w1 ⟨hg, rfl, hr⟩
          have hb2 := (hg.block w.heap.size hs1 (by simp; omega)).trans hb1
          have hg2 := hg1.trans hg
          have hs2 : w.heap.size < w1.heap.size := row_lt hb2
          clear hg hb1 hg1
          have x1 := (Ext.refl w1).alloc (.cells #[.string x.key, .string x.val, .int .i64 (x.h : Int)] 77)
          have hc1 := heap_alloc_new w1 (.cells #[.string x.key, .string x.val, .int .i64 (x.h : Int)] 77)
          have hz1 : w1.heap.size < (w1.alloc (.cells #[.string x.key, .string x.val, .int .i64 (x.h : Int)] 77)).heap.size := by simp
          have hrw : r < w1.heap.size := row_lt hr.1
          have ht1 := hT s1 (n + 1) (by omega) (by omega) _ (hr.ext x1)
          rw [e2] at ht1
          have HT1 := hid ht1
          have hb3 := (x1.block w.heap.size hs2).trans hb2
          have hg3 := grown_ext hg2 x1
          have hs3 : w.heap.size < (w1.alloc (.cells #[.string x.key, .string x.val, .int .i64 (x.h : Int)] 77)).heap.size := row_lt hb3
          clear ht1 hr hb2 hg2
          go_wp2_with fail
          refine HT1.out.mono ?_
          rintro e w2 ⟨hg, pl, dl, rfl, ha2, hr2⟩
          have hb4 := (hg.block w.heap.size hs3 (by simp; omega)).trans hb3
          have hc2 := (hg.block w1.heap.size hz1 (by simp; omega)).trans hc1
          have hg4 := hg3.trans hg
          have hs4 : w.heap.size < w2.heap.size := row_lt hb4
          have hlt2 : w1.heap.size < w2.heap.size := row_lt hc2
          have hrw2 : r < w2.heap.size := row_lt hr2.1
          clear hg hb3 hg3 hc1
          have x2 := (Ext.refl w2).alloc (.cells #[.pointer pl, .string dl] 30)
          have ho2 := heap_alloc_new w2 (.cells #[.pointer pl, .string dl] 30)
          have hz2 : w2.heap.size < (w2.alloc (.cells #[.pointer pl, .string dl] 30)).heap.size := by simp
          have ht2 := hT s2 n2 (by omega) (by omega) _ (hr2.ext x2)
          rw [e3] at ht2
          have HT2 := hid ht2
          have hb5 := (x2.block w.heap.size hs4).trans hb4
          have hc3 := (x2.block w1.heap.size hlt2).trans hc2
          have hg5 := grown_ext hg4 x2
          have hs5 : w.heap.size < (w2.alloc (.cells #[.pointer pl, .string dl] 30)).heap.size := row_lt hb5
          have hs6 : w1.heap.size < (w2.alloc (.cells #[.pointer pl, .string dl] 30)).heap.size := row_lt hc3
          have HA2 := hid (ha2.ext x2)
          have HR2 := hid (hr2.ext x2)
          clear ht2 hr2 ha2 hb4 hg4 hc2
          go_wp2_with fail
          refine HT2.out.mono ?_
          rintro e w3 ⟨hg, pr, dr, rfl, ha3, hr3⟩
          have hb := (hg.block w.heap.size hs5 (by simp; omega)).trans hb5
          have hc4 := (hg.block w1.heap.size hs6 (by simp; omega)).trans hc3
          have ho3 := (hg.block w2.heap.size hz2 (by simp; omega)).trans ho2
          have k0 : w3.cell? ⟨w1.heap.size, 0, none⟩ = some (.string x.key) := cell_of_row _ _ 0 _ _ _ hc4
          have k1 : w3.cell? ⟨w1.heap.size, 1, none⟩ = some (.string x.val) := cell_of_row _ _ 1 _ _ _ hc4
          have k2 : w3.cell? ⟨w1.heap.size, 2, none⟩ = some (.int .i64 x.h) := cell_of_row _ _ 2 _ _ _ hc4
          have k3 := fun ob => ((Ext.refl w3).alloc ob).keep1 k0
          have k4 := fun ob => ((Ext.refl w3).alloc ob).keep1 k1
          have k5 := fun ob => ((Ext.refl w3).alloc ob).keep1 k2
          have l0 : w3.cell? ⟨w2.heap.size, 0, none⟩ = some (.pointer pl) := cell_of_row _ _ 0 _ _ _ ho3
          have l1 : w3.cell? ⟨w2.heap.size, 1, none⟩ = some (.string dl) := cell_of_row _ _ 1 _ _ _ ho3
          have l2 := fun ob => ((Ext.refl w3).alloc ob).keep1 l0
          have l3 := fun ob => ((Ext.refl w3).alloc ob).keep1 l1
          have H2 := hid (hg5.trans hg)
          have HA3 := hid ha3
          have HL3 := hid (HA2.out.kept (Kn.rd HR2.out hg))
          have HR3 := hid hr3
          clear hg hb5 hg5 hc3 ho2 ha3 hr3
          have y2 := fun o1 o2 => (((Ext.refl w3).alloc o1).alloc o2).keep1 (show w3.cell? ⟨w.heap.size, 0, none⟩ = some (.pointer none) from cell_of_row _ _ 0 _ _ _ hb)
          have y3 := fun o1 o2 => (((Ext.refl w3).alloc o1).alloc o2).keep1 (show w3.cell? ⟨w.heap.size, 1, none⟩ = some (.string ⟨#[]⟩) from cell_of_row _ _ 1 _ _ _ hb)
          have z2 : ∀ o1 o2 i, ((w3.alloc o1).alloc o2).frozen? ⟨w.heap.size, i, none⟩ = false := fun o1 o2 i => row_frz ((((Ext.refl w3).alloc o1).alloc o2).row hb) i
          have b0 : w3.cell? ⟨w.heap.size, 0, none⟩ = some (.pointer none) := cell_of_row _ _ 0 _ _ _ hb
          have b1 : w3.cell? ⟨w.heap.size, 1, none⟩ = some (.string ⟨#[]⟩) := cell_of_row _ _ 1 _ _ _ hb
          have f0 := row_frz hb
          have y0 := fun ob => ((Ext.refl w3).alloc ob).keep1 b0
          have y1 := fun ob => ((Ext.refl w3).alloc ob).keep1 b1
          have z0 : ∀ ob i, (w3.alloc ob).frozen? ⟨w.heap.size, i, none⟩ = false := fun ob i => row_frz (((Ext.refl w3).alloc ob).row hb) i
          have HB := hid hb
          clear hb
          have e3 : (w3.alloc (.cells #[.pointer pr, .string dr] 30)).heap.size = w3.heap.size + 1 := by simp
          have hnw := heap_alloc_new (w3.alloc (.cells #[.pointer pr, .string dr] 30)) (.cells #[.string x.key, .string x.val, .int .i64 (x.h : Int), .pointer pl, .string dl, .pointer pr, .string dr] 79)
          rw [e3] at hnw
          have xx := ((Ext.refl w3).alloc (.cells #[.pointer pr, .string dr] 30)).alloc (.cells #[.string x.key, .string x.val, .int .i64 (x.h : Int), .pointer pl, .string dl, .pointer pr, .string dr] 79)
          have HNW := hid hnw
          have HXX := hid xx
          clear hnw xx
          go_wp2_with fail
          exact fin_ok (t := .node x l rt) (w1 := (w3.alloc _).alloc _) (by kernel_rfl) (grown_ext H2.out HXX.out) hrb (HXX.out.row HB.out) ⟨rfl, _, pl, dl, pr, dr, rfl, HNW.out, HL3.out.ext HXX.out, HA3.out.ext HXX.out⟩ (HR3.out.ext HXX.out) rfl rfl
end Go.Proofs.YtjohkmkgmbihkaaDoor
