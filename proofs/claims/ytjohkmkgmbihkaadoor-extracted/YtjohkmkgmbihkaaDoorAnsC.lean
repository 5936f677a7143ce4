/- What reads an answer: an entry. -/
import Derived.Test.YtjohkmkgmbihkaaDoorAnsB
import Derived.Laws.ResultCell
namespace Go.Proofs.YtjohkmkgmbihkaaDoor
open Go.ChangeShapes Go.WideShapes Go.ChangeAt Go.RowKit
set_option linter.unusedVariables false
abbrev nilE : Value := .agg #[.string ⟨#[]⟩, .string ⟨#[]⟩, .int .i64 0]

/-- The two ways in which a reader's step ends: what it hands back lies in a block of its own. -/
theorem load_E (w : World) (b : Nat) (x y z : Value) (f : Nat × Nat) (hb : w.heap[b]? = some (.cells #[x, y, z] 77 f)) :
    (loadVar 77 ⟨b, 0, none⟩).run Tryd.prog w = .ok (.agg #[x, y, z]) w := by
  have c0 : w.cell? ⟨b, 0, none⟩ = some x := cell_of_row _ _ 0 _ _ _ hb
  have c1 : w.cell? ⟨b, 1, none⟩ = some y := cell_of_row _ _ 1 _ _ _ hb
  have c2 : w.cell? ⟨b, 2, none⟩ = some z := cell_of_row _ _ 2 _ _ _ hb
  have a1 : (isAgg 77).run Tryd.prog w = .ok true w := by kernel_rfl
  have a2 : (sizeOf 77).run Tryd.prog w = .ok 3 w := by kernel_rfl
  simp only [loadVar, Sem.run_bind, a1, a2, Result.andThen, if_true]
  simp [loadCells, loadCellsFrom, addr_add, c0, c1, c2, Result.andThen]
theorem load_T (w : World) (b : Nat) (x y : Value) (f : Nat × Nat) (hb : w.heap[b]? = some (.cells #[x, y] 30 f)) :
    (loadVar 30 ⟨b, 0, none⟩).run Tryd.prog w = .ok (.agg #[x, y]) w := by
  have c0 : w.cell? ⟨b, 0, none⟩ = some x := cell_of_row _ _ 0 _ _ _ hb
  have c1 : w.cell? ⟨b, 1, none⟩ = some y := cell_of_row _ _ 1 _ _ _ hb
  have a1 : (isAgg 30).run Tryd.prog w = .ok true w := by kernel_rfl
  have a2 : (sizeOf 30).run Tryd.prog w = .ok 2 w := by kernel_rfl
  simp only [loadVar, Sem.run_bind, a1, a2, Result.andThen, if_true]
  simp [loadCells, loadCellsFrom, addr_add, c0, c1, Result.andThen]
theorem ret_E {fn : Func} {Q : Ending → World → Prop} {tmps : Array Value} {w : World} {b : Nat} {x y z ev : Value} {f : Nat × Nat} (h : fn.results = #[.cell 2 77, .tmp 3])
    (hp : tmps.getD 2 undef = .pointer (some ⟨b, 0, none⟩)) (he : tmps.getD 3 undef = ev) (hb : w.heap[b]? = some (.cells #[x, y, z] 77 f)) (hq : Q (.returned (.tuple #[.agg #[x, y, z], ev])) w) :
    bodyPost Tryd.prog fn Q .ret ⟨tmps, []⟩ w := by
  refine bodyPost_ret (v := .tuple #[.agg #[x, y, z], ev]) ?_ rfl hq
  rw [results_cell_tmp h, hp, he]
  simp [asAddr, Result.andThen, load_E w b x y z f hb]
theorem ret_T {fn : Func} {Q : Ending → World → Prop} {tmps : Array Value} {w : World} {b : Nat} {x y ev : Value} {f : Nat × Nat} (h : fn.results = #[.cell 2 30, .tmp 3])
    (hp : tmps.getD 2 undef = .pointer (some ⟨b, 0, none⟩)) (he : tmps.getD 3 undef = ev) (hb : w.heap[b]? = some (.cells #[x, y] 30 f)) (hq : Q (.returned (.tuple #[.agg #[x, y], ev])) w) :
    bodyPost Tryd.prog fn Q .ret ⟨tmps, []⟩ w := by
  refine bodyPost_ret (v := .tuple #[.agg #[x, y], ev]) ?_ rfl hq
  rw [results_cell_tmp h, hp, he]
  simp [asAddr, Result.andThen, load_T w b x y f hb]
theorem set3 {w : World} {b : Nat} {t : TypeId} {c0 c1 c2 : Value} (h : w.heap[b]? = some (.cells #[c0, c1, c2] t)) (x y z : Value) :
    (((w.setCell ⟨b, 0, none⟩ x).setCell ⟨b, 1, none⟩ y).setCell ⟨b, 2, none⟩ z).heap[b]? = some (.cells #[x, y, z] t) := by
  have h1 := heap_setCell_same w b 0 _ _ x h
  have h2 := heap_setCell_same _ b 1 _ _ y h1
  simpa using heap_setCell_same _ b 2 _ _ z h2
theorem set2 {w : World} {b : Nat} {t : TypeId} {c0 c1 : Value} (h : w.heap[b]? = some (.cells #[c0, c1] t)) (x y : Value) :
    ((w.setCell ⟨b, 0, none⟩ x).setCell ⟨b, 1, none⟩ y).heap[b]? = some (.cells #[x, y] t) := by
  have h1 := heap_setCell_same w b 0 _ _ x h
  simpa using heap_setCell_same _ b 1 _ _ y h1
theorem grown_new {w w1 : World} {row : Option Nat} (h : w.grownBy w1 row) {a : Addr} (ha : w.heap.size ≤ a.block) (u : Value) : w.grownBy (w1.setCell a u) row :=
  ⟨h.os, h.tape, h.output, by simpa [World.setCell] using h.size, fun k hk hne => by
    rw [Below.heap_setCell _ _ _ _ (by omega)]; exact h.block k hk hne⟩
theorem Rd.far {w : World} {r n : Nat} {s : ByteArray} (h : Rd w r s n) {a : Addr} (ha : r ≠ a.block) (u : Value) : Rd (w.setCell a u) r s n :=
  ⟨by rw [Below.heap_setCell _ _ _ _ ha]; exact h.1, h.2⟩
theorem grown_alloc {w w1 : World} {o : Obj} {r : Nat} (h : (w.alloc o).grownBy w1 (some r)) (hr : r < w.heap.size) : w.grownBy w1 (some r) :=
  (World.grownBy_alloc w o _).trans h
theorem grown_alloc' {w w1 : World} {row : Option Nat} (h : w.grownBy w1 row) (o : Obj) : w.grownBy (w1.alloc o) row := h.trans (World.grownBy_alloc w1 o _)
theorem grown_ext {w w1 w2 : World} {row : Option Nat} (h : w.grownBy w1 row) (hx : Ext w1 w2) : w.grownBy w2 row :=
  h.trans ⟨hx.os, hx.tape, hx.output, hx.size, fun k hk _ => hx.block k hk⟩
/-- A block's cells. -/
theorem row_frz {w : World} {b : Nat} {c : Array Value} {t : TypeId} (h : w.heap[b]? = some (.cells c t)) (i : Nat) : w.frozen? ⟨b, i, none⟩ = false := by
  unfold World.frozen?; rw [h]; simp

set_option maxHeartbeats 4000000 in
set_option maxRecDepth 100000 in
theorem entry_any (r : Nat) (s : ByteArray) (n : Nat) (w : World) (h : Rd w r s n) :
    Calls Tryd.prog 58 #[.pointer (some ⟨r, 0, none⟩)] w fun e w' => w.grownBy w' (some r) ∧ match ent s with
      | none => ∃ ev, ErrU ev ∧ e = .returned (.tuple #[nilE, ev])
      | some (x, s') => e = .returned (.tuple #[x.val', .nilIface]) ∧ Rd w' r s' n := by
  have hx0 := (Ext.refl w).alloc (.cells #[.string ⟨#[]⟩, .string ⟨#[]⟩, .int .i64 0] 77)
  have hrb : r < w.heap.size := row_lt h.1
  have hn := rmeasured_any r s n _ (h.ext hx0)
  have hb0 : (w.alloc (.cells #[.string ⟨#[]⟩, .string ⟨#[]⟩, .int .i64 0] 77)).heap[w.heap.size]? = some (.cells #[.string ⟨#[]⟩, .string ⟨#[]⟩, .int .i64 0] 77) := heap_alloc_new w _
  have hs0 : w.heap.size < (w.alloc (.cells #[.string ⟨#[]⟩, .string ⟨#[]⟩, .int .i64 0] 77)).heap.size := by simp
  have hg0 := World.grownBy_alloc w (.cells #[.string ⟨#[]⟩, .string ⟨#[]⟩, .int .i64 0] 77) (some r)
  clear h hx0
  unfold ent
  -- the end where an error is handed on, from a world that has grown
  have fin : ∀ (w1 : World) (tmps : Array Value) (ev : Value), w.grownBy w1 (some r) → w1.heap[w.heap.size]? = some (.cells #[.string ⟨#[]⟩, .string ⟨#[]⟩, .int .i64 0] 77) → ErrU ev →
      tmps.getD 2 undef = .pointer (some ⟨w.heap.size, 0, none⟩) → tmps.getD 3 undef = ev →
      bodyPost Tryd.prog Tryd.f58 (fun e w' => w.grownBy w' (some r) ∧ ∃ ev, ErrU ev ∧ e = .returned (.tuple #[nilE, ev])) .ret ⟨tmps, []⟩
        (((w1.setCell ⟨w.heap.size, 0, none⟩ (.string ⟨#[]⟩)).setCell ⟨w.heap.size, 1, none⟩ (.string ⟨#[]⟩)).setCell ⟨w.heap.size, 2, none⟩ (.int .i64 0)) := by
    intro w1 tmps ev hg hb he h2 h3
    exact ret_E (by kernel_rfl) h2 h3 (set3 hb _ _ _) ⟨grown_new (grown_new (grown_new hg (Nat.le_refl _) _) (Nat.le_refl _) _) (Nat.le_refl _) _, ev, he, rfl⟩
  have FIN := hid fin
  clear fin
  cases en : meas s with
  | none =>
    rw [en] at hn
    have HN := hid hn
    clear hn en
    go_enter Tryd.func58, Tryd.ntmps58
    go_wp2_with fail
    refine HN.out.mono ?_
    rintro e w1 ⟨hg, ev, hev, rfl⟩
    obtain ⟨t1, u1, rfl⟩ := hev.iface
    have HE := hid hev
    have hb := (hg.block w.heap.size hs0 (by simp; omega)).trans hb0
    have H2 := hid (hg0.trans hg)
    clear hev hg
    have b0 : w1.cell? ⟨w.heap.size, 0, none⟩ = some (.string ⟨#[]⟩) := cell_of_row _ _ 0 _ _ _ hb
    have b1 : w1.cell? ⟨w.heap.size, 1, none⟩ = some (.string ⟨#[]⟩) := cell_of_row _ _ 1 _ _ _ hb
    have b2 : w1.cell? ⟨w.heap.size, 2, none⟩ = some (.int .i64 0) := cell_of_row _ _ 2 _ _ _ hb
    have f0 := row_frz hb
    have HB := hid hb
    clear hb
    go_wp2_with fail
    exact FIN.out w1 _ _ H2.out HB.out HE.out rfl rfl
  | some p =>
    obtain ⟨k, s1⟩ := p
    rw [en] at hn
    have HN := hid hn
    clear hn en
    simp only
    cases en2 : meas s1 with
    | none =>
      go_enter Tryd.func58, Tryd.ntmps58
      go_wp2_with fail
      refine HN.out.mono ?_
      rintro e w1 ⟨hg, rfl, hr⟩
      have hb1 := (hg.block w.heap.size hs0 (by simp; omega)).trans hb0
      have hg1 := hg0.trans hg
      have hs1 : w.heap.size < w1.heap.size := row_lt hb1
      have R1 := hid hr
      clear hg hr
      have hn2 := rmeasured_any r s1 n w1 R1.out
      rw [en2] at hn2
      have HN2 := hid hn2
      clear hn2
      have HB1 := hid hb1
      have HG1 := hid hg1
      go_wp2_with fail
      refine HN2.out.mono ?_
      rintro e w2 ⟨hg, ev, hev, rfl⟩
      obtain ⟨t1, u1, rfl⟩ := hev.iface
      have HE := hid hev
      have hb := (hg.block w.heap.size hs1 (by simp; omega)).trans HB1.out
      have H2 := hid (HG1.out.trans hg)
      clear hev hg
      have b0 : w2.cell? ⟨w.heap.size, 0, none⟩ = some (.string ⟨#[]⟩) := cell_of_row _ _ 0 _ _ _ hb
      have b1 : w2.cell? ⟨w.heap.size, 1, none⟩ = some (.string ⟨#[]⟩) := cell_of_row _ _ 1 _ _ _ hb
      have b2 : w2.cell? ⟨w.heap.size, 2, none⟩ = some (.int .i64 0) := cell_of_row _ _ 2 _ _ _ hb
      have f0 := row_frz hb
      have HB := hid hb
      clear hb
      go_wp2_with fail
      exact FIN.out w2 _ _ H2.out HB.out HE.out rfl rfl
    | some p2 =>
      obtain ⟨v, s2⟩ := p2
      simp only
      cases en3 : num s2 with
      | none =>
        go_enter Tryd.func58, Tryd.ntmps58
        go_wp2_with fail
        refine HN.out.mono ?_
        rintro e w1 ⟨hg, rfl, hr⟩
        have hb1 := (hg.block w.heap.size hs0 (by simp; omega)).trans hb0
        have hg1 := hg0.trans hg
        have hs1 : w.heap.size < w1.heap.size := row_lt hb1
        have R1 := hid hr
        clear hg hr
        have hn2 := rmeasured_any r s1 n w1 R1.out
        rw [en2] at hn2
        have HN2 := hid hn2
        clear hn2
        have HB1 := hid hb1
        have HG1 := hid hg1
        clear hb1 hg1
        go_wp2_with fail
        refine HN2.out.mono ?_
        rintro e w2 ⟨hg, rfl, hr⟩
        have hb2 := (hg.block w.heap.size hs1 (by simp; omega)).trans HB1.out
        have hg2 := HG1.out.trans hg
        have hs2 : w.heap.size < w2.heap.size := row_lt hb2
        have R2 := hid hr
        clear hg hr
        have hn3 := rnumber_any r s2 n w2 R2.out
        rw [en3] at hn3
        have HN3 := hid hn3
        clear hn3
        have HB2 := hid hb2
        have HG2 := hid hg2
        clear hb2 hg2
        go_wp2_with fail
        refine HN3.out.mono ?_
        rintro e w3 ⟨hg, ev, hev, rfl⟩
        obtain ⟨t1, u1, rfl⟩ := hev.iface
        have HE := hid hev
        have hb := (hg.block w.heap.size hs2 (by simp; omega)).trans HB2.out
        have H2 := hid (HG2.out.trans hg)
        clear hev hg
        have b0 : w3.cell? ⟨w.heap.size, 0, none⟩ = some (.string ⟨#[]⟩) := cell_of_row _ _ 0 _ _ _ hb
        have b1 : w3.cell? ⟨w.heap.size, 1, none⟩ = some (.string ⟨#[]⟩) := cell_of_row _ _ 1 _ _ _ hb
        have b2 : w3.cell? ⟨w.heap.size, 2, none⟩ = some (.int .i64 0) := cell_of_row _ _ 2 _ _ _ hb
        have f0 := row_frz hb
        have HB := hid hb
        clear hb
        go_wp2_with fail
        exact FIN.out w3 _ _ H2.out HB.out HE.out rfl rfl
      | some p3 =>
        obtain ⟨hh, s3⟩ := p3
        simp only
        by_cases hf : fault k v hh = 0
        · rw [if_pos hf]
          have FE := hid hf
          clear hf
          go_enter Tryd.func58, Tryd.ntmps58
          go_wp2_with fail
          refine HN.out.mono ?_
          rintro e w1 ⟨hg, rfl, hr⟩
          have hb1 := (hg.block w.heap.size hs0 (by simp; omega)).trans hb0
          have hg1 := hg0.trans hg
          have hs1 : w.heap.size < w1.heap.size := row_lt hb1
          have R1 := hid hr
          clear hg hr
          have hn2 := rmeasured_any r s1 n w1 R1.out
          rw [en2] at hn2
          have HN2 := hid hn2
          clear hn2
          have HB1 := hid hb1
          have HG1 := hid hg1
          clear hb1 hg1
          go_wp2_with fail
          refine HN2.out.mono ?_
          rintro e w2 ⟨hg, rfl, hr⟩
          have hb2 := (hg.block w.heap.size hs1 (by simp; omega)).trans HB1.out
          have hg2 := HG1.out.trans hg
          have hs2 : w.heap.size < w2.heap.size := row_lt hb2
          have R2 := hid hr
          clear hg hr
          have hn3 := rnumber_any r s2 n w2 R2.out
          rw [en3] at hn3
          have HN3 := hid hn3
          clear hn3
          have HB2 := hid hb2
          have HG2 := hid hg2
          clear hb2 hg2
          go_wp2_with fail
          refine HN3.out.mono ?_
          rintro e w3 ⟨hg, rfl, hr⟩
          have hb3 := (hg.block w.heap.size hs2 (by simp; omega)).trans HB2.out
          have hg3 := HG2.out.trans hg
          have hs3 : w.heap.size < w3.heap.size := row_lt hb3
          have R3 := hid hr
          clear hg hr
          have x4 := (Ext.refl w3).alloc (.cells #[.string k, .string v, .int .i64 (hh : Int)] 77)
          have c4 := cell_new w3 #[.string k, .string v, .int .i64 (hh : Int)] 77
          go_wp2_with fail
          refine (Fault_any k v hh _).mono ?_
          rintro e w4 ⟨rfl, hx4⟩
          rw [FE.out]
          have hy4 := x4.trans hx4
          have hb4 := (hy4.block w.heap.size hs3).trans hb3
          have d0 := hx4.keep1 (c4 0)
          have d1 := hx4.keep1 (c4 1)
          have d2 := hx4.keep1 (c4 2)
          have hb := hb4
          have HG4 := hid (grown_ext hg3 hy4)
          have HY4 := hid hy4
          clear hx4 x4 c4 hb3 hg3 hb4 hy4
          have b0 : w4.cell? ⟨w.heap.size, 0, none⟩ = some (.string ⟨#[]⟩) := cell_of_row _ _ 0 _ _ _ hb
          have b1 : w4.cell? ⟨w.heap.size, 1, none⟩ = some (.string ⟨#[]⟩) := cell_of_row _ _ 1 _ _ _ hb
          have b2 : w4.cell? ⟨w.heap.size, 2, none⟩ = some (.int .i64 0) := cell_of_row _ _ 2 _ _ _ hb
          have f0 := row_frz hb
          have HB := hid hb
          clear hb
          go_wp2_with fail
          refine ret_E (by kernel_rfl) rfl rfl (set3 HB.out _ _ _) ⟨grown_new (grown_new (grown_new HG4.out (Nat.le_refl _) _) (Nat.le_refl _) _) (Nat.le_refl _) _, rfl, ?_⟩
          exact (((R3.out.ext HY4.out).far (by simp; omega) _).far (by simp; omega) _).far (by simp; omega) _
        · rw [if_neg hf]
          obtain ⟨fv, hfv⟩ : ∃ z, fault k v hh = z := ⟨_, rfl⟩
          have hf' : ¬ fv = 0 := by rw [← hfv]; exact hf
          have FE := hid hfv
          clear hf hfv
          go_enter Tryd.func58, Tryd.ntmps58
          go_wp2_with fail
          refine HN.out.mono ?_
          rintro e w1 ⟨hg, rfl, hr⟩
          have hb1 := (hg.block w.heap.size hs0 (by simp; omega)).trans hb0
          have hg1 := hg0.trans hg
          have hs1 : w.heap.size < w1.heap.size := row_lt hb1
          have R1 := hid hr
          clear hg hr
          have hn2 := rmeasured_any r s1 n w1 R1.out
          rw [en2] at hn2
          have HN2 := hid hn2
          clear hn2
          have HB1 := hid hb1
          have HG1 := hid hg1
          clear hb1 hg1
          go_wp2_with fail
          refine HN2.out.mono ?_
          rintro e w2 ⟨hg, rfl, hr⟩
          have hb2 := (hg.block w.heap.size hs1 (by simp; omega)).trans HB1.out
          have hg2 := HG1.out.trans hg
          have hs2 : w.heap.size < w2.heap.size := row_lt hb2
          have R2 := hid hr
          clear hg hr
          have hn3 := rnumber_any r s2 n w2 R2.out
          rw [en3] at hn3
          have HN3 := hid hn3
          clear hn3
          have HB2 := hid hb2
          have HG2 := hid hg2
          clear hb2 hg2
          go_wp2_with fail
          refine HN3.out.mono ?_
          rintro e w3 ⟨hg, rfl, hr⟩
          have hb3 := (hg.block w.heap.size hs2 (by simp; omega)).trans HB2.out
          have hg3 := HG2.out.trans hg
          have hs3 : w.heap.size < w3.heap.size := row_lt hb3
          have R3 := hid hr
          clear hg hr
          have x4 := (Ext.refl w3).alloc (.cells #[.string k, .string v, .int .i64 (hh : Int)] 77)
          have c4 := cell_new w3 #[.string k, .string v, .int .i64 (hh : Int)] 77
          go_wp2_with fail
          refine (Fault_any k v hh _).mono ?_
          rintro e w4 ⟨rfl, hx4⟩
          rw [FE.out]
          have hy4 := x4.trans hx4
          have hb4 := (hy4.block w.heap.size hs3).trans hb3
          have d0 := hx4.keep1 (c4 0)
          have d1 := hx4.keep1 (c4 1)
          have d2 := hx4.keep1 (c4 2)
          have hb := hb4
          have HG4 := hid (grown_ext hg3 hy4)
          have HY4 := hid hy4
          clear hx4 x4 c4 hb3 hg3 hb4 hy4
          have b0 : w4.cell? ⟨w.heap.size, 0, none⟩ = some (.string ⟨#[]⟩) := cell_of_row _ _ 0 _ _ _ hb
          have b1 : w4.cell? ⟨w.heap.size, 1, none⟩ = some (.string ⟨#[]⟩) := cell_of_row _ _ 1 _ _ _ hb
          have b2 : w4.cell? ⟨w.heap.size, 2, none⟩ = some (.int .i64 0) := cell_of_row _ _ 2 _ _ _ hb
          have f0 := row_frz hb
          have HB := hid hb
          clear hb
          go_wp2_with fail
          exact FIN.out w4 _ _ HG4.out HB.out (Chain.base _) rfl rfl
end Go.Proofs.YtjohkmkgmbihkaaDoor
