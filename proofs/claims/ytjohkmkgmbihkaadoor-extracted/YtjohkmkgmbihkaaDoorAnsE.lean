/- What reads an answer: trees. -/
import Derived.Test.YtjohkmkgmbihkaaDoorAnsD
import Derived.Deep.DeepCutAuto
import Derived.Deep.RegionWith
namespace Go.Proofs.YtjohkmkgmbihkaaDoor
open Go.ChangeShapes Go.WideShapes Go.ChangeAt Go.RowKit
set_option linter.unusedVariables false
/-- A tree of an answer, as it lies in memory. -/
def AIn (w : World) : AT → Option Addr → ByteArray → Prop
  | .empty, p, d => p = none ∧ d = ⟨#[]⟩
  | .alone e, p, d => p = none ∧ d = e ∧ e.size = 3
  | .node x l r, p, d => d = ⟨#[]⟩ ∧ ∃ b lp ls rp rs, p = some ⟨b, 0, none⟩ ∧
      w.heap[b]? = some (.cells #[.string x.key, .string x.val, .int .i64 x.h, .pointer lp, .string ls, .pointer rp, .string rs] 79) ∧ AIn w l lp ls ∧ AIn w r rp rs
/-- The nodes stay. -/
def Kn (w w' : World) : Prop := ∀ (b : Nat) (c : Array Value), w.heap[b]? = some (Obj.cells c 79) → w'.heap[b]? = some (Obj.cells c 79)
theorem AIn.kept {w w' : World} (hk : Kn w w') : ∀ {t : AT} {p : Option Addr} {d : ByteArray}, AIn w t p d → AIn w' t p d
  | .empty, _, _, h => h
  | .alone _, _, _, h => h
  | .node x l r, _, _, ⟨h1, b, lp, ls, rp, rs, h2, h3, h4, h5⟩ => ⟨h1, b, lp, ls, rp, rs, h2, hk _ _ h3, AIn.kept hk h4, AIn.kept hk h5⟩
theorem Kn.ext {w w' : World} (hx : Ext w w') : Kn w w' := fun b c h => hx.row h
theorem Kn.trans {a b c : World} (h : Kn a b) (k : Kn b c) : Kn a c := fun x y q => k _ _ (h _ _ q)
theorem Kn.rd {w w' : World} {r n : Nat} {s : ByteArray} (h : Rd w r s n) (hg : w.grownBy w' (some r)) : Kn w w' := fun b c hb => by
  rw [hg.block b (row_lt hb) (by intro e; cases e; have := h.1; rw [hb] at this; simp at this)]; exact hb
theorem Kn.setFar {w w' : World} (h : Kn w w') {a : Addr} (ha : w.heap.size ≤ a.block) (u : Value) : Kn w (w'.setCell a u) := fun b c hb => by
  rw [Below.heap_setCell _ _ _ _ (by have := row_lt hb; omega)]; exact h _ _ hb
theorem AIn.ext {w w' : World} {t : AT} {p : Option Addr} {d : ByteArray} (h : AIn w t p d) (hx : Ext w w') : AIn w' t p d := h.kept (.ext hx)
abbrev nilT : Value := .agg #[.pointer none, .string ⟨#[]⟩]
abbrev oT : Obj := .cells #[.pointer none, .string ⟨#[]⟩] 30
/-- What a reader's step leaves. -/
def Post (w : World) (r : Nat) (o : Option (AT × ByteArray × Nat)) (e : Ending) (w' : World) : Prop := w.grownBy w' (some r) ∧ match o with
  | none => ∃ ev, ErrU ev ∧ e = .returned (.tuple #[nilT, ev])
  | some (t, s', n') => ∃ p d, e = .returned (.tuple #[.agg #[.pointer p, .string d], .nilIface]) ∧ AIn w' t p d ∧ Rd w' r s' n'
theorem AIn.set {w : World} {b : Nat} {c : Array Value} (hb : w.heap[b]? = some (.cells c 30)) {t : AT} {p : Option Addr} {d : ByteArray} (h : AIn w t p d) (i : Nat) (u : Value) : AIn (w.setCell ⟨b, i, none⟩ u) t p d :=
  h.kept fun k c' hk => by
    rw [Below.heap_setCell _ _ _ _ (by intro e; subst e; rw [hb] at hk; simp at hk)]; exact hk
theorem tree_row {w : World} {b : Nat} {x y : Value} (h : w.heap[b]? = some (.cells #[x, y] 30)) (i : Nat) (u : Value) (c : Array Value) (hc : c = #[x, y].set! i u) : (w.setCell ⟨b, i, none⟩ u).heap[b]? = some (.cells c 30) := by
  subst hc; simpa using heap_setCell_same w b i _ _ u h
/-- The ends: an error, or a tree, stored into the block b that is new. -/
theorem fin_no {fn : Func} {w w1 : World} {r : Nat} {tmps : Array Value} {ev : Value} {x y : Value} (hr : fn.results = #[.cell 2 30, .tmp 3]) (hg : w.grownBy w1 (some r)) (hb : w1.heap[w.heap.size]? = some (.cells #[x, y] 30))
    (he : ErrU ev) (h2 : tmps.getD 2 undef = .pointer (some ⟨w.heap.size, 0, none⟩)) (h3 : tmps.getD 3 undef = ev) :
    bodyPost Tryd.prog fn (Post w r none) .ret ⟨tmps, []⟩ ((w1.setCell ⟨w.heap.size, 0, none⟩ (.pointer none)).setCell ⟨w.heap.size, 1, none⟩ (.string ⟨#[]⟩)) :=
  ret_T hr h2 h3 (set2 hb _ _) ⟨grown_new (grown_new hg (Nat.le_refl _) _) (Nat.le_refl _) _, ev, he, rfl⟩
theorem fin_ok {fn : Func} {w w1 : World} {r : Nat} {tmps : Array Value} {x y : Value} {t : AT} {p : Option Addr} {d s : ByteArray} {n : Nat} (hr : fn.results = #[.cell 2 30, .tmp 3]) (hg : w.grownBy w1 (some r)) (hrw : r < w.heap.size)
    (hb : w1.heap[w.heap.size]? = some (.cells #[x, y] 30)) (ha : AIn w1 t p d) (hR : Rd w1 r s n)
    (h2 : tmps.getD 2 undef = .pointer (some ⟨w.heap.size, 0, none⟩)) (h3 : tmps.getD 3 undef = .nilIface) :
    bodyPost Tryd.prog fn (Post w r (some (t, s, n))) .ret ⟨tmps, []⟩ ((w1.setCell ⟨w.heap.size, 0, none⟩ (.pointer p)).setCell ⟨w.heap.size, 1, none⟩ (.string d)) :=
  ret_T hr h2 h3 (set2 hb _ _) ⟨grown_new (grown_new hg (Nat.le_refl _) _) (Nat.le_refl _) _, p, d, rfl,
    AIn.set (tree_row hb 0 (.pointer p) #[.pointer p, y] (by rfl)) (AIn.set hb ha 0 _) 1 _, (hR.far (by simp; omega) _).far (by simp; omega) _⟩

set_option maxHeartbeats 4000000 in
set_option maxRecDepth 100000 in
theorem alone_any (r : Nat) (s : ByteArray) (n : Nat) (w : World) (h : Rd w r s n) :
    Calls Tryd.prog 44 #[.pointer (some ⟨r, 0, none⟩)] w (Post w r (rdS s n)) := by
  have hrb : r < w.heap.size := row_lt h.1
  have hx0 := (Ext.refl w).alloc oT
  have hb0 : (w.alloc oT).heap[w.heap.size]? = some oT := heap_alloc_new w _
  have hs0 : w.heap.size < (w.alloc oT).heap.size := by simp
  have hg0 := World.grownBy_alloc w oT (some r)
  have hR0 := h.ext hx0
  unfold rdS
  cases et : tk s 3 with
  | none =>
    have hlt := tk_none et
    have HR := hid hR0
    clear et h hR0
    go_enter Tryd.func44, Tryd.ntmps44
    go_wp2_with fail
    refine (take_no r s n 3 _ HR.out hlt (by omega)).mono ?_
    rintro e w1 ⟨⟨ev, hev, rfl⟩, hw⟩
    subst hw
    obtain ⟨t1, u1, rfl⟩ := hev.iface
    have HE := hid hev
    have hb := hb0
    have HG := hid hg0
    generalize w.alloc oT = w1 at *
    clear hev hb0 hx0 hg0
    have b0 : w1.cell? ⟨w.heap.size, 0, none⟩ = some (.pointer none) := cell_of_row _ _ 0 _ _ _ hb
    have b1 : w1.cell? ⟨w.heap.size, 1, none⟩ = some (.string ⟨#[]⟩) := cell_of_row _ _ 1 _ _ _ hb
    have f0 := row_frz hb
    have HB := hid hb
    clear hb
    go_wp2_with fail
    exact fin_no (by kernel_rfl) HG.out HB.out HE.out rfl rfl
  | some q =>
    obtain ⟨d, s2⟩ := q
    obtain ⟨ht1, ht2, hd, hs2⟩ := tk_size et
    have hle : 3 ≤ s.size := by omega
    have HT := hid (take_ok r s n 3 _ hR0 hle)
    rw [← hd, ← hs2] at HT
    have ID := hid (Is_any d (by omega))
    clear et hd hs2 h hR0
    simp only
    cases hi : isDig d with
    | true =>
      rw [hi] at ID
      rw [if_pos rfl]
      clear hi
      go_enter Tryd.func44, Tryd.ntmps44
      go_wp2_with fail
      refine HT.out.mono ?_
      rintro e w1 ⟨rfl, hr1, hg1⟩
      have hb := (hg1.block w.heap.size hs0 (by simp; omega)).trans hb0
      have HG := hid (hg0.trans hg1)
      have HR := hid hr1
      clear hr1 hg1 hb0 hx0 hg0
      have b0 : w1.cell? ⟨w.heap.size, 0, none⟩ = some (.pointer none) := cell_of_row _ _ 0 _ _ _ hb
      have b1 : w1.cell? ⟨w.heap.size, 1, none⟩ = some (.string ⟨#[]⟩) := cell_of_row _ _ 1 _ _ _ hb
      have f0 := row_frz hb
      have HB := hid hb
      clear hb
      go_wp2_with fail
      refine (ID.out _).mono ?_
      rintro e w2 ⟨rfl, hw⟩
      replace hw := hw.symm
      subst hw
      go_wp2_with fail
      exact fin_ok (t := .alone d) (by kernel_rfl) HG.out hrb HB.out ⟨rfl, rfl, ht1⟩ HR.out rfl rfl
    | false =>
      rw [hi] at ID
      rw [if_neg (by simp)]
      clear hi
      go_enter Tryd.func44, Tryd.ntmps44
      go_wp2_with fail
      refine HT.out.mono ?_
      rintro e w1 ⟨rfl, hr1, hg1⟩
      have hb := (hg1.block w.heap.size hs0 (by simp; omega)).trans hb0
      have HG := hid (hg0.trans hg1)
      have HR := hid hr1
      clear hr1 hg1 hb0 hx0 hg0
      have b0 : w1.cell? ⟨w.heap.size, 0, none⟩ = some (.pointer none) := cell_of_row _ _ 0 _ _ _ hb
      have b1 : w1.cell? ⟨w.heap.size, 1, none⟩ = some (.string ⟨#[]⟩) := cell_of_row _ _ 1 _ _ _ hb
      have f0 := row_frz hb
      have HB := hid hb
      clear hb
      go_wp2_with fail
      refine (ID.out _).mono ?_
      rintro e w2 ⟨rfl, hw⟩
      replace hw := hw.symm
      subst hw
      go_wp2_with fail
      exact fin_no (by kernel_rfl) HG.out HB.out (Chain.base _) rfl rfl
end Go.Proofs.YtjohkmkgmbihkaaDoor
