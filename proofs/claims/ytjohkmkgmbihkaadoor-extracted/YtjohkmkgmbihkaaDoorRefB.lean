/- The walks of the document's book: changing it; all its pairs. -/
import Derived.Test.YtjohkmkgmbihkaaDoorRefA
import Derived.Deep.DeepCutAuto
namespace Go.Proofs.YtjohkmkgmbihkaaDoor
set_option linter.unusedVariables false
open Go.ChangeShapes Go.WideShapes Go.ChangeAt Go.RowKit
attribute [local go_sem ↓] Go.wp_at_zero Go.wp_at_succ

/-- Only a block, and a row, have turned; all else is as it was. -/
structure Mod2 (w w' : World) (r : Nat) (o : Option Nat) : Prop where
  os : w'.os = w.os
  tape : w'.tape = w.tape
  output : w'.output = w.output
  size : w.heap.size ≤ w'.heap.size
  block : ∀ k, k < w.heap.size → k ≠ r → some k ≠ o → w'.heap[k]? = w.heap[k]?
theorem Ext.mod2 {w w' : World} (hx : Ext w w') (r : Nat) (o : Option Nat) : Mod2 w w' r o := ⟨hx.os, hx.tape, hx.output, hx.size, fun k hk _ _ => hx.block k hk⟩

theorem infoItem : ∃ i, Tryd.prog.info? 58 = some i ∧ i.zero = some zEntry ∧ i.size = 3 ∧ i.bytes = 40 := info_of (by kernel_rfl)
theorem Ext.own_row {w0 w w' : World} {base : Nat} {u : Value} {e : TypeId} {s n : Nat} {xs : List Value} (hx : Ext w0 w) (ho : w.ownsRow base e s u n xs) (hb : w0.heap.size ≤ base) (hg : w.grownBy w' u.ownBlock) : Ext w0 w' :=
  Below.grown hx hg hx.size (fun k hk => Nat.le_trans hb (ho.lt k hk).1)
theorem Ext.of_none {w w' : World} (hg : w.grownBy w' (Value.slice none 0 0).ownBlock) : Ext w w' := ⟨hg.os, hg.tape, hg.output, hg.size, fun k hk => hg.block k hk (by simp [Value.ownBlock])⟩
theorem rows_ne {w : World} {b : Nat} {c : Array Value} {t e : TypeId} {f : Nat × Nat} {base size n : Nat} {v : Value} {xs : List Value} (hb : w.heap[b]? = some (.cells c t f)) (ho : w.ownsRow base e size v n xs) (hne : t ≠ e) : v.ownBlock ≠ some b := by
  rcases ho.2 with ⟨rfl, _⟩ | ⟨g, cap, cur, rfl, _, hg, _⟩
  · simp [Value.ownBlock]
  · simp only [Value.ownBlock, ne_eq, Option.some.injEq]
    rintro rfl
    rw [hb] at hg
    simp only [Option.some.injEq, Obj.cells.injEq] at hg
    exact hne hg.2.1
/-- An item stored into a row of items. -/
theorem set_item (L : List It) (i : Nat) (h : i < L.length) (x : It) : (((cellsOf L).set (i * 3) (.string x.key)).set (i * 3 + 1) (.string x.val)).set (i * 3 + 2) (.int .i64 x.h) = cellsOf (L.set i x) := by
  induction L generalizing i with
  | nil => simp at h
  | cons y L ih =>
    cases i with
    | zero => simp [cellsOf, It.cells]
    | succ i =>
      have e0 : (i + 1) * 3 = i * 3 + 1 + 1 + 1 := by omega
      rw [List.set_cons_succ, cellsOf_cons, cellsOf_cons, ← ih i (by simpa using h)]
      simp only [It.cells, List.cons_append, List.nil_append, e0, List.set_cons_succ]

theorem Mod2.trans_ext {a w w' : World} {r : Nat} {o : Option Nat} (hx : Ext a w) (h : Mod2 w w' r o) : Mod2 a w' r o :=
  ⟨h.os.trans hx.os, h.tape.trans hx.tape, h.output.trans hx.output, Nat.le_trans hx.size h.size, fun k hk h1 h2 => (h.block k (Nat.lt_of_lt_of_le hk hx.size) h1 h2).trans (hx.block k hk)⟩
theorem Mod2.ext {a w w' : World} {r : Nat} {o : Option Nat} (h : Mod2 a w r o) (hx : Ext w w') : Mod2 a w' r o :=
  ⟨hx.os.trans h.os, hx.tape.trans h.tape, hx.output.trans h.output, Nat.le_trans h.size hx.size, fun k hk h1 h2 => (hx.block k (Nat.lt_of_lt_of_le hk h.size)).trans (h.block k hk h1 h2)⟩
end Go.Proofs.YtjohkmkgmbihkaaDoor
