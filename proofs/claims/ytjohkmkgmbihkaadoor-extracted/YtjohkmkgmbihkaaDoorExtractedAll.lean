/- For every four texts: Extract of any two rows of bytes answers as the document's own Extract does, behind one that must be. No condition; the one listed variable is tied to the program's text. -/
import Derived.Test.YtjohkmkgmbihkaaDoorRkOne
import Derived.Test.YtjohkmkgmbihkaaDoorOverTwo
import Derived.SizedLaws
import Derived.Test.YtjohkmkgmbihkaaDoorLaid
namespace Go.Proofs.YtjohkmkgmbihkaaDoor
set_option linter.unusedVariables false
open Go.ChangeShapes Go.WideShapes Go.ChangeAt Go.RowKit
/-- A tree of the list but for its bounds. -/
def TR.core (x : TR) : TR := { x with low := ⟨#[]⟩, high := ⟨#[]⟩ }
/-- The list holds a tree at a place. -/
def Hold (T : List TR) : AT → Nat → Prop
  | .empty, i => ∃ x, T[i]? = some x ∧ x.core = tr0 69
  | .alone d, i => ∃ x, T[i]? = some x ∧ x.core = { tr0 83 with stub := d }
  | .node y l r, i => ∃ x, T[i]? = some x ∧ x.core = { tr0 78 with it := y, l := x.l, r := x.r } ∧ Hold T l x.l ∧ Hold T r x.r
theorem core_get {T T' : List TR} (e : T'.map TR.core = T.map TR.core) {i : Nat} {x : TR} (h : T[i]? = some x) : ∃ x', T'[i]? = some x' ∧ x'.core = x.core := by
  have h1 : (T'.map TR.core)[i]? = some x.core := by rw [e, List.getElem?_map, h]; rfl
  rw [List.getElem?_map] at h1
  cases hx : T'[i]? with
  | none => rw [hx] at h1; cases h1
  | some x' => rw [hx] at h1; exact ⟨x', rfl, Option.some.inj h1⟩
theorem core_lr {x x' : TR} (e : x'.core = x.core) : x'.l = x.l ∧ x'.r = x.r := by
  have h1 := congrArg TR.l e
  have h2 := congrArg TR.r e
  exact ⟨h1, h2⟩
theorem Hold.core {T T' : List TR} (e : T'.map TR.core = T.map TR.core) : ∀ {t : AT} {i : Nat}, Hold T t i → Hold T' t i
  | .empty, i, ⟨x, h1, h2⟩ => by obtain ⟨x', g1, g2⟩ := core_get e h1; exact ⟨x', g1, g2.trans h2⟩
  | .alone d, i, ⟨x, h1, h2⟩ => by obtain ⟨x', g1, g2⟩ := core_get e h1; exact ⟨x', g1, g2.trans h2⟩
  | .node y l r, i, ⟨x, h1, h2, h3, h4⟩ => by
    obtain ⟨x', g1, g2⟩ := core_get e h1
    obtain ⟨e1, e2⟩ := core_lr g2
    refine ⟨x', g1, ?_, ?_, ?_⟩
    · rw [g2, h2, e1, e2]
    · rw [e1]; exact Hold.core e h3
    · rw [e2]; exact Hold.core e h4
theorem core_len {T T' : List TR} (e : T'.map TR.core = T.map TR.core) : T'.length = T.length := by
  have := congrArg List.length e
  simpa using this
theorem hold_mid : ∀ (t : AT) (A B : List TR), Hold (A ++ lay t A.length ++ B) t A.length
  | .empty, A, B => ⟨tr0 69, by simp [lay], rfl⟩
  | .alone d, A, B => ⟨{ tr0 83 with stub := d }, by simp [lay], rfl⟩
  | .node y l r, A, B => by
    refine ⟨{ tr0 78 with it := y, l := A.length + 1, r := A.length + 1 + szT l }, by simp [lay], rfl, ?_, ?_⟩
    · have := hold_mid l (A ++ [{ tr0 78 with it := y, l := A.length + 1, r := A.length + 1 + szT l }]) (lay r (A.length + 1 + szT l) ++ B)
      have e1 : (A ++ [{ tr0 78 with it := y, l := A.length + 1, r := A.length + 1 + szT l }]).length = A.length + 1 := by simp
      rw [e1] at this
      have e : A ++ [{ tr0 78 with it := y, l := A.length + 1, r := A.length + 1 + szT l }] ++ lay l (A.length + 1) ++ (lay r (A.length + 1 + szT l) ++ B) = A ++ lay (.node y l r) A.length ++ B := by simp [lay]
      rw [e] at this
      exact this
    · have := hold_mid r (A ++ [{ tr0 78 with it := y, l := A.length + 1, r := A.length + 1 + szT l }] ++ lay l (A.length + 1)) B
      have e1 : (A ++ [{ tr0 78 with it := y, l := A.length + 1, r := A.length + 1 + szT l }] ++ lay l (A.length + 1)).length = A.length + 1 + szT l := by simp [lay_len]; omega
      rw [e1] at this
      have e : A ++ [{ tr0 78 with it := y, l := A.length + 1, r := A.length + 1 + szT l }] ++ lay l (A.length + 1) ++ lay r (A.length + 1 + szT l) ++ B = A ++ lay (.node y l r) A.length ++ B := by simp [lay]
      rw [e] at this
      exact this
theorem hold_lay (t : AT) : Hold (lay t 0) t 0 := by
  have := hold_mid t [] []
  simpa using this
/-- The bounds of a tree are written. -/
theorem An.bounds {w0 w1 w : World} {a g c N : Nat} {T : List TR} {n p : Nat} {s : ByteArray} (h : An w0 w1 w a (.slice (some ⟨g, 0, none⟩) N c) T n p s) (hN : N = T.length) {i : Nat} (hi : i < T.length) (low high : ByteArray) :
    ∃ T', T'.map TR.core = T.map TR.core ∧ An w0 w1 ((w.setCell ⟨g, i * 9 + 7, none⟩ (.string low)).setCell ⟨g, i * 9 + 8, none⟩ (.string high)) a (.slice (some ⟨g, 0, none⟩) N c) T' n p s := by
  subst hN
  have s1 := h.store hi (j := 7) (by omega) (.string low) { T[i] with low := low } rfl
  have e1 : (T.set i { T[i] with low := low }).length = T.length := by simp
  rw [← e1] at s1
  have s2 := s1.store (i := i) (by omega) (j := 8) (by omega) (.string high) { T[i] with low := low, high := high } (by simp [TR.cells])
  refine ⟨_, ?_, by rw [e1] at s2; exact s2⟩
  apply List.ext_getElem?
  intro j
  simp only [List.getElem?_map, List.set_set, List.getElem?_set]
  by_cases hj : i = j
  · subst hj
    simp [hi, TR.core]
  · simp [hj]
theorem grown_ext' {w w1 : World} {row : Option Nat} (hx : Ext w w1) : w.grownBy w1 row := ⟨hx.os, hx.tape, hx.output, hx.size, fun k hk _ => hx.block k hk⟩
theorem grown_set2 (w : World) (g i j : Nat) (u v : Value) : w.grownBy ((w.setCell ⟨g, i, none⟩ u).setCell ⟨g, j, none⟩ v) (some g) :=
  ⟨rfl, rfl, rfl, by simp [World.setCell], fun k hk hne => by
    have hk : k ≠ g := by intro q; exact hne (by rw [q])
    rw [Below.heap_setCell _ _ _ _ hk, Below.heap_setCell _ _ _ _ hk]⟩
def rBoundSaid (w0 : World) (lo hi : ByteArray) (t : AT) : Prop := ∀ (w1 w : World) (a g c N : Nat) (T : List TR) (n p i : Nat) (s low high : ByteArray), An w0 w1 w a (.slice (some ⟨g, 0, none⟩) N c) T n p s → N = T.length → Hold T t i → T.length ≤ 1000 →
  Calls Tryd.prog 18 #[.pointer (some ⟨a, 0, none⟩), .int .i64 i, .string lo, .string hi, .string low, .string high] w fun e w' =>
    e = .returned (.bool (okT lo hi t low high)) ∧ w.grownBy w' (some g) ∧ ∃ T', T'.map TR.core = T.map TR.core ∧ An w0 w1 w' a (.slice (some ⟨g, 0, none⟩) N c) T' n p s
set_option maxHeartbeats 4000000 in
set_option maxRecDepth 100000 in
theorem rbound_E (w0 : World) (lo hi : ByteArray) : rBoundSaid w0 lo hi .empty := by
  intro w1 w a g c N T n p i s low high h hN ⟨x, hx, hco⟩ hT
  subst hN
  obtain ⟨hi', hxe⟩ := List.getElem?_eq_some_iff.1 hx
  obtain ⟨_, _, ee, hc1, hc2⟩ := h.shape
  simp only [Value.slice.injEq] at ee
  obtain ⟨-, -, rfl⟩ := ee
  obtain ⟨g', c', ev, hg, _, hfz⟩ := h.blk (by omega)
  simp only [Value.slice.injEq, Option.some.injEq, Addr.mk.injEq] at ev
  obtain ⟨⟨rfl, -⟩, -, -⟩ := ev
  have hk : x.kind = 69 := congrArg TR.kind hco
  have q0 := h.at9 hi' (j := 0) (u := .int .u8 69) (by omega) (by rw [hxe]; show some (Value.int .u8 (x.kind : Int)) = _; rw [hk]; rfl)
  have q1 := h.at9 hi' (j := 1) (u := .string x.stub) (by omega) (by rw [hxe]; rfl)
  have q2 := h.at9 hi' (j := 2) (u := .string x.it.key) (by omega) (by rw [hxe]; rfl)
  have q3 := h.at9 hi' (j := 3) (u := .string x.it.val) (by omega) (by rw [hxe]; rfl)
  have q4 := h.at9 hi' (j := 4) (u := .int .i64 x.it.h) (by omega) (by rw [hxe]; rfl)
  have q5 := h.at9 hi' (j := 5) (u := .int .i64 x.l) (by omega) (by rw [hxe]; rfl)
  have q6 := h.at9 hi' (j := 6) (u := .int .i64 x.r) (by omega) (by rw [hxe]; rfl)
  have q7 := h.at9 hi' (j := 7) (u := .string x.low) (by omega) (by rw [hxe]; rfl)
  have q8 := h.at9 hi' (j := 8) (u := .string x.high) (by omega) (by rw [hxe]; rfl)
  rw [Nat.add_zero] at q0
  have c0 := h.c0
  have n1 : a ≠ g := by
    intro q
    subst q
    exact rows_ne h.row h.own (by decide) rfl
  have n2 : g ≠ w.heap.size := by omega
  have y0 := fun ob => ((Ext.refl w).alloc ob).keep1 c0
  have y7 := fun ob => ((Ext.refl w).alloc ob).keep1 q7
  have y8 := fun ob => ((Ext.refl w).alloc ob).keep1 q8
  have z7 : ∀ ob, (w.alloc ob).frozen? ⟨g, i * 9 + 7, none⟩ = false := fun ob => by
    obtain ⟨g', c', ev, _, _, hf⟩ := (h.next ((Ext.refl w).alloc ob)).blk (by omega)
    simp only [Value.slice.injEq, Option.some.injEq, Addr.mk.injEq] at ev
    obtain ⟨⟨rfl, -⟩, -, -⟩ := ev
    exact hf _
  have z8 : ∀ ob, ((w.setCell ⟨g, i * 9 + 7, none⟩ (.string low)).alloc ob).frozen? ⟨g, i * 9 + 8, none⟩ = false := fun ob => by
    have h7 := h.store hi' (j := 7) (by omega) (.string low) { T[i] with low := low } rfl
    obtain ⟨g', c', ev, _, _, hf⟩ := (h7.next ((Ext.refl _).alloc ob)).blk (by simp; omega)
    simp only [Value.slice.injEq, Option.some.injEq, Addr.mk.injEq] at ev
    obtain ⟨⟨rfl, -⟩, -, -⟩ := ev
    exact hf _
  have HA := hid h
  have halt := h.lt
  have HIT := hid (congrArg TR.it hco)
  clear h hfz hx hxe hk
  go_enter Tryd.func18, Tryd.ntmps18
  go_wp2_with fail
  obtain ⟨T1, hco1, hA1⟩ := HA.out.bounds rfl hi' low high
  have hg1 := grown_set2 w g (i * 9 + 7) (i * 9 + 8) (.string low) (.string high)
  have hsz : ((w.setCell ⟨g, i * 9 + 7, none⟩ (.string low)).setCell ⟨g, i * 9 + 8, none⟩ (.string high)).heap.size = w.heap.size := by simp [World.setCell]
  have hx1 := (Ext.refl ((w.setCell ⟨g, i * 9 + 7, none⟩ (.string low)).setCell ⟨g, i * 9 + 8, none⟩ (.string high))).alloc (.cells #[.int .u8 69, .string x.stub, .string x.it.key, .string x.it.val, .int .i64 x.it.h, .int .i64 x.l, .int .i64 x.r, .string x.low, .string x.high] 60)
  have hn3 := heap_alloc_new ((w.setCell ⟨g, i * 9 + 7, none⟩ (.string low)).setCell ⟨g, i * 9 + 8, none⟩ (.string high)) (.cells #[.int .u8 69, .string x.stub, .string x.it.key, .string x.it.val, .int .i64 x.it.h, .int .i64 x.l, .int .i64 x.r, .string x.low, .string x.high] 60)
  rw [hsz] at hn3
  replace hA1 := hA1.next hx1
  replace hg1 := hg1.trans (grown_ext' hx1 (row := some g))
  obtain ⟨W3, hW3⟩ : ∃ z, z = ((w.setCell ⟨g, i * 9 + 7, none⟩ (.string low)).setCell ⟨g, i * 9 + 8, none⟩ (.string high)).alloc (.cells #[.int .u8 69, .string x.stub, .string x.it.key, .string x.it.val, .int .i64 x.it.h, .int .i64 x.l, .int .i64 x.r, .string x.low, .string x.high] 60) := ⟨_, rfl⟩
  rw [← hW3] at hA1 hg1 hn3 ⊢
  generalize w.heap.size = TB at *
  have HT := hid hn3
  have HA1 := hid hA1
  have HG1 := hid hg1
  have t0 : W3.cell? ⟨TB, 0, none⟩ = some (.int .u8 69) := cell_of_row _ _ 0 _ _ _ hn3
  clear hx1 hsz hA1 hg1 hn3 hW3 q0 q1 q2 q3 q4 q5 q6 q7 q8 y0 y7 y8 z7 z8 c0 HA
  refine (rMatters_any lo hi low high _).mono ?_
  rintro e w' ⟨rfl, hw⟩
  replace hw := hw.symm
  subst hw
  cases hm : mat lo hi low high with
  | true =>
    have HM := hid hm
    clear hm
    go_wp2_with fail
    go_ret
    exact ⟨by unfold okT; rw [HM.out]; rfl, HG1.out, T1, hco1, HA1.out⟩
  | false =>
    have HM := hid hm
    clear hm
    go_wp2_with fail
    go_ret
    exact ⟨by unfold okT; rw [HM.out]; rfl, HG1.out, T1, hco1, HA1.out⟩
set_option maxHeartbeats 4000000 in
set_option maxRecDepth 100000 in
theorem rbound_S (w0 : World) (lo hi d : ByteArray) : rBoundSaid w0 lo hi (.alone d) := by
  intro w1 w a g c N T n p i s low high h hN ⟨x, hx, hco⟩ hT
  subst hN
  obtain ⟨hi', hxe⟩ := List.getElem?_eq_some_iff.1 hx
  obtain ⟨_, _, ee, hc1, hc2⟩ := h.shape
  simp only [Value.slice.injEq] at ee
  obtain ⟨-, -, rfl⟩ := ee
  obtain ⟨g', c', ev, hg, _, hfz⟩ := h.blk (by omega)
  simp only [Value.slice.injEq, Option.some.injEq, Addr.mk.injEq] at ev
  obtain ⟨⟨rfl, -⟩, -, -⟩ := ev
  have hk : x.kind = 83 := congrArg TR.kind hco
  have q0 := h.at9 hi' (j := 0) (u := .int .u8 83) (by omega) (by rw [hxe]; show some (Value.int .u8 (x.kind : Int)) = _; rw [hk]; rfl)
  have q1 := h.at9 hi' (j := 1) (u := .string x.stub) (by omega) (by rw [hxe]; rfl)
  have q2 := h.at9 hi' (j := 2) (u := .string x.it.key) (by omega) (by rw [hxe]; rfl)
  have q3 := h.at9 hi' (j := 3) (u := .string x.it.val) (by omega) (by rw [hxe]; rfl)
  have q4 := h.at9 hi' (j := 4) (u := .int .i64 x.it.h) (by omega) (by rw [hxe]; rfl)
  have q5 := h.at9 hi' (j := 5) (u := .int .i64 x.l) (by omega) (by rw [hxe]; rfl)
  have q6 := h.at9 hi' (j := 6) (u := .int .i64 x.r) (by omega) (by rw [hxe]; rfl)
  have q7 := h.at9 hi' (j := 7) (u := .string x.low) (by omega) (by rw [hxe]; rfl)
  have q8 := h.at9 hi' (j := 8) (u := .string x.high) (by omega) (by rw [hxe]; rfl)
  rw [Nat.add_zero] at q0
  have c0 := h.c0
  have n1 : a ≠ g := by
    intro q
    subst q
    exact rows_ne h.row h.own (by decide) rfl
  have n2 : g ≠ w.heap.size := by omega
  have y0 := fun ob => ((Ext.refl w).alloc ob).keep1 c0
  have y7 := fun ob => ((Ext.refl w).alloc ob).keep1 q7
  have y8 := fun ob => ((Ext.refl w).alloc ob).keep1 q8
  have z7 : ∀ ob, (w.alloc ob).frozen? ⟨g, i * 9 + 7, none⟩ = false := fun ob => by
    obtain ⟨g', c', ev, _, _, hf⟩ := (h.next ((Ext.refl w).alloc ob)).blk (by omega)
    simp only [Value.slice.injEq, Option.some.injEq, Addr.mk.injEq] at ev
    obtain ⟨⟨rfl, -⟩, -, -⟩ := ev
    exact hf _
  have z8 : ∀ ob, ((w.setCell ⟨g, i * 9 + 7, none⟩ (.string low)).alloc ob).frozen? ⟨g, i * 9 + 8, none⟩ = false := fun ob => by
    have h7 := h.store hi' (j := 7) (by omega) (.string low) { T[i] with low := low } rfl
    obtain ⟨g', c', ev, _, _, hf⟩ := (h7.next ((Ext.refl _).alloc ob)).blk (by simp; omega)
    simp only [Value.slice.injEq, Option.some.injEq, Addr.mk.injEq] at ev
    obtain ⟨⟨rfl, -⟩, -, -⟩ := ev
    exact hf _
  have HA := hid h
  have halt := h.lt
  have HIT := hid (congrArg TR.it hco)
  clear h hfz hx hxe hk
  go_enter Tryd.func18, Tryd.ntmps18
  go_wp2_with fail
  obtain ⟨T1, hco1, hA1⟩ := HA.out.bounds rfl hi' low high
  have hg1 := grown_set2 w g (i * 9 + 7) (i * 9 + 8) (.string low) (.string high)
  have hsz : ((w.setCell ⟨g, i * 9 + 7, none⟩ (.string low)).setCell ⟨g, i * 9 + 8, none⟩ (.string high)).heap.size = w.heap.size := by simp [World.setCell]
  have hx1 := (Ext.refl ((w.setCell ⟨g, i * 9 + 7, none⟩ (.string low)).setCell ⟨g, i * 9 + 8, none⟩ (.string high))).alloc (.cells #[.int .u8 83, .string x.stub, .string x.it.key, .string x.it.val, .int .i64 x.it.h, .int .i64 x.l, .int .i64 x.r, .string x.low, .string x.high] 60)
  have hn3 := heap_alloc_new ((w.setCell ⟨g, i * 9 + 7, none⟩ (.string low)).setCell ⟨g, i * 9 + 8, none⟩ (.string high)) (.cells #[.int .u8 83, .string x.stub, .string x.it.key, .string x.it.val, .int .i64 x.it.h, .int .i64 x.l, .int .i64 x.r, .string x.low, .string x.high] 60)
  rw [hsz] at hn3
  replace hA1 := hA1.next hx1
  replace hg1 := hg1.trans (grown_ext' hx1 (row := some g))
  obtain ⟨W3, hW3⟩ : ∃ z, z = ((w.setCell ⟨g, i * 9 + 7, none⟩ (.string low)).setCell ⟨g, i * 9 + 8, none⟩ (.string high)).alloc (.cells #[.int .u8 83, .string x.stub, .string x.it.key, .string x.it.val, .int .i64 x.it.h, .int .i64 x.l, .int .i64 x.r, .string x.low, .string x.high] 60) := ⟨_, rfl⟩
  rw [← hW3] at hA1 hg1 hn3 ⊢
  generalize w.heap.size = TB at *
  have HT := hid hn3
  have HA1 := hid hA1
  have HG1 := hid hg1
  have t0 : W3.cell? ⟨TB, 0, none⟩ = some (.int .u8 83) := cell_of_row _ _ 0 _ _ _ hn3
  clear hx1 hsz hA1 hg1 hn3 hW3 q0 q1 q2 q3 q4 q5 q6 q7 q8 y0 y7 y8 z7 z8 c0 HA
  refine (rMatters_any lo hi low high _).mono ?_
  rintro e w' ⟨rfl, hw⟩
  replace hw := hw.symm
  subst hw
  cases hm : mat lo hi low high with
  | true =>
    have HM := hid hm
    clear hm
    go_wp2_with fail
    go_ret
    exact ⟨by unfold okT; rw [HM.out]; rfl, HG1.out, T1, hco1, HA1.out⟩
  | false =>
    have HM := hid hm
    clear hm
    go_wp2_with fail
    go_ret
    exact ⟨by unfold okT; rw [HM.out]; rfl, HG1.out, T1, hco1, HA1.out⟩
set_option maxHeartbeats 4000000 in
set_option maxRecDepth 100000 in
theorem rbound_N (w0 : World) (lo hi : ByteArray) (y : It) (l r : AT) (ihl : rBoundSaid w0 lo hi l) (ihr : rBoundSaid w0 lo hi r) : rBoundSaid w0 lo hi (.node y l r) := by
  intro w1 w a g c N T n p i s low high h hN ⟨x, hx, hco, hol, hor⟩ hT
  subst hN
  obtain ⟨hi', hxe⟩ := List.getElem?_eq_some_iff.1 hx
  obtain ⟨_, _, ee, hc1, hc2⟩ := h.shape
  simp only [Value.slice.injEq] at ee
  obtain ⟨-, -, rfl⟩ := ee
  obtain ⟨g', c', ev, hg, _, hfz⟩ := h.blk (by omega)
  simp only [Value.slice.injEq, Option.some.injEq, Addr.mk.injEq] at ev
  obtain ⟨⟨rfl, -⟩, -, -⟩ := ev
  have hk : x.kind = 78 := congrArg TR.kind hco
  have q0 := h.at9 hi' (j := 0) (u := .int .u8 78) (by omega) (by rw [hxe]; show some (Value.int .u8 (x.kind : Int)) = _; rw [hk]; rfl)
  have q1 := h.at9 hi' (j := 1) (u := .string x.stub) (by omega) (by rw [hxe]; rfl)
  have q2 := h.at9 hi' (j := 2) (u := .string x.it.key) (by omega) (by rw [hxe]; rfl)
  have q3 := h.at9 hi' (j := 3) (u := .string x.it.val) (by omega) (by rw [hxe]; rfl)
  have q4 := h.at9 hi' (j := 4) (u := .int .i64 x.it.h) (by omega) (by rw [hxe]; rfl)
  have q5 := h.at9 hi' (j := 5) (u := .int .i64 x.l) (by omega) (by rw [hxe]; rfl)
  have q6 := h.at9 hi' (j := 6) (u := .int .i64 x.r) (by omega) (by rw [hxe]; rfl)
  have q7 := h.at9 hi' (j := 7) (u := .string x.low) (by omega) (by rw [hxe]; rfl)
  have q8 := h.at9 hi' (j := 8) (u := .string x.high) (by omega) (by rw [hxe]; rfl)
  rw [Nat.add_zero] at q0
  have c0 := h.c0
  have n1 : a ≠ g := by
    intro q
    subst q
    exact rows_ne h.row h.own (by decide) rfl
  have n2 : g ≠ w.heap.size := by omega
  have y0 := fun ob => ((Ext.refl w).alloc ob).keep1 c0
  have y7 := fun ob => ((Ext.refl w).alloc ob).keep1 q7
  have y8 := fun ob => ((Ext.refl w).alloc ob).keep1 q8
  have z7 : ∀ ob, (w.alloc ob).frozen? ⟨g, i * 9 + 7, none⟩ = false := fun ob => by
    obtain ⟨g', c', ev, _, _, hf⟩ := (h.next ((Ext.refl w).alloc ob)).blk (by omega)
    simp only [Value.slice.injEq, Option.some.injEq, Addr.mk.injEq] at ev
    obtain ⟨⟨rfl, -⟩, -, -⟩ := ev
    exact hf _
  have z8 : ∀ ob, ((w.setCell ⟨g, i * 9 + 7, none⟩ (.string low)).alloc ob).frozen? ⟨g, i * 9 + 8, none⟩ = false := fun ob => by
    have h7 := h.store hi' (j := 7) (by omega) (.string low) { T[i] with low := low } rfl
    obtain ⟨g', c', ev, _, _, hf⟩ := (h7.next ((Ext.refl _).alloc ob)).blk (by simp; omega)
    simp only [Value.slice.injEq, Option.some.injEq, Addr.mk.injEq] at ev
    obtain ⟨⟨rfl, -⟩, -, -⟩ := ev
    exact hf _
  have HA := hid h
  have halt := h.lt
  have HIT := hid (congrArg TR.it hco)
  clear h hfz hx hxe hk
  go_enter Tryd.func18, Tryd.ntmps18
  go_wp2_with fail
  obtain ⟨T1, hco1, hA1⟩ := HA.out.bounds rfl hi' low high
  have hg1 := grown_set2 w g (i * 9 + 7) (i * 9 + 8) (.string low) (.string high)
  have hsz : ((w.setCell ⟨g, i * 9 + 7, none⟩ (.string low)).setCell ⟨g, i * 9 + 8, none⟩ (.string high)).heap.size = w.heap.size := by simp [World.setCell]
  have hx1 := (Ext.refl ((w.setCell ⟨g, i * 9 + 7, none⟩ (.string low)).setCell ⟨g, i * 9 + 8, none⟩ (.string high))).alloc (.cells #[.int .u8 78, .string x.stub, .string x.it.key, .string x.it.val, .int .i64 x.it.h, .int .i64 x.l, .int .i64 x.r, .string x.low, .string x.high] 60)
  have hn3 := heap_alloc_new ((w.setCell ⟨g, i * 9 + 7, none⟩ (.string low)).setCell ⟨g, i * 9 + 8, none⟩ (.string high)) (.cells #[.int .u8 78, .string x.stub, .string x.it.key, .string x.it.val, .int .i64 x.it.h, .int .i64 x.l, .int .i64 x.r, .string x.low, .string x.high] 60)
  rw [hsz] at hn3
  replace hA1 := hA1.next hx1
  replace hg1 := hg1.trans (grown_ext' hx1 (row := some g))
  obtain ⟨W3, hW3⟩ : ∃ z, z = ((w.setCell ⟨g, i * 9 + 7, none⟩ (.string low)).setCell ⟨g, i * 9 + 8, none⟩ (.string high)).alloc (.cells #[.int .u8 78, .string x.stub, .string x.it.key, .string x.it.val, .int .i64 x.it.h, .int .i64 x.l, .int .i64 x.r, .string x.low, .string x.high] 60) := ⟨_, rfl⟩
  rw [← hW3] at hA1 hg1 hn3 ⊢
  generalize w.heap.size = TB at *
  have HT := hid hn3
  have HA1 := hid hA1
  have HG1 := hid hg1
  have t0 : W3.cell? ⟨TB, 0, none⟩ = some (.int .u8 78) := cell_of_row _ _ 0 _ _ _ hn3
  clear hx1 hsz hA1 hg1 hn3 hW3 q0 q1 q2 q3 q4 q5 q6 q7 q8 y0 y7 y8 z7 z8 c0 HA
  refine (rMatters_any lo hi low high _).mono ?_
  rintro e w' ⟨rfl, hw⟩
  replace hw := hw.symm
  subst hw
  have hit : x.it = y := HIT.out
  have t2 : W3.cell? ⟨TB, 2, none⟩ = some (.string y.key) := by rw [← hit]; exact cell_of_row _ _ 2 _ _ _ HT.out
  have t5 : W3.cell? ⟨TB, 5, none⟩ = some (.int .i64 x.l) := cell_of_row _ _ 5 _ _ _ HT.out
  have t6 : W3.cell? ⟨TB, 6, none⟩ = some (.int .i64 x.r) := cell_of_row _ _ 6 _ _ _ HT.out
  have HH := hid (hold_eq low high y.key)
  cases hm : mat lo hi low high with
  | false =>
    have HM := hid hm
    clear hm
    go_wp2_with fail
    go_ret
    exact ⟨by unfold okT; rw [HM.out]; rfl, HG1.out, T1, hco1, HA1.out⟩
  | true =>
    have HM := hid hm
    clear hm HH
    have hl1 := core_len hco1
    by_cases hl : low.toList = []
    · by_cases hh : high.toList = []
      · have HHB : Hid (holdB low high y.key = true) := hid (by rw [hold_eq, hh]; simp [hl])
        go_wp2_with fail
        refine (ihl w1 W3 a g c T.length T1 n p x.l s low y.key HA1.out hl1.symm (hol.core hco1) (by omega)).mono ?_
        rintro e w4 ⟨rfl, hg4, T2, hco2, hA4⟩
        have hT4 := (hg4.block TB (row_lt HT.out) (by simp; exact Ne.symm n2)).trans HT.out
        have u2 : w4.cell? ⟨TB, 2, none⟩ = some (.string y.key) := by rw [← HIT.out]; exact cell_of_row _ _ 2 _ _ _ hT4
        have u6 : w4.cell? ⟨TB, 6, none⟩ = some (.int .i64 x.r) := cell_of_row _ _ 6 _ _ _ hT4
        have hl2 := core_len hco2
        have HA4 := hid hA4
        have HG4 := hid hg4
        clear hA4 hg4 hT4
        cases hbl : okT lo hi l low y.key with
        | true =>
          have HBL := hid hbl
          clear hbl
          go_wp2_with fail
          refine (ihr w1 w4 a g c T.length T2 n p x.r s y.key high HA4.out (by omega) ((hor.core hco1).core hco2) (by omega)).mono ?_
          rintro e w5 ⟨rfl, hg5, T3, hco3, hA5⟩
          have HA5 := hid hA5
          have HG5 := hid hg5
          clear hA5 hg5
          generalize hbr : okT lo hi r y.key high = br at *
          have HBR := hid hbr
          clear hbr
          go_wp2_with fail
          all_goals
            go_ret
            refine ⟨?_, (HG1.out.trans HG4.out).trans HG5.out, T3, (hco3.trans hco2).trans hco1, HA5.out⟩
            unfold okT
            rw [HM.out, HHB.out, HBL.out, HBR.out]
            first | rfl | simp [*]
        | false =>
          have HBL := hid hbl
          clear hbl
          go_wp2_with fail
          refine (ihr w1 w4 a g c T.length T2 n p x.r s y.key high HA4.out (by omega) ((hor.core hco1).core hco2) (by omega)).mono ?_
          rintro e w5 ⟨rfl, hg5, T3, hco3, hA5⟩
          have HA5 := hid hA5
          have HG5 := hid hg5
          clear hA5 hg5
          generalize hbr : okT lo hi r y.key high = br at *
          have HBR := hid hbr
          clear hbr
          go_wp2_with fail
          all_goals
            go_ret
            refine ⟨?_, (HG1.out.trans HG4.out).trans HG5.out, T3, (hco3.trans hco2).trans hco1, HA5.out⟩
            unfold okT
            rw [HM.out, HHB.out, HBL.out, HBR.out]
            first | rfl | simp [*]
      · have hhe : high.toList.isEmpty = false := by simpa using hh
        cases hb2 : Op.bytesLess y.key.toList high.toList with
        | true =>
          have HHB : Hid (holdB low high y.key = true) := hid (by rw [hold_eq, hhe, hb2]; simp [hl])
          go_wp2_with fail
          refine (ihl w1 W3 a g c T.length T1 n p x.l s low y.key HA1.out hl1.symm (hol.core hco1) (by omega)).mono ?_
          rintro e w4 ⟨rfl, hg4, T2, hco2, hA4⟩
          have hT4 := (hg4.block TB (row_lt HT.out) (by simp; exact Ne.symm n2)).trans HT.out
          have u2 : w4.cell? ⟨TB, 2, none⟩ = some (.string y.key) := by rw [← HIT.out]; exact cell_of_row _ _ 2 _ _ _ hT4
          have u6 : w4.cell? ⟨TB, 6, none⟩ = some (.int .i64 x.r) := cell_of_row _ _ 6 _ _ _ hT4
          have hl2 := core_len hco2
          have HA4 := hid hA4
          have HG4 := hid hg4
          clear hA4 hg4 hT4
          cases hbl : okT lo hi l low y.key with
          | true =>
            have HBL := hid hbl
            clear hbl
            go_wp2_with fail
            refine (ihr w1 w4 a g c T.length T2 n p x.r s y.key high HA4.out (by omega) ((hor.core hco1).core hco2) (by omega)).mono ?_
            rintro e w5 ⟨rfl, hg5, T3, hco3, hA5⟩
            have HA5 := hid hA5
            have HG5 := hid hg5
            clear hA5 hg5
            generalize hbr : okT lo hi r y.key high = br at *
            have HBR := hid hbr
            clear hbr
            go_wp2_with fail
            all_goals
              go_ret
              refine ⟨?_, (HG1.out.trans HG4.out).trans HG5.out, T3, (hco3.trans hco2).trans hco1, HA5.out⟩
              unfold okT
              rw [HM.out, HHB.out, HBL.out, HBR.out]
              first | rfl | simp [*]
          | false =>
            have HBL := hid hbl
            clear hbl
            go_wp2_with fail
            refine (ihr w1 w4 a g c T.length T2 n p x.r s y.key high HA4.out (by omega) ((hor.core hco1).core hco2) (by omega)).mono ?_
            rintro e w5 ⟨rfl, hg5, T3, hco3, hA5⟩
            have HA5 := hid hA5
            have HG5 := hid hg5
            clear hA5 hg5
            generalize hbr : okT lo hi r y.key high = br at *
            have HBR := hid hbr
            clear hbr
            go_wp2_with fail
            all_goals
              go_ret
              refine ⟨?_, (HG1.out.trans HG4.out).trans HG5.out, T3, (hco3.trans hco2).trans hco1, HA5.out⟩
              unfold okT
              rw [HM.out, HHB.out, HBL.out, HBR.out]
              first | rfl | simp [*]
        | false =>
          have HHB : Hid (holdB low high y.key = false) := hid (by rw [hold_eq, hhe, hb2]; simp)
          go_wp2_with fail
          go_ret
          exact ⟨by unfold okT; rw [HM.out, HHB.out]; rfl, HG1.out, T1, hco1, HA1.out⟩
    · have hle : low.toList.isEmpty = false := by simpa using hl
      by_cases hk1 : y.key.toList = low.toList
      · have hk2 : (y.key.toList == low.toList) = true := by simpa using hk1
        have hk3 : Op.bytesLess low.toList y.key.toList = false := by rw [hk1]; exact bl_irrefl _
        have HHB : Hid (holdB low high y.key = false) := hid (by rw [hold_eq, hle, hk3]; rfl)
        go_wp2_with fail
        go_ret
        exact ⟨by unfold okT; rw [HM.out, HHB.out]; rfl, HG1.out, T1, hco1, HA1.out⟩
      · have hk2 : (y.key.toList == low.toList) = false := by simpa using hk1
        cases hk3 : Op.bytesLess y.key.toList low.toList with
        | true =>
          have hk4 : Op.bytesLess low.toList y.key.toList = false := lt_asymm (a := y.key) (b := low) hk3
          have HHB : Hid (holdB low high y.key = false) := hid (by rw [hold_eq, hle, hk4]; rfl)
          go_wp2_with fail
          go_ret
          exact ⟨by unfold okT; rw [HM.out, HHB.out]; rfl, HG1.out, T1, hco1, HA1.out⟩
        | false =>
          have hk4 : Op.bytesLess low.toList y.key.toList = true := by
            cases hq : Op.bytesLess low.toList y.key.toList with
            | true => rfl
            | false => exact absurd (bl_tri _ _ hk3 hq) hk1
          have HK4 := hid hk4
          clear hk4
          by_cases hh : high.toList = []
          · have HHB : Hid (holdB low high y.key = true) := hid (by rw [hold_eq, hh]; rw [HK4.out]; simp)
            go_wp2_with fail
            refine (ihl w1 W3 a g c T.length T1 n p x.l s low y.key HA1.out hl1.symm (hol.core hco1) (by omega)).mono ?_
            rintro e w4 ⟨rfl, hg4, T2, hco2, hA4⟩
            have hT4 := (hg4.block TB (row_lt HT.out) (by simp; exact Ne.symm n2)).trans HT.out
            have u2 : w4.cell? ⟨TB, 2, none⟩ = some (.string y.key) := by rw [← HIT.out]; exact cell_of_row _ _ 2 _ _ _ hT4
            have u6 : w4.cell? ⟨TB, 6, none⟩ = some (.int .i64 x.r) := cell_of_row _ _ 6 _ _ _ hT4
            have hl2 := core_len hco2
            have HA4 := hid hA4
            have HG4 := hid hg4
            clear hA4 hg4 hT4
            cases hbl : okT lo hi l low y.key with
            | true =>
              have HBL := hid hbl
              clear hbl
              go_wp2_with fail
              refine (ihr w1 w4 a g c T.length T2 n p x.r s y.key high HA4.out (by omega) ((hor.core hco1).core hco2) (by omega)).mono ?_
              rintro e w5 ⟨rfl, hg5, T3, hco3, hA5⟩
              have HA5 := hid hA5
              have HG5 := hid hg5
              clear hA5 hg5
              generalize hbr : okT lo hi r y.key high = br at *
              have HBR := hid hbr
              clear hbr
              go_wp2_with fail
              all_goals
                go_ret
                refine ⟨?_, (HG1.out.trans HG4.out).trans HG5.out, T3, (hco3.trans hco2).trans hco1, HA5.out⟩
                unfold okT
                rw [HM.out, HHB.out, HBL.out, HBR.out]
                first | rfl | simp [*]
            | false =>
              have HBL := hid hbl
              clear hbl
              go_wp2_with fail
              refine (ihr w1 w4 a g c T.length T2 n p x.r s y.key high HA4.out (by omega) ((hor.core hco1).core hco2) (by omega)).mono ?_
              rintro e w5 ⟨rfl, hg5, T3, hco3, hA5⟩
              have HA5 := hid hA5
              have HG5 := hid hg5
              clear hA5 hg5
              generalize hbr : okT lo hi r y.key high = br at *
              have HBR := hid hbr
              clear hbr
              go_wp2_with fail
              all_goals
                go_ret
                refine ⟨?_, (HG1.out.trans HG4.out).trans HG5.out, T3, (hco3.trans hco2).trans hco1, HA5.out⟩
                unfold okT
                rw [HM.out, HHB.out, HBL.out, HBR.out]
                first | rfl | simp [*]
          · have hhe : high.toList.isEmpty = false := by simpa using hh
            cases hb2 : Op.bytesLess y.key.toList high.toList with
            | true =>
              have HHB : Hid (holdB low high y.key = true) := hid (by rw [hold_eq, hhe, hb2]; rw [HK4.out]; simp)
              go_wp2_with fail
              refine (ihl w1 W3 a g c T.length T1 n p x.l s low y.key HA1.out hl1.symm (hol.core hco1) (by omega)).mono ?_
              rintro e w4 ⟨rfl, hg4, T2, hco2, hA4⟩
              have hT4 := (hg4.block TB (row_lt HT.out) (by simp; exact Ne.symm n2)).trans HT.out
              have u2 : w4.cell? ⟨TB, 2, none⟩ = some (.string y.key) := by rw [← HIT.out]; exact cell_of_row _ _ 2 _ _ _ hT4
              have u6 : w4.cell? ⟨TB, 6, none⟩ = some (.int .i64 x.r) := cell_of_row _ _ 6 _ _ _ hT4
              have hl2 := core_len hco2
              have HA4 := hid hA4
              have HG4 := hid hg4
              clear hA4 hg4 hT4
              cases hbl : okT lo hi l low y.key with
              | true =>
                have HBL := hid hbl
                clear hbl
                go_wp2_with fail
                refine (ihr w1 w4 a g c T.length T2 n p x.r s y.key high HA4.out (by omega) ((hor.core hco1).core hco2) (by omega)).mono ?_
                rintro e w5 ⟨rfl, hg5, T3, hco3, hA5⟩
                have HA5 := hid hA5
                have HG5 := hid hg5
                clear hA5 hg5
                generalize hbr : okT lo hi r y.key high = br at *
                have HBR := hid hbr
                clear hbr
                go_wp2_with fail
                all_goals
                  go_ret
                  refine ⟨?_, (HG1.out.trans HG4.out).trans HG5.out, T3, (hco3.trans hco2).trans hco1, HA5.out⟩
                  unfold okT
                  rw [HM.out, HHB.out, HBL.out, HBR.out]
                  first | rfl | simp [*]
              | false =>
                have HBL := hid hbl
                clear hbl
                go_wp2_with fail
                refine (ihr w1 w4 a g c T.length T2 n p x.r s y.key high HA4.out (by omega) ((hor.core hco1).core hco2) (by omega)).mono ?_
                rintro e w5 ⟨rfl, hg5, T3, hco3, hA5⟩
                have HA5 := hid hA5
                have HG5 := hid hg5
                clear hA5 hg5
                generalize hbr : okT lo hi r y.key high = br at *
                have HBR := hid hbr
                clear hbr
                go_wp2_with fail
                all_goals
                  go_ret
                  refine ⟨?_, (HG1.out.trans HG4.out).trans HG5.out, T3, (hco3.trans hco2).trans hco1, HA5.out⟩
                  unfold okT
                  rw [HM.out, HHB.out, HBL.out, HBR.out]
                  first | rfl | simp [*]
            | false =>
              have HHB : Hid (holdB low high y.key = false) := hid (by rw [hold_eq, hhe, hb2]; simp)
              go_wp2_with fail
              go_ret
              exact ⟨by unfold okT; rw [HM.out, HHB.out]; rfl, HG1.out, T1, hco1, HA1.out⟩
theorem rbound_any (w0 : World) (lo hi : ByteArray) : ∀ t : AT, rBoundSaid w0 lo hi t
  | .empty => rbound_E w0 lo hi
  | .alone d => rbound_S w0 lo hi d
  | .node y l r => rbound_N w0 lo hi y l r (rbound_any w0 lo hi l) (rbound_any w0 lo hi r)
end Go.Proofs.YtjohkmkgmbihkaaDoor

namespace Go.Proofs.YtjohkmkgmbihkaaDoor
set_option linter.unusedVariables false
open Go.ChangeShapes Go.WideShapes Go.ChangeAt Go.RowKit
/-- The text of a tree that is no digest alone. -/
def topT : AT → ByteArray
  | .empty => tE
  | .alone d => d
  | .node x l r => head x ++ digT l ++ digT r
def rDigestSaid (w0 : World) (t : AT) : Prop := ∀ (w1 w : World) (a : Nat) (v : Value) (T : List TR) (n p i : Nat) (s : ByteArray), An w0 w1 w a v T n p s → Hold T t i → T.length ≤ 1000 →
  Calls Tryd.prog 19 #[.pointer (some ⟨a, 0, none⟩), .int .i64 i] w fun e w' => e = .returned (.string (digT t)) ∧ Ext w w'
def rTextSaid (w0 : World) (t : AT) : Prop := ∀ (w1 w : World) (a : Nat) (v : Value) (T : List TR) (n p i : Nat) (s : ByteArray), An w0 w1 w a v T n p s → Hold T t i → T.length ≤ 1000 →
  Calls Tryd.prog 20 #[.pointer (some ⟨a, 0, none⟩), .int .i64 i] w fun e w' => e = .returned (.string (topT t)) ∧ Ext w w'
set_option maxHeartbeats 4000000 in
set_option maxRecDepth 100000 in
theorem rtext_E (w0 : World) : rTextSaid w0 .empty := by
  intro w1 w a v T n p i s h ⟨x, hx, hco⟩ hT
  obtain ⟨hi', hxe⟩ := List.getElem?_eq_some_iff.1 hx
  obtain ⟨g, c, ev, hg, _, _⟩ := h.blk (by omega)
  subst ev
  obtain ⟨_, _, ee, hc1, hc2⟩ := h.shape
  simp only [Value.slice.injEq] at ee
  obtain ⟨-, -, rfl⟩ := ee
  have hk : x.kind = 69 := congrArg TR.kind hco
  have q0 := h.at9 hi' (j := 0) (u := .int .u8 69) (by omega) (by rw [hxe]; show some (Value.int .u8 (x.kind : Int)) = _; rw [hk]; rfl)
  have q1 := h.at9 hi' (j := 1) (u := .string x.stub) (by omega) (by rw [hxe]; rfl)
  have q2 := h.at9 hi' (j := 2) (u := .string x.it.key) (by omega) (by rw [hxe]; rfl)
  have q3 := h.at9 hi' (j := 3) (u := .string x.it.val) (by omega) (by rw [hxe]; rfl)
  have q4 := h.at9 hi' (j := 4) (u := .int .i64 x.it.h) (by omega) (by rw [hxe]; rfl)
  have q5 := h.at9 hi' (j := 5) (u := .int .i64 x.l) (by omega) (by rw [hxe]; rfl)
  have q6 := h.at9 hi' (j := 6) (u := .int .i64 x.r) (by omega) (by rw [hxe]; rfl)
  have q7 := h.at9 hi' (j := 7) (u := .string x.low) (by omega) (by rw [hxe]; rfl)
  have q8 := h.at9 hi' (j := 8) (u := .string x.high) (by omega) (by rw [hxe]; rfl)
  rw [Nat.add_zero] at q0
  have c0 := h.c0
  have HA := hid h
  clear h hx hxe hk
  go_enter Tryd.func20, Tryd.ntmps20
  go_wp2_with fail
  go_ret
  exact ⟨rfl, (Ext.refl _).alloc _⟩
set_option maxHeartbeats 4000000 in
set_option maxRecDepth 100000 in
theorem rtext_N (w0 : World) (y : It) (l r : AT) (hf : fault y.key y.val y.h = 0) (h3l : (digT l).size = 3) (h3r : (digT r).size = 3) (ihl : rDigestSaid w0 l) (ihr : rDigestSaid w0 r) : rTextSaid w0 (.node y l r) := by
  intro w1 w a v T n p i s h ⟨x, hx, hco, hol, hor⟩ hT
  have hit : x.it = y := congrArg TR.it hco
  obtain ⟨s1, s2, s3⟩ := fault_small hf
  obtain ⟨hi', hxe⟩ := List.getElem?_eq_some_iff.1 hx
  obtain ⟨g, c, ev, hg, _, _⟩ := h.blk (by omega)
  subst ev
  obtain ⟨_, _, ee, hc1, hc2⟩ := h.shape
  simp only [Value.slice.injEq] at ee
  obtain ⟨-, -, rfl⟩ := ee
  have hk : x.kind = 78 := congrArg TR.kind hco
  have q0 := h.at9 hi' (j := 0) (u := .int .u8 78) (by omega) (by rw [hxe]; show some (Value.int .u8 (x.kind : Int)) = _; rw [hk]; rfl)
  have q1 := h.at9 hi' (j := 1) (u := .string x.stub) (by omega) (by rw [hxe]; rfl)
  have q2 := h.at9 hi' (j := 2) (u := .string x.it.key) (by omega) (by rw [hxe]; rfl)
  have q3 := h.at9 hi' (j := 3) (u := .string x.it.val) (by omega) (by rw [hxe]; rfl)
  have q4 := h.at9 hi' (j := 4) (u := .int .i64 x.it.h) (by omega) (by rw [hxe]; rfl)
  have q5 := h.at9 hi' (j := 5) (u := .int .i64 x.l) (by omega) (by rw [hxe]; rfl)
  have q6 := h.at9 hi' (j := 6) (u := .int .i64 x.r) (by omega) (by rw [hxe]; rfl)
  have q7 := h.at9 hi' (j := 7) (u := .string x.low) (by omega) (by rw [hxe]; rfl)
  have q8 := h.at9 hi' (j := 8) (u := .string x.high) (by omega) (by rw [hxe]; rfl)
  rw [Nat.add_zero] at q0
  have c0 := h.c0
  have HA := hid h
  clear h hx hxe hk
  rw [hit] at q2 q3 q4
  have hhd : (head y).size ≤ 40 := by rw [head_size]; omega
  have hx1 := (Ext.refl w).alloc (.cells #[.int .u8 78, .string x.stub, .string y.key, .string y.val, .int .i64 y.h, .int .i64 x.l, .int .i64 x.r, .string x.low, .string x.high] 60)
  have hn1 := heap_alloc_new w (.cells #[.int .u8 78, .string x.stub, .string y.key, .string y.val, .int .i64 y.h, .int .i64 x.l, .int .i64 x.r, .string x.low, .string x.high] 60)
  have C1 := hid (fun w' (hx : Ext w w') => ihl w1 w' a _ T n p x.l s (HA.out.next hx) hol hT)
  have C2 := hid (fun w' (hx : Ext w w') => ihr w1 w' a _ T n p x.r s (HA.out.next hx) hor hT)
  clear ihl ihr hol hor hco
  have HTX := hid (show topT (.node y l r) = head y ++ digT l ++ digT r from rfl)
  generalize digT l = D1 at *
  generalize digT r = D2 at *
  have hs1 : ¬ 9223372036854775807 < (head y).size + 3 := by omega
  have hs2 : ¬ 9223372036854775807 < (head y).size + 3 + 3 := by omega
  go_enter Tryd.func20, Tryd.ntmps20
  go_wp2_with fail
  obtain ⟨W1, hW1⟩ : ∃ z, z = w.alloc (.cells #[.int .u8 78, .string x.stub, .string y.key, .string y.val, .int .i64 y.h, .int .i64 x.l, .int .i64 x.r, .string x.low, .string x.high] 60) := ⟨_, rfl⟩
  rw [← hW1] at hx1 hn1 ⊢
  generalize w.heap.size = TB at *
  have HN1 := hid hn1
  have HX1 := hid hx1
  clear hn1 hx1 hW1
  refine (C1.out _ HX1.out).mono ?_
  rintro e w2 ⟨rfl, hx2⟩
  have u6 : w2.cell? ⟨TB, 6, none⟩ = some (.int .i64 x.r) := cell_of_row _ _ 6 _ _ _ (hx2.row HN1.out)
  have HX2 := hid (HX1.out.trans hx2)
  have HN2 := hid (hx2.row HN1.out)
  clear hx2
  go_wp2_with fail
  refine (C2.out _ HX2.out).mono ?_
  rintro e w3 ⟨rfl, hx3⟩
  have hn3 := hx3.row HN2.out
  have v2 : w3.cell? ⟨TB, 2, none⟩ = some (.string y.key) := cell_of_row _ _ 2 _ _ _ hn3
  have v3 : w3.cell? ⟨TB, 3, none⟩ = some (.string y.val) := cell_of_row _ _ 3 _ _ _ hn3
  have v4 : w3.cell? ⟨TB, 4, none⟩ = some (.int .i64 y.h) := cell_of_row _ _ 4 _ _ _ hn3
  have HX3 := hid (HX2.out.trans hx3)
  clear hx3 hn3
  go_wp2_with fail
  refine (rHead_any y s1 s2 s3 _).mono ?_
  rintro e w4 ⟨rfl, hx4⟩
  have HX4 := hid (HX3.out.trans hx4)
  clear hx4
  go_wp2_with fail
  go_ret
  exact ⟨ret_str HTX.out.symm, HX4.out⟩
set_option maxHeartbeats 4000000 in
set_option maxRecDepth 100000 in
theorem rdigest_S (w0 : World) (d : ByteArray) : rDigestSaid w0 (.alone d) := by
  intro w1 w a v T n p i s h ⟨x, hx, hco⟩ hT
  have hst : x.stub = d := congrArg TR.stub hco
  obtain ⟨hi', hxe⟩ := List.getElem?_eq_some_iff.1 hx
  obtain ⟨g, c, ev, hg, _, _⟩ := h.blk (by omega)
  subst ev
  obtain ⟨_, _, ee, hc1, hc2⟩ := h.shape
  simp only [Value.slice.injEq] at ee
  obtain ⟨-, -, rfl⟩ := ee
  have hk : x.kind = 83 := congrArg TR.kind hco
  have q0 := h.at9 hi' (j := 0) (u := .int .u8 83) (by omega) (by rw [hxe]; show some (Value.int .u8 (x.kind : Int)) = _; rw [hk]; rfl)
  have q1 := h.at9 hi' (j := 1) (u := .string x.stub) (by omega) (by rw [hxe]; rfl)
  have q2 := h.at9 hi' (j := 2) (u := .string x.it.key) (by omega) (by rw [hxe]; rfl)
  have q3 := h.at9 hi' (j := 3) (u := .string x.it.val) (by omega) (by rw [hxe]; rfl)
  have q4 := h.at9 hi' (j := 4) (u := .int .i64 x.it.h) (by omega) (by rw [hxe]; rfl)
  have q5 := h.at9 hi' (j := 5) (u := .int .i64 x.l) (by omega) (by rw [hxe]; rfl)
  have q6 := h.at9 hi' (j := 6) (u := .int .i64 x.r) (by omega) (by rw [hxe]; rfl)
  have q7 := h.at9 hi' (j := 7) (u := .string x.low) (by omega) (by rw [hxe]; rfl)
  have q8 := h.at9 hi' (j := 8) (u := .string x.high) (by omega) (by rw [hxe]; rfl)
  rw [Nat.add_zero] at q0
  have c0 := h.c0
  have HA := hid h
  clear h hx hxe hk
  rw [hst] at q1
  go_enter Tryd.func19, Tryd.ntmps19
  go_wp2_with fail
  go_ret
  exact ⟨rfl, Ext.refl _⟩
set_option maxHeartbeats 4000000 in
set_option maxRecDepth 100000 in
theorem rdigest_E (w0 : World) (hsz : (topT AT.empty).size ≤ 1000) (ih : rTextSaid w0 AT.empty) : rDigestSaid w0 AT.empty := by
  intro w1 w a v T n p i s h hho hT
  have HH := hid hho
  obtain ⟨x, hx, hco⟩ := hho
  obtain ⟨hi', hxe⟩ := List.getElem?_eq_some_iff.1 hx
  obtain ⟨g, c, ev, hg, _, _⟩ := h.blk (by omega)
  subst ev
  obtain ⟨_, _, ee, hc1, hc2⟩ := h.shape
  simp only [Value.slice.injEq] at ee
  obtain ⟨-, -, rfl⟩ := ee
  have hk : x.kind = 69 := congrArg TR.kind hco
  have q0 := h.at9 hi' (j := 0) (u := .int .u8 69) (by omega) (by rw [hxe]; show some (Value.int .u8 (x.kind : Int)) = _; rw [hk]; rfl)
  have q1 := h.at9 hi' (j := 1) (u := .string x.stub) (by omega) (by rw [hxe]; rfl)
  have q2 := h.at9 hi' (j := 2) (u := .string x.it.key) (by omega) (by rw [hxe]; rfl)
  have q3 := h.at9 hi' (j := 3) (u := .string x.it.val) (by omega) (by rw [hxe]; rfl)
  have q4 := h.at9 hi' (j := 4) (u := .int .i64 x.it.h) (by omega) (by rw [hxe]; rfl)
  have q5 := h.at9 hi' (j := 5) (u := .int .i64 x.l) (by omega) (by rw [hxe]; rfl)
  have q6 := h.at9 hi' (j := 6) (u := .int .i64 x.r) (by omega) (by rw [hxe]; rfl)
  have q7 := h.at9 hi' (j := 7) (u := .string x.low) (by omega) (by rw [hxe]; rfl)
  have q8 := h.at9 hi' (j := 8) (u := .string x.high) (by omega) (by rw [hxe]; rfl)
  rw [Nat.add_zero] at q0
  have c0 := h.c0
  have HA := hid h
  clear h hx hxe hk
  have C1 := hid (fun w' (hx : Ext w w') => ih w1 w' a _ T n p i s (HA.out.next hx) HH.out hT)
  have HSZ := hid (show (topT AT.empty).size ≤ maxLen by unfold maxLen; omega)
  have HE := hid (show Sm.sum (topT AT.empty) = digT AT.empty from rfl)
  clear ih hsz
  go_enter Tryd.func19, Tryd.ntmps19
  go_wp2_with fail
  refine (C1.out _ (Ext.refl _)).mono ?_
  rintro e w2 ⟨rfl, hx2⟩
  go_wp2_with fail
  refine (refSum_any _ _ HSZ.out).mono ?_
  rintro e w5 ⟨rfl, nn, rfl⟩
  rw [HE.out]
  go_wp2_with fail
  go_ret
  exact ⟨rfl, hx2.drewN _⟩
set_option maxHeartbeats 4000000 in
set_option maxRecDepth 100000 in
theorem rdigest_N (w0 : World) (y : It) (l r : AT) (hsz : (topT (.node y l r)).size ≤ 1000) (ih : rTextSaid w0 (.node y l r)) : rDigestSaid w0 (.node y l r) := by
  intro w1 w a v T n p i s h hho hT
  have HH := hid hho
  obtain ⟨x, hx, hco, hol, hor⟩ := hho
  obtain ⟨hi', hxe⟩ := List.getElem?_eq_some_iff.1 hx
  obtain ⟨g, c, ev, hg, _, _⟩ := h.blk (by omega)
  subst ev
  obtain ⟨_, _, ee, hc1, hc2⟩ := h.shape
  simp only [Value.slice.injEq] at ee
  obtain ⟨-, -, rfl⟩ := ee
  have hk : x.kind = 78 := congrArg TR.kind hco
  have q0 := h.at9 hi' (j := 0) (u := .int .u8 78) (by omega) (by rw [hxe]; show some (Value.int .u8 (x.kind : Int)) = _; rw [hk]; rfl)
  have q1 := h.at9 hi' (j := 1) (u := .string x.stub) (by omega) (by rw [hxe]; rfl)
  have q2 := h.at9 hi' (j := 2) (u := .string x.it.key) (by omega) (by rw [hxe]; rfl)
  have q3 := h.at9 hi' (j := 3) (u := .string x.it.val) (by omega) (by rw [hxe]; rfl)
  have q4 := h.at9 hi' (j := 4) (u := .int .i64 x.it.h) (by omega) (by rw [hxe]; rfl)
  have q5 := h.at9 hi' (j := 5) (u := .int .i64 x.l) (by omega) (by rw [hxe]; rfl)
  have q6 := h.at9 hi' (j := 6) (u := .int .i64 x.r) (by omega) (by rw [hxe]; rfl)
  have q7 := h.at9 hi' (j := 7) (u := .string x.low) (by omega) (by rw [hxe]; rfl)
  have q8 := h.at9 hi' (j := 8) (u := .string x.high) (by omega) (by rw [hxe]; rfl)
  rw [Nat.add_zero] at q0
  have c0 := h.c0
  have HA := hid h
  clear h hx hxe hk
  have C1 := hid (fun w' (hx : Ext w w') => ih w1 w' a _ T n p i s (HA.out.next hx) HH.out hT)
  have HSZ := hid (show (topT (.node y l r)).size ≤ maxLen by unfold maxLen; omega)
  have HE := hid (show Sm.sum (topT (.node y l r)) = digT (.node y l r) from rfl)
  clear ih hsz
  go_enter Tryd.func19, Tryd.ntmps19
  go_wp2_with fail
  refine (C1.out _ (Ext.refl _)).mono ?_
  rintro e w2 ⟨rfl, hx2⟩
  go_wp2_with fail
  refine (refSum_any _ _ HSZ.out).mono ?_
  rintro e w5 ⟨rfl, nn, rfl⟩
  rw [HE.out]
  go_wp2_with fail
  go_ret
  exact ⟨rfl, hx2.drewN _⟩
theorem top_size : ∀ {t : AT}, okA t → (topT t).size ≤ 1000
  | .empty, _ => by decide
  | .alone d, h => by have : d.size = 3 := h; show d.size ≤ 1000; omega
  | .node x l r, h => by
    obtain ⟨h1, h2, h3⟩ := fault_small h.1
    show (head x ++ digT l ++ digT r).size ≤ 1000
    rw [ByteArray.size_append, ByteArray.size_append, head_size, digT_size h.2.1, digT_size h.2.2]
    omega
theorem rdigest_all (w0 : World) : ∀ t : AT, okA t → rDigestSaid w0 t
  | .empty, h => rdigest_E w0 (top_size h) (rtext_E w0)
  | .alone d, _ => rdigest_S w0 d
  | .node y l r, h => rdigest_N w0 y l r (top_size h) (rtext_N w0 y l r h.1 (digT_size h.2.1) (digT_size h.2.2) (rdigest_all w0 l h.2.1) (rdigest_all w0 r h.2.2))
theorem rtext_all (w0 : World) : ∀ t : AT, okA t → (∀ d, t ≠ .alone d) → rTextSaid w0 t
  | .empty, h, _ => rtext_E w0
  | .alone d, _, hn => absurd rfl (hn d)
  | .node y l r, h, _ => rtext_N w0 y l r h.1 (digT_size h.2.1) (digT_size h.2.2) (rdigest_all w0 l h.2.1) (rdigest_all w0 r h.2.2)
end Go.Proofs.YtjohkmkgmbihkaaDoor

namespace Go.Proofs.YtjohkmkgmbihkaaDoor
set_option linter.unusedVariables false
open Go.ChangeShapes Go.WideShapes Go.ChangeAt Go.RowKit
theorem rdA_sz {s : ByteArray} {t : AT} (h : rdA s = some t) : szT t ≤ 101 := by
  unfold rdA at h
  split at h
  · cases h
  next t' r m hr =>
    split at h
    · simp only [Option.some.injEq] at h
      subst h
      have h1 := rd_cnt _ _ _ _ _ _ hr
      have h2 := (rd_less 50 _ _ _ _ _ hr (by omega)).2.1
      have h3 := szT_cnt t'
      omega
    · cases h
/-- What reading comes to. -/
def ReadPost (s : ByteArray) (w : World) (e : Ending) (w' : World) : Prop := match rdA s with
  | none => ∃ p, e = .returned (.tuple #[.pointer p, .bool false]) ∧ Ext w w'
  | some t => ∃ a v n, e = .returned (.tuple #[.pointer (some ⟨a, 0, none⟩), .bool true]) ∧ An w w w' a v (lay t 0) n s.size s
theorem sfx_end {s : ByteArray} {q : Nat} (hq : q ≤ s.size) : beq (sfx s q) ⟨#[]⟩ = decide (q = s.size) := by
  by_cases h : q = s.size
  · subst h
    have e : sfx s s.size = ⟨#[]⟩ := by
      apply ByteArray.ext
      apply Array.eq_empty_of_size_eq_zero
      have := sfx_size s s.size
      rw [Nat.sub_self] at this
      exact this
    rw [e]
    simp [beq]
  · have hne : sfx s q ≠ ⟨#[]⟩ := by
      intro e
      have h1 := sfx_size s q
      rw [e] at h1
      have h2 : (⟨#[]⟩ : ByteArray).size = 0 := rfl
      omega
    rw [beq_false.2 hne]
    simp [h]
set_option maxHeartbeats 4000000 in
set_option maxRecDepth 100000 in
theorem rRead_any (s : ByteArray) (hs : s.size ≤ 140737488351232) (w : World) :
    Calls Tryd.prog 17 #[.string s] w fun e w' => ReadPost s w e w' := by
  have hx1 := (Ext.refl w).alloc (.cells #[.slice none 0 0, .int .i64 0, .int .i64 0, .string s] 63)
  have hn1 := heap_alloc_new w (.cells #[.slice none 0 0, .int .i64 0, .int .i64 0, .string s] 63)
  have hA : An w w (w.alloc (.cells #[.slice none 0 0, .int .i64 0, .int .i64 0, .string s] 63)) w.heap.size (.slice none 0 0) [] 0 0 s :=
    ⟨Nat.le_refl _, hn1, World.ownsRow_nil _ _ _ _, hx1, Tf.of hx1⟩
  have HT := hid (rtree_all w s hs 50 w _ w.heap.size _ [] 0 0 hA (by omega) (by omega) (by omega) (by simp))
  have HR := hid (show rdA s = match rd 50 (sfx s 0) 0 with | none => none | some (t, r, _) => if beq r ⟨#[]⟩ then some t else none by rw [sfx_zero]; rfl)
  clear hx1 hn1 hA
  cases hrd : rd 50 (sfx s 0) 0 with
  | none =>
    rw [hrd] at HT HR
    clear hrd
    go_enter Tryd.func17, Tryd.ntmps17
    go_wp2_with fail
    refine HT.out.mono ?_
    rintro e w2 ⟨rfl, hx2⟩
    have HX2 := hid hx2
    clear hx2
    go_wp2_with fail
    go_quiet (fail)
    go_wp2_with fail
    go_ret2
    unfold ReadPost
    rw [HR.out]
    exact ⟨_, rfl, HX2.out.drewN _⟩
  | some y =>
    obtain ⟨t, r, m⟩ := y
    rw [hrd] at HT HR
    clear hrd
    go_enter Tryd.func17, Tryd.ntmps17
    go_wp2_with fail
    refine HT.out.mono ?_
    rintro e w2 ⟨rfl, v', q, rfl, hq, hA2⟩
    have hse := sfx_end hq
    simp only [hse] at HR
    have c2 := hA2.c2
    have HA2 := hid hA2
    clear hA2 hse HT
    by_cases hqs : q = s.size
    · subst hqs
      have HR' : Hid (rdA s = some t) := hid (by rw [HR.out]; simp)
      clear HR
      go_wp2_with fail
      go_quiet (fail)
      go_wp2_with fail
      go_ret2
      unfold ReadPost
      rw [HR'.out]
      exact ⟨_, _, _, rfl, HA2.out.dn⟩
    · have HR' : Hid (rdA s = none) := hid (by rw [HR.out]; simp [hqs])
      have hqi : ((q : Int) == (s.size : Int)) = false := by simp; omega
      clear HR
      go_wp2_with fail
      go_quiet (fail)
      go_wp2_with fail
      go_ret2
      unfold ReadPost
      rw [HR'.out]
      exact ⟨_, rfl, HA2.out.dn.ext⟩
def LookPost (lo hi s : ByteArray) (w : World) (e : Ending) (w' : World) : Prop :=
  (lookE lo hi s ≠ 0 ∧ e = .returned (.tuple #[.pointer none, .string ⟨#[]⟩, .int .i64 (lookE lo hi s)]) ∧ Ext w w') ∨
  (lookE lo hi s = 0 ∧ ∃ t a v T n, rdA s = some t ∧ okT lo hi t e0 e0 = true ∧ e = .returned (.tuple #[.pointer (some ⟨a, 0, none⟩), .string (digT t), .int .i64 0]) ∧ An w w w' a v T n s.size s ∧ T.map TR.core = (lay t 0).map TR.core)
set_option maxHeartbeats 4000000 in
set_option maxRecDepth 100000 in
theorem rLook_any (lo hi s : ByteArray) (hs : s.size ≤ 140737488351232) (w : World) :
    Calls Tryd.prog 9 #[.string lo, .string hi, .string s] w fun e w' => LookPost lo hi s w e w' := by
  have HK := hid (rAsked_any lo hi w)
  by_cases ha : askE lo hi = 0
  · rw [ha] at HK
    have HL := hid (show lookE lo hi s = match rdA s with | none => 7 | some t => if okT lo hi t e0 e0 then 0 else 8 by unfold lookE; rw [if_neg (by simp [ha])]; rfl)
    have HRD := hid (rRead_any s hs w)
    clear ha
    go_enter Tryd.func9, Tryd.ntmps9
    go_wp2_with fail
    refine HK.out.mono ?_
    rintro e w1 ⟨rfl, hw⟩
    replace hw := hw.symm
    subst hw
    go_wp2_with fail
    refine HRD.out.mono ?_
    intro e w2 hp
    unfold ReadPost at hp
    cases hrd : rdA s with
    | none =>
      rw [hrd] at hp HL
      obtain ⟨p, rfl, hx⟩ := hp
      have HX := hid hx
      clear hx hrd
      go_wp2_with fail
      go_ret3
      unfold LookPost
      rw [HL.out]
      exact .inl ⟨by decide, rfl, HX.out⟩
    | some t =>
      rw [hrd] at hp HL
      obtain ⟨a, v, n, rfl, hA⟩ := hp
      have hsz := rdA_sz hrd
      have hok := (rdA_gives hrd).1
      have hll := lay_len t 0
      have hpos := szT_cnt t
      obtain ⟨g, c, ev, _⟩ := hA.blk (by omega)
      subst ev
      have HB := hid (rbound_any w lo hi t w w2 a g c _ (lay t 0) n s.size 0 s e0 e0 hA rfl (hold_lay t) (by omega))
      have HD := hid (rdigest_all w t hok)
      have HRD2 := hid hrd
      clear hrd hA HRD
      go_wp2_with fail
      refine HB.out.mono ?_
      rintro e w3 ⟨rfl, _, T', hco, hA3⟩
      cases hb : okT lo hi t e0 e0 with
      | false =>
        have HB2 := hid hb
        have HX := hid hA3.ext
        clear hb hA3
        go_wp2_with fail
        go_ret3
        unfold LookPost
        rw [HL.out]
        simp only [HB2.out]
        exact .inl ⟨by decide, rfl, HX.out⟩
      | true =>
        have HB2 := hid hb
        have HA3 := hid hA3
        have hlen := core_len hco
        have HHO := hid ((hold_lay t).core hco)
        clear hb hA3
        go_wp2_with fail
        refine (HD.out w w3 a _ T' n s.size 0 s HA3.out HHO.out (by omega)).mono ?_
        rintro e w4 ⟨rfl, hx4⟩
        have HA4 := hid (HA3.out.next hx4)
        clear hx4
        go_wp2_with fail
        go_ret3
        unfold LookPost
        rw [HL.out]
        simp only [HB2.out]
        exact .inr ⟨rfl, t, a, _, T', n, HRD2.out, HB2.out, rfl, HA4.out, hco⟩
  · have HL := hid (show lookE lo hi s = askE lo hi by unfold lookE; rw [if_pos ha])
    have HNE := hid ha
    generalize askE lo hi = ak at *
    go_enter Tryd.func9, Tryd.ntmps9
    go_wp2_with fail
    refine HK.out.mono ?_
    rintro e w1 ⟨rfl, hw⟩
    replace hw := hw.symm
    subst hw
    go_wp2_with fail
    go_ret3
    unfold LookPost
    rw [HL.out]
    exact .inl ⟨HNE.out, rfl, Ext.refl _⟩
end Go.Proofs.YtjohkmkgmbihkaaDoor

namespace Go.Proofs.YtjohkmkgmbihkaaDoor
set_option linter.unusedVariables false
theorem text_inj {x1 x2 : It} {l1 l2 r1 r2 : ByteArray} (h1 : fault x1.key x1.val x1.h = 0) (h2 : fault x2.key x2.val x2.h = 0) (a1 : l1.size = 3) (a2 : l2.size = 3)
    (h : head x1 ++ l1 ++ r1 = head x2 ++ l2 ++ r2) : x1 = x2 ∧ l1 = l2 ∧ r1 = r2 := by
  rw [ByteArray.append_assoc, ByteArray.append_assoc, head_app, head_app] at h
  have e1 := tk_app ⟨#[78]⟩ (byte x1.key.size ++ (x1.key ++ (byte x1.val.size ++ (x1.val ++ (byte x1.h ++ (l1 ++ r1)))))) 1 rfl
  rw [h, tk_app ⟨#[78]⟩ _ 1 rfl] at e1
  have e2 := (Prod.mk.inj (Option.some.inj e1)).2
  have e3 := ent_app x1 (l1 ++ r1) h1
  rw [← e2, ent_app x2 (l2 ++ r2) h2] at e3
  have e4 := Prod.mk.inj (Option.some.inj e3)
  have e5 := tk_app l1 r1 3 a1
  rw [← e4.2, tk_app l2 r2 3 a2] at e5
  have e6 := Prod.mk.inj (Option.some.inj e5)
  exact ⟨e4.1.symm, e6.1.symm, e6.2.symm⟩
theorem dif_same (A R S : List ByteArray) : dif (A ++ R) (A ++ S) = dif R S := by
  induction A with
  | nil => rfl
  | cons a A ih =>
    show (if beq a a then dif (A ++ R) (A ++ S) else some (a, a)) = _
    rw [if_pos (beq_iff.2 rfl)]
    exact ih
theorem dif_head {a b : ByteArray} (A B : List ByteArray) (h : a ≠ b) : dif (a :: A) (b :: B) = some (a, b) := by
  show (if beq a b then dif A B else some (a, b)) = _
  rw [if_neg (by simp [beq_false.2 h])]
theorem node_ne_E (x : It) (l r : ByteArray) : head x ++ l ++ r ≠ tE := by
  intro h
  have := congrArg ByteArray.size h
  rw [ByteArray.size_append, ByteArray.size_append, head_size] at this
  have e : tE.size = 1 := rfl
  omega
/-- The first difference tells two texts that are not the same and have one sum. -/
def Split (A B : List ByteArray) : Prop := ∃ x y, dif A B = some (x, y) ∧ x ≠ y ∧ Sm.sum x = Sm.sum y
theorem two_answers (lo hi : ByteArray) : ∀ (t1 t2 : AT) (a b : ByteArray), okA t1 → okA t2 → okT lo hi t1 a b = true → okT lo hi t2 a b = true → digT t1 = digT t2 → ∀ R S : List ByteArray, t1 = t2 ∨ Split (txtT t1 ++ R) (txtT t2 ++ S)
  | .alone d1, .alone d2, a, b, _, _, _, _, h, R, S => by
    left
    have : d1 = d2 := h
    rw [this]
  | .empty, .empty, a, b, _, _, _, _, h, R, S => .inl rfl
  | .alone d1, .empty, a, b, _, _, h1, h2, _, R, S => by
    simp only [okT] at h1 h2
    rw [h2] at h1
    simp at h1
  | .empty, .alone d2, a, b, _, _, h1, h2, _, R, S => by
    simp only [okT] at h1 h2
    rw [h1] at h2
    simp at h2
  | .alone d1, .node x l r, a, b, _, _, h1, h2, _, R, S => by
    simp only [okT, Bool.and_eq_true] at h1 h2
    rw [h2.1.1.1] at h1
    simp at h1
  | .node x l r, .alone d2, a, b, _, _, h1, h2, _, R, S => by
    simp only [okT, Bool.and_eq_true] at h1 h2
    rw [h1.1.1.1] at h2
    simp at h2
  | .empty, .node x l r, a, b, _, _, _, _, h, R, S => by
    right
    exact ⟨_, _, dif_head _ _ (Ne.symm (node_ne_E x (digT l) (digT r))), Ne.symm (node_ne_E x (digT l) (digT r)), h⟩
  | .node x l r, .empty, a, b, _, _, _, _, h, R, S => by
    right
    exact ⟨_, _, dif_head _ _ (node_ne_E x (digT l) (digT r)), node_ne_E x (digT l) (digT r), h⟩
  | .node x1 l1 r1, .node x2 l2 r2, a, b, o1, o2, h1, h2, h, R, S => by
    by_cases ht : head x1 ++ digT l1 ++ digT r1 = head x2 ++ digT l2 ++ digT r2
    · obtain ⟨rfl, el, er⟩ := text_inj o1.1 o2.1 (digT_size o1.2.1) (digT_size o2.2.1) ht
      simp only [okT, Bool.and_eq_true] at h1 h2
      rcases two_answers lo hi l1 l2 a x1.key o1.2.1 o2.2.1 h1.1.2 h2.1.2 el (txtT r1 ++ R) (txtT r2 ++ S) with rfl | ⟨x, y, e1, e2, e3⟩
      · rcases two_answers lo hi r1 r2 x1.key b o1.2.2 o2.2.2 h1.2 h2.2 er R S with rfl | ⟨x, y, e1, e2, e3⟩
        · exact .inl rfl
        · right
          refine ⟨x, y, ?_, e2, e3⟩
          show dif ((head x1 ++ digT l1 ++ digT r1) :: ((txtT l1 ++ txtT r1) ++ R)) ((head x1 ++ digT l1 ++ digT r2) :: ((txtT l1 ++ txtT r2) ++ S)) = _
          rw [← er]
          have := dif_same ((head x1 ++ digT l1 ++ digT r1) :: txtT l1) (txtT r1 ++ R) (txtT r2 ++ S)
          rw [← e1, ← this]
          simp [List.append_assoc]
      · right
        refine ⟨x, y, ?_, e2, e3⟩
        show dif ((head x1 ++ digT l1 ++ digT r1) :: ((txtT l1 ++ txtT r1) ++ R)) ((head x1 ++ digT l2 ++ digT r2) :: ((txtT l2 ++ txtT r2) ++ S)) = _
        rw [← ht]
        have := dif_same [head x1 ++ digT l1 ++ digT r1] (txtT l1 ++ (txtT r1 ++ R)) (txtT l2 ++ (txtT r2 ++ S))
        rw [← e1, ← this]
        simp [List.append_assoc]
    · right
      exact ⟨_, _, dif_head _ _ ht, ht, h⟩
theorem dif_swap : ∀ (A B : List ByteArray), dif B A = (dif A B).map fun p => (p.2, p.1)
  | [], [] => rfl
  | [], _ :: _ => rfl
  | _ :: _, [] => rfl
  | a :: A, b :: B => by
    show (if beq b a then dif B A else some (b, a)) = (if beq a b then dif A B else some (a, b)).map _
    by_cases h : a = b
    · subst h
      rw [if_pos (beq_iff.2 rfl), if_pos (beq_iff.2 rfl)]
      exact dif_swap A B
    · rw [if_neg (by simp [beq_false.2 (Ne.symm h)]), if_neg (by simp [beq_false.2 h])]
      rfl
theorem dif_self (A : List ByteArray) : dif A A = none := by
  have := dif_same A [] []
  simpa [dif] using this
/-- What Extract says of two answers of one digest. -/
theorem sound_plain (lo hi : ByteArray) (t1 t2 : AT) (o1 : okA t1) (o2 : okA t2) (h1 : okT lo hi t1 e0 e0 = true) (h2 : okT lo hi t2 e0 e0 = true) (hd : digT t1 = digT t2) :
    (difT t1 t2 = none ∧ difT t2 t1 = none ∧ t1 = t2) ∨ ∃ x y, difT t1 t2 = some (x, y) ∧ difT t2 t1 = some (y, x) ∧ x ≠ y ∧ Sm.sum x = Sm.sum y := by
  rcases two_answers lo hi t1 t2 e0 e0 o1 o2 h1 h2 hd [] [] with rfl | ⟨x, y, e1, e2, e3⟩
  · exact .inl ⟨dif_self _, dif_self _, rfl⟩
  · right
    rw [List.append_nil, List.append_nil] at e1
    refine ⟨x, y, e1, ?_, e2, e3⟩
    unfold difT
    rw [dif_swap, e1]
    rfl
end Go.Proofs.YtjohkmkgmbihkaaDoor

namespace Go.Proofs.YtjohkmkgmbihkaaDoor
set_option linter.unusedVariables false
open Go.ChangeShapes Go.WideShapes Go.ChangeAt Go.RowKit
/-- The texts at the first difference; two that are the same: there is none. -/
def difR : AT → AT → ByteArray × ByteArray
  | .alone _, .alone _ => (⟨#[]⟩, ⟨#[]⟩)
  | .node x l r, .node y l' r' => if beq (topT (.node x l r)) (topT (.node y l' r')) then (if beq (difR l l').1 (difR l l').2 then difR r r' else difR l l') else (topT (.node x l r), topT (.node y l' r'))
  | .empty, .empty => (⟨#[]⟩, ⟨#[]⟩)
  | t1, t2 => (topT t1, topT t2)
theorem difR_spec (lo hi : ByteArray) : ∀ (t1 t2 : AT) (a b : ByteArray), okA t1 → okA t2 → okT lo hi t1 a b = true → okT lo hi t2 a b = true → ∀ R S : List ByteArray,
    ((difR t1 t2).1 ≠ (difR t1 t2).2 ∧ dif (txtT t1 ++ R) (txtT t2 ++ S) = some (difR t1 t2)) ∨ ((difR t1 t2).1 = (difR t1 t2).2 ∧ dif (txtT t1 ++ R) (txtT t2 ++ S) = dif R S)
  | .alone d1, .alone d2, a, b, _, _, _, _, R, S => .inr ⟨rfl, rfl⟩
  | .empty, .empty, a, b, _, _, _, _, R, S => .inr ⟨rfl, dif_same [tE] R S⟩
  | .alone d1, .empty, a, b, _, _, h1, h2, R, S => by
    simp only [okT] at h1 h2
    rw [h2] at h1
    simp at h1
  | .empty, .alone d2, a, b, _, _, h1, h2, R, S => by
    simp only [okT] at h1 h2
    rw [h1] at h2
    simp at h2
  | .alone d1, .node x l r, a, b, _, _, h1, h2, R, S => by
    simp only [okT, Bool.and_eq_true] at h1 h2
    rw [h2.1.1.1] at h1
    simp at h1
  | .node x l r, .alone d2, a, b, _, _, h1, h2, R, S => by
    simp only [okT, Bool.and_eq_true] at h1 h2
    rw [h1.1.1.1] at h2
    simp at h2
  | .empty, .node x l r, a, b, _, _, _, _, R, S => .inl ⟨Ne.symm (node_ne_E x (digT l) (digT r)), dif_head _ _ (Ne.symm (node_ne_E x (digT l) (digT r)))⟩
  | .node x l r, .empty, a, b, _, _, _, _, R, S => .inl ⟨node_ne_E x (digT l) (digT r), dif_head _ _ (node_ne_E x (digT l) (digT r))⟩
  | .node x1 l1 r1, .node x2 l2 r2, a, b, o1, o2, h1, h2, R, S => by
    by_cases ht : head x1 ++ digT l1 ++ digT r1 = head x2 ++ digT l2 ++ digT r2
    · obtain ⟨rfl, el, er⟩ := text_inj o1.1 o2.1 (digT_size o1.2.1) (digT_size o2.2.1) ht
      have hb : beq (topT (.node x1 l1 r1)) (topT (.node x1 l2 r2)) = true := beq_iff.2 ht
      simp only [okT, Bool.and_eq_true] at h1 h2
      have i1 := difR_spec lo hi l1 l2 a x1.key o1.2.1 o2.2.1 h1.1.2 h2.1.2 (txtT r1 ++ R) (txtT r2 ++ S)
      have i2 := difR_spec lo hi r1 r2 x1.key b o1.2.2 o2.2.2 h1.2 h2.2 R S
      have e : dif (txtT (.node x1 l1 r1) ++ R) (txtT (.node x1 l2 r2) ++ S) = dif (txtT l1 ++ (txtT r1 ++ R)) (txtT l2 ++ (txtT r2 ++ S)) := by
        show dif ((head x1 ++ digT l1 ++ digT r1) :: ((txtT l1 ++ txtT r1) ++ R)) ((head x1 ++ digT l2 ++ digT r2) :: ((txtT l2 ++ txtT r2) ++ S)) = _
        rw [← ht]
        have := dif_same [head x1 ++ digT l1 ++ digT r1] (txtT l1 ++ (txtT r1 ++ R)) (txtT l2 ++ (txtT r2 ++ S))
        rw [← this]
        simp [List.append_assoc]
      rw [e]
      unfold difR
      rw [if_pos hb]
      rcases i1 with ⟨n1, q1⟩ | ⟨n1, q1⟩
      · rw [if_neg (by simp [beq_false.2 n1])]
        exact .inl ⟨n1, q1⟩
      · rw [if_pos (beq_iff.2 n1), q1]
        exact i2
    · have hb : beq (topT (.node x1 l1 r1)) (topT (.node x2 l2 r2)) = false := beq_false.2 ht
      unfold difR
      rw [if_neg (by simp [hb])]
      exact .inl ⟨ht, dif_head _ _ ht⟩
def rDifSaid (lo hi : ByteArray) (t1 : AT) : Prop := ∀ (t2 : AT) (low high : ByteArray) (w0 w1 u0 u1 w : World) (a b : Nat) (v1 v2 : Value) (T1 T2 : List TR) (n1 p1 n2 p2 i k : Nat) (s1 s2 : ByteArray),
  okA t1 → okA t2 → okT lo hi t1 low high = true → okT lo hi t2 low high = true → An w0 w1 w a v1 T1 n1 p1 s1 → Hold T1 t1 i → T1.length ≤ 1000 → An u0 u1 w b v2 T2 n2 p2 s2 → Hold T2 t2 k → T2.length ≤ 1000 →
  Calls Tryd.prog 10 #[.pointer (some ⟨a, 0, none⟩), .int .i64 i, .pointer (some ⟨b, 0, none⟩), .int .i64 k] w fun e w' => e = .returned (.tuple #[.string (difR t1 t2).1, .string (difR t1 t2).2]) ∧ Ext w w'
set_option maxHeartbeats 4000000 in
set_option maxRecDepth 100000 in
theorem rdif_S (lo hi d : ByteArray) : rDifSaid lo hi (.alone d) := by
  intro t2 low high w0 w1 u0 u1 w a b v1 v2 T1 T2 n1 p1 n2 p2 i k s1 s2 o1 o2 h1 h2 hA hH1 hT1 hB hH2 hT2
  cases t2 with
  | empty =>
    simp only [okT] at h1 h2
    rw [h2] at h1
    simp at h1
  | node x l r =>
    simp only [okT, Bool.and_eq_true] at h1 h2
    rw [h2.1.1.1] at h1
    simp at h1
  | alone d2 =>
    obtain ⟨x, hx, hco⟩ := hH1
    obtain ⟨y, hy, hco2⟩ := hH2
    obtain ⟨ahi, axe⟩ := List.getElem?_eq_some_iff.1 hx
    obtain ⟨ag, ac, aev, _, _, _⟩ := hA.blk (by omega)
    subst aev
    obtain ⟨_, _, aee, ac1, ac2⟩ := hA.shape
    simp only [Value.slice.injEq] at aee
    obtain ⟨-, -, rfl⟩ := aee
    have ak : x.kind = 83 := congrArg TR.kind hco
    have aq0 := hA.at9 ahi (j := 0) (u := .int .u8 83) (by omega) (by rw [axe]; show some (Value.int .u8 (x.kind : Int)) = _; rw [ak]; rfl)
    have aq5 := hA.at9 ahi (j := 5) (u := .int .i64 x.l) (by omega) (by rw [axe]; rfl)
    have aq6 := hA.at9 ahi (j := 6) (u := .int .i64 x.r) (by omega) (by rw [axe]; rfl)
    rw [Nat.add_zero] at aq0
    have ac0 := hA.c0
    have aHA := hid hA
    clear hx axe ak
    obtain ⟨bhi, bxe⟩ := List.getElem?_eq_some_iff.1 hy
    obtain ⟨bg, bc, bev, _, _, _⟩ := hB.blk (by omega)
    subst bev
    obtain ⟨_, _, bee, bc1, bc2⟩ := hB.shape
    simp only [Value.slice.injEq] at bee
    obtain ⟨-, -, rfl⟩ := bee
    have bk : y.kind = 83 := congrArg TR.kind hco2
    have bq0 := hB.at9 bhi (j := 0) (u := .int .u8 83) (by omega) (by rw [bxe]; show some (Value.int .u8 (y.kind : Int)) = _; rw [bk]; rfl)
    have bq5 := hB.at9 bhi (j := 5) (u := .int .i64 y.l) (by omega) (by rw [bxe]; rfl)
    have bq6 := hB.at9 bhi (j := 6) (u := .int .i64 y.r) (by omega) (by rw [bxe]; rfl)
    rw [Nat.add_zero] at bq0
    have bc0 := hB.c0
    have bHA := hid hB
    clear hy bxe bk
    go_enter Tryd.func10, Tryd.ntmps10
    go_wp2_with fail
    go_ret2
    exact ⟨rfl, Ext.refl _⟩
set_option maxHeartbeats 4000000 in
set_option maxRecDepth 100000 in
theorem rdif_E (lo hi : ByteArray) : rDifSaid lo hi .empty := by
  intro t2 low high w0 w1 u0 u1 w a b v1 v2 T1 T2 n1 p1 n2 p2 i k s1 s2 o1 o2 h1 h2 hA hH1 hT1 hB hH2 hT2
  cases t2 with
  | alone d =>
    simp only [okT] at h1 h2
    rw [h1] at h2
    simp at h2
  | empty =>
    have HH1 := hid hH1
    have HH2 := hid hH2
    obtain ⟨x, hx, hco⟩ := hH1
    obtain ⟨y, hy, hco2⟩ := hH2
    obtain ⟨ahi, axe⟩ := List.getElem?_eq_some_iff.1 hx
    obtain ⟨ag, ac, aev, _, _, _⟩ := hA.blk (by omega)
    subst aev
    obtain ⟨_, _, aee, ac1, ac2⟩ := hA.shape
    simp only [Value.slice.injEq] at aee
    obtain ⟨-, -, rfl⟩ := aee
    have ak : x.kind = 69 := congrArg TR.kind hco
    have aq0 := hA.at9 ahi (j := 0) (u := .int .u8 69) (by omega) (by rw [axe]; show some (Value.int .u8 (x.kind : Int)) = _; rw [ak]; rfl)
    have aq5 := hA.at9 ahi (j := 5) (u := .int .i64 x.l) (by omega) (by rw [axe]; rfl)
    have aq6 := hA.at9 ahi (j := 6) (u := .int .i64 x.r) (by omega) (by rw [axe]; rfl)
    rw [Nat.add_zero] at aq0
    have ac0 := hA.c0
    have aHA := hid hA
    clear hx axe ak
    obtain ⟨bhi, bxe⟩ := List.getElem?_eq_some_iff.1 hy
    obtain ⟨bg, bc, bev, _, _, _⟩ := hB.blk (by omega)
    subst bev
    obtain ⟨_, _, bee, bc1, bc2⟩ := hB.shape
    simp only [Value.slice.injEq] at bee
    obtain ⟨-, -, rfl⟩ := bee
    have bk : y.kind = 69 := congrArg TR.kind hco2
    have bq0 := hB.at9 bhi (j := 0) (u := .int .u8 69) (by omega) (by rw [bxe]; show some (Value.int .u8 (y.kind : Int)) = _; rw [bk]; rfl)
    have bq5 := hB.at9 bhi (j := 5) (u := .int .i64 y.l) (by omega) (by rw [bxe]; rfl)
    have bq6 := hB.at9 bhi (j := 6) (u := .int .i64 y.r) (by omega) (by rw [bxe]; rfl)
    rw [Nat.add_zero] at bq0
    have bc0 := hB.c0
    have bHA := hid hB
    clear hy bxe bk
    have X1 := hid (fun (w' : World) (hx : Ext w w') => rtext_all w0 .empty o1 (fun d h => by cases h) w1 w' a _ T1 n1 p1 i s1 (aHA.out.next hx) HH1.out hT1)
    have X2 := hid (fun (w' : World) (hx : Ext w w') => rtext_all u0 .empty o2 (fun d h => by cases h) u1 w' b _ T2 n2 p2 k s2 (bHA.out.next hx) HH2.out hT2)
    rw [show topT AT.empty = ⟨#[69]⟩ from rfl] at X1 X2
    go_enter Tryd.func10, Tryd.ntmps10
    go_wp2_with fail
    refine (X1.out _ (by first | exact Ext.refl _ | exact (Ext.refl _).drewN _)).mono ?_
    rintro e w3 ⟨rfl, hx3⟩
    have HX3 := hid (show Ext w w3 from Ext.trans (by first | exact Ext.refl _ | exact (Ext.refl _).drewN _) hx3)
    clear hx3
    go_wp2_with fail
    refine (X2.out _ HX3.out).mono ?_
    rintro e w4 ⟨rfl, hx4⟩
    have HX4 := hid (HX3.out.trans hx4)
    clear hx4
    go_wp2_with fail
    go_ret2
    exact ⟨rfl, HX4.out⟩
  | node y0 l r =>
    have HH1 := hid hH1
    have HH2 := hid hH2
    obtain ⟨x, hx, hco⟩ := hH1
    obtain ⟨y, hy, hco2, hol2, hor2⟩ := hH2
    obtain ⟨ahi, axe⟩ := List.getElem?_eq_some_iff.1 hx
    obtain ⟨ag, ac, aev, _, _, _⟩ := hA.blk (by omega)
    subst aev
    obtain ⟨_, _, aee, ac1, ac2⟩ := hA.shape
    simp only [Value.slice.injEq] at aee
    obtain ⟨-, -, rfl⟩ := aee
    have ak : x.kind = 69 := congrArg TR.kind hco
    have aq0 := hA.at9 ahi (j := 0) (u := .int .u8 69) (by omega) (by rw [axe]; show some (Value.int .u8 (x.kind : Int)) = _; rw [ak]; rfl)
    have aq5 := hA.at9 ahi (j := 5) (u := .int .i64 x.l) (by omega) (by rw [axe]; rfl)
    have aq6 := hA.at9 ahi (j := 6) (u := .int .i64 x.r) (by omega) (by rw [axe]; rfl)
    rw [Nat.add_zero] at aq0
    have ac0 := hA.c0
    have aHA := hid hA
    clear hx axe ak
    obtain ⟨bhi, bxe⟩ := List.getElem?_eq_some_iff.1 hy
    obtain ⟨bg, bc, bev, _, _, _⟩ := hB.blk (by omega)
    subst bev
    obtain ⟨_, _, bee, bc1, bc2⟩ := hB.shape
    simp only [Value.slice.injEq] at bee
    obtain ⟨-, -, rfl⟩ := bee
    have bk : y.kind = 78 := congrArg TR.kind hco2
    have bq0 := hB.at9 bhi (j := 0) (u := .int .u8 78) (by omega) (by rw [bxe]; show some (Value.int .u8 (y.kind : Int)) = _; rw [bk]; rfl)
    have bq5 := hB.at9 bhi (j := 5) (u := .int .i64 y.l) (by omega) (by rw [bxe]; rfl)
    have bq6 := hB.at9 bhi (j := 6) (u := .int .i64 y.r) (by omega) (by rw [bxe]; rfl)
    rw [Nat.add_zero] at bq0
    have bc0 := hB.c0
    have bHA := hid hB
    clear hy bxe bk
    have X1 := hid (fun (w' : World) (hx : Ext w w') => rtext_all w0 .empty o1 (fun d h => by cases h) w1 w' a _ T1 n1 p1 i s1 (aHA.out.next hx) HH1.out hT1)
    have X2 := hid (fun (w' : World) (hx : Ext w w') => rtext_all u0 (.node y0 l r) o2 (fun d h => by cases h) u1 w' b _ T2 n2 p2 k s2 (bHA.out.next hx) HH2.out hT2)
    have HDF := hid (show difR .empty (.node y0 l r) = (topT .empty, topT (.node y0 l r)) from rfl)
    have hne : topT .empty ≠ topT (.node y0 l r) := Ne.symm (node_ne_E y0 (digT l) (digT r))
    generalize topT AT.empty = XT at *
    generalize topT (AT.node y0 l r) = YT at *
    have hbb : (XT.toList == YT.toList) = false := beq_false.2 hne
    clear hne
    go_enter Tryd.func10, Tryd.ntmps10
    go_wp2_with fail
    refine (X1.out _ (by first | exact Ext.refl _ | exact (Ext.refl _).drewN _)).mono ?_
    rintro e w3 ⟨rfl, hx3⟩
    have HX3 := hid (show Ext w w3 from Ext.trans (by first | exact Ext.refl _ | exact (Ext.refl _).drewN _) hx3)
    clear hx3
    go_wp2_with fail
    refine (X2.out _ HX3.out).mono ?_
    rintro e w4 ⟨rfl, hx4⟩
    have HX4 := hid (HX3.out.trans hx4)
    clear hx4
    go_wp2_with fail
    go_ret2
    rw [HDF.out]
    exact ⟨rfl, HX4.out⟩
set_option maxHeartbeats 4000000 in
set_option maxRecDepth 100000 in
theorem rdif_N (lo hi : ByteArray) (x0 : It) (l0 r0 : AT) (ihl : rDifSaid lo hi l0) (ihr : rDifSaid lo hi r0) : rDifSaid lo hi (.node x0 l0 r0) := by
  intro t2 low high w0 w1 u0 u1 w a b v1 v2 T1 T2 n1 p1 n2 p2 i k s1 s2 o1 o2 h1 h2 hA hH1 hT1 hB hH2 hT2
  cases t2 with
  | alone d =>
    simp only [okT, Bool.and_eq_true] at h1 h2
    rw [h1.1.1.1] at h2
    simp at h2
  | empty =>
    have HH1 := hid hH1
    have HH2 := hid hH2
    obtain ⟨x, hx, hco, hol, hor⟩ := hH1
    obtain ⟨y, hy, hco2⟩ := hH2
    obtain ⟨ahi, axe⟩ := List.getElem?_eq_some_iff.1 hx
    obtain ⟨ag, ac, aev, _, _, _⟩ := hA.blk (by omega)
    subst aev
    obtain ⟨_, _, aee, ac1, ac2⟩ := hA.shape
    simp only [Value.slice.injEq] at aee
    obtain ⟨-, -, rfl⟩ := aee
    have ak : x.kind = 78 := congrArg TR.kind hco
    have aq0 := hA.at9 ahi (j := 0) (u := .int .u8 78) (by omega) (by rw [axe]; show some (Value.int .u8 (x.kind : Int)) = _; rw [ak]; rfl)
    have aq5 := hA.at9 ahi (j := 5) (u := .int .i64 x.l) (by omega) (by rw [axe]; rfl)
    have aq6 := hA.at9 ahi (j := 6) (u := .int .i64 x.r) (by omega) (by rw [axe]; rfl)
    rw [Nat.add_zero] at aq0
    have ac0 := hA.c0
    have aHA := hid hA
    clear hx axe ak
    obtain ⟨bhi, bxe⟩ := List.getElem?_eq_some_iff.1 hy
    obtain ⟨bg, bc, bev, _, _, _⟩ := hB.blk (by omega)
    subst bev
    obtain ⟨_, _, bee, bc1, bc2⟩ := hB.shape
    simp only [Value.slice.injEq] at bee
    obtain ⟨-, -, rfl⟩ := bee
    have bk : y.kind = 69 := congrArg TR.kind hco2
    have bq0 := hB.at9 bhi (j := 0) (u := .int .u8 69) (by omega) (by rw [bxe]; show some (Value.int .u8 (y.kind : Int)) = _; rw [bk]; rfl)
    have bq5 := hB.at9 bhi (j := 5) (u := .int .i64 y.l) (by omega) (by rw [bxe]; rfl)
    have bq6 := hB.at9 bhi (j := 6) (u := .int .i64 y.r) (by omega) (by rw [bxe]; rfl)
    rw [Nat.add_zero] at bq0
    have bc0 := hB.c0
    have bHA := hid hB
    clear hy bxe bk
    have X1 := hid (fun (w' : World) (hx : Ext w w') => rtext_all w0 (.node x0 l0 r0) o1 (fun d h => by cases h) w1 w' a _ T1 n1 p1 i s1 (aHA.out.next hx) HH1.out hT1)
    have X2 := hid (fun (w' : World) (hx : Ext w w') => rtext_all u0 .empty o2 (fun d h => by cases h) u1 w' b _ T2 n2 p2 k s2 (bHA.out.next hx) HH2.out hT2)
    have HDF := hid (show difR (.node x0 l0 r0) .empty = (topT (.node x0 l0 r0), topT .empty) from rfl)
    have hne : topT (.node x0 l0 r0) ≠ topT .empty := node_ne_E x0 (digT l0) (digT r0)
    generalize topT AT.empty = YT at *
    generalize topT (AT.node x0 l0 r0) = XT at *
    have hbb : (XT.toList == YT.toList) = false := beq_false.2 hne
    clear hne
    go_enter Tryd.func10, Tryd.ntmps10
    go_wp2_with fail
    refine (X1.out _ (by first | exact Ext.refl _ | exact (Ext.refl _).drewN _)).mono ?_
    rintro e w3 ⟨rfl, hx3⟩
    have HX3 := hid (show Ext w w3 from Ext.trans (by first | exact Ext.refl _ | exact (Ext.refl _).drewN _) hx3)
    clear hx3
    go_wp2_with fail
    refine (X2.out _ HX3.out).mono ?_
    rintro e w4 ⟨rfl, hx4⟩
    have HX4 := hid (HX3.out.trans hx4)
    clear hx4
    go_wp2_with fail
    go_ret2
    rw [HDF.out]
    exact ⟨rfl, HX4.out⟩
  | node y0 l r =>
    have HH1 := hid hH1
    have HH2 := hid hH2
    obtain ⟨x, hx, hco, hol, hor⟩ := hH1
    obtain ⟨y, hy, hco2, hol2, hor2⟩ := hH2
    obtain ⟨ahi, axe⟩ := List.getElem?_eq_some_iff.1 hx
    obtain ⟨ag, ac, aev, _, _, _⟩ := hA.blk (by omega)
    subst aev
    obtain ⟨_, _, aee, ac1, ac2⟩ := hA.shape
    simp only [Value.slice.injEq] at aee
    obtain ⟨-, -, rfl⟩ := aee
    have ak : x.kind = 78 := congrArg TR.kind hco
    have aq0 := hA.at9 ahi (j := 0) (u := .int .u8 78) (by omega) (by rw [axe]; show some (Value.int .u8 (x.kind : Int)) = _; rw [ak]; rfl)
    have aq5 := hA.at9 ahi (j := 5) (u := .int .i64 x.l) (by omega) (by rw [axe]; rfl)
    have aq6 := hA.at9 ahi (j := 6) (u := .int .i64 x.r) (by omega) (by rw [axe]; rfl)
    rw [Nat.add_zero] at aq0
    have ac0 := hA.c0
    have aHA := hid hA
    clear hx axe ak
    obtain ⟨bhi, bxe⟩ := List.getElem?_eq_some_iff.1 hy
    obtain ⟨bg, bc, bev, _, _, _⟩ := hB.blk (by omega)
    subst bev
    obtain ⟨_, _, bee, bc1, bc2⟩ := hB.shape
    simp only [Value.slice.injEq] at bee
    obtain ⟨-, -, rfl⟩ := bee
    have bk : y.kind = 78 := congrArg TR.kind hco2
    have bq0 := hB.at9 bhi (j := 0) (u := .int .u8 78) (by omega) (by rw [bxe]; show some (Value.int .u8 (y.kind : Int)) = _; rw [bk]; rfl)
    have bq5 := hB.at9 bhi (j := 5) (u := .int .i64 y.l) (by omega) (by rw [bxe]; rfl)
    have bq6 := hB.at9 bhi (j := 6) (u := .int .i64 y.r) (by omega) (by rw [bxe]; rfl)
    rw [Nat.add_zero] at bq0
    have bc0 := hB.c0
    have bHA := hid hB
    clear hy bxe bk
    have X1 := hid (fun (w' : World) (hx : Ext w w') => rtext_all w0 (.node x0 l0 r0) o1 (fun d h => by cases h) w1 w' a _ T1 n1 p1 i s1 (aHA.out.next hx) HH1.out hT1)
    have X2 := hid (fun (w' : World) (hx : Ext w w') => rtext_all u0 (.node y0 l r) o2 (fun d h => by cases h) u1 w' b _ T2 n2 p2 k s2 (bHA.out.next hx) HH2.out hT2)
    by_cases ht : topT (.node x0 l0 r0) = topT (.node y0 l r)
    · obtain ⟨rfl, el, er⟩ := text_inj o1.1 o2.1 (digT_size o1.2.1) (digT_size o2.2.1) ht
      have hbt : beq (topT (.node x0 l0 r0)) (topT (.node x0 l r)) = true := beq_iff.2 ht
      have hne : topT (.node x0 l0 r0) ≠ tE := node_ne_E x0 (digT l0) (digT r0)
      simp only [okT, Bool.and_eq_true] at h1 h2
      have C1 := hid (fun (w' : World) (hx : Ext w w') => ihl l low x0.key w0 w1 u0 u1 w' a b _ _ T1 T2 n1 p1 n2 p2 x.l y.l s1 s2 o1.2.1 o2.2.1 h1.1.2 h2.1.2 (aHA.out.next hx) hol hT1 (bHA.out.next hx) hol2 hT2)
      have C2 := hid (fun (w' : World) (hx : Ext w w') => ihr r x0.key high w0 w1 u0 u1 w' a b _ _ T1 T2 n1 p1 n2 p2 x.r y.r s1 s2 o1.2.2 o2.2.2 h1.2 h2.2 (aHA.out.next hx) hor hT1 (bHA.out.next hx) hor2 hT2)
      have HDF := hid (show difR (.node x0 l0 r0) (.node x0 l r) = if beq (difR l0 l).1 (difR l0 l).2 then difR r0 r else difR l0 l by
        conv => lhs; unfold difR
        rw [if_pos hbt])
      rw [← ht] at X2
      generalize topT (AT.node x0 l0 r0) = XT at *
      have hE : ¬ XT.toList = [69] := by
        intro e
        apply hne
        apply toList_inj
        rw [e, ByteArray.toList_eq]
        rfl
      have hE2 : (XT.toList == [69]) = false := by simpa using hE
      have hbb : (XT.toList == XT.toList) = true := by simp
      clear ihl ihr hol hor hol2 hor2 h1 h2 hbt hne ht el er hco hco2 o1 o2
      generalize difR l0 l = PL at *
      generalize difR r0 r = PR at *
      obtain ⟨P1, P2⟩ := PL
      obtain ⟨R1, R2⟩ := PR
      go_enter Tryd.func10, Tryd.ntmps10
      go_wp2_with fail
      refine (X1.out _ (by first | exact Ext.refl _ | exact (Ext.refl _).drewN _)).mono ?_
      rintro e w3 ⟨rfl, hx3⟩
      have HX3 := hid (show Ext w w3 from Ext.trans (by first | exact Ext.refl _ | exact (Ext.refl _).drewN _) hx3)
      clear hx3
      go_wp2_with fail
      refine (X2.out _ HX3.out).mono ?_
      rintro e w4 ⟨rfl, hx4⟩
      have HX4 := hid (HX3.out.trans hx4)
      clear hx4
      have A0 := HX4.out.keep1 ac0
      have A5 := HX4.out.keep1 aq5
      have A6 := HX4.out.keep1 aq6
      have B0 := HX4.out.keep1 bc0
      have B5 := HX4.out.keep1 bq5
      have B6 := HX4.out.keep1 bq6
      go_wp2_with fail
      go_region_held3 (fun w' => w'.cell? ⟨a, 0, none⟩ = some (.slice (some ⟨ag, 0, none⟩) T1.length ac) ∧ w'.cell? ⟨ag, i * 9 + 5, none⟩ = some (.int .i64 x.l) ∧ w'.cell? ⟨b, 0, none⟩ = some (.slice (some ⟨bg, 0, none⟩) T2.length bc) ∧ w'.cell? ⟨bg, k * 9 + 5, none⟩ = some (.int .i64 y.l)) (go_keep)
        (first
          | (go_at_call 10; refine (C1.out _ (by first | exact HX4.out | exact HX4.out.drew | exact HX4.out.drewN _)).mono ?_; rintro e w5 ⟨rfl, hx5⟩; have hy5 : Ext w w5 := Ext.trans (by first | exact HX4.out | exact HX4.out.drew | exact HX4.out.drewN _) hx5; have k0 := hy5.keep1 ac0; have k5 := hy5.keep1 aq5; have k6 := hy5.keep1 aq6; have j0 := hy5.keep1 bc0; have j5 := hy5.keep1 bq5; have j6 := hy5.keep1 bq6; clear hx5))
      all_goals
        have HY5 := hid hy5
        clear hy5 A0 A5 A6 B0 B5 B6
        replace HDF : Hid (difR (.node x0 l0 r0) (.node x0 l r) = if beq P1 P2 then (R1, R2) else (P1, P2)) := HDF
        cases hbq : beq P1 P2 with
        | false =>
          have hb2 : (P1.toList == P2.toList) = false := hbq
          rw [hbq] at HDF
          clear hbq
          go_wp2_with fail
          go_ret2
          rw [HDF.out]
          exact ⟨rfl, HY5.out⟩
        | true =>
          have hb2 : (P1.toList == P2.toList) = true := hbq
          rw [hbq] at HDF
          clear hbq
          go_wp2_with fail
          go_region_held3 (fun w' => w'.cell? ⟨a, 0, none⟩ = some (.slice (some ⟨ag, 0, none⟩) T1.length ac) ∧ w'.cell? ⟨ag, i * 9 + 6, none⟩ = some (.int .i64 x.r) ∧ w'.cell? ⟨b, 0, none⟩ = some (.slice (some ⟨bg, 0, none⟩) T2.length bc) ∧ w'.cell? ⟨bg, k * 9 + 6, none⟩ = some (.int .i64 y.r)) (go_keep)
            (first
              | (go_at_call 10; refine (C2.out _ (by first | exact HY5.out | exact HY5.out.drew | exact HY5.out.drewN _)).mono ?_; rintro e w6 ⟨rfl, hx6⟩; have hy6 : Ext w w6 := Ext.trans (by first | exact HY5.out | exact HY5.out.drew | exact HY5.out.drewN _) hx6; have o0 := hy6.keep1 ac0; have o5 := hy6.keep1 aq5; have o6 := hy6.keep1 aq6; have q0 := hy6.keep1 bc0; have q5 := hy6.keep1 bq5; have q6 := hy6.keep1 bq6; clear hx6))
          all_goals
            go_wp2_with fail
            go_ret2
            rw [HDF.out]
            exact ⟨rfl, hy6⟩
    · have hbt : beq (topT (.node x0 l0 r0)) (topT (.node y0 l r)) = false := beq_false.2 ht
      have HDF := hid (show difR (.node x0 l0 r0) (.node y0 l r) = (topT (.node x0 l0 r0), topT (.node y0 l r)) by
        conv => lhs; unfold difR
        rw [if_neg (by simp [hbt])])
      generalize topT (AT.node x0 l0 r0) = XT at *
      generalize topT (AT.node y0 l r) = YT at *
      have hbb : (XT.toList == YT.toList) = false := hbt
      clear hbt ht
      go_enter Tryd.func10, Tryd.ntmps10
      go_wp2_with fail
      refine (X1.out _ (by first | exact Ext.refl _ | exact (Ext.refl _).drewN _)).mono ?_
      rintro e w3 ⟨rfl, hx3⟩
      have HX3 := hid (show Ext w w3 from Ext.trans (by first | exact Ext.refl _ | exact (Ext.refl _).drewN _) hx3)
      clear hx3
      go_wp2_with fail
      refine (X2.out _ HX3.out).mono ?_
      rintro e w4 ⟨rfl, hx4⟩
      have HX4 := hid (HX3.out.trans hx4)
      clear hx4
      go_wp2_with fail
      go_ret2
      rw [HDF.out]
      exact ⟨rfl, HX4.out⟩
end Go.Proofs.YtjohkmkgmbihkaaDoor

namespace Go.Proofs.YtjohkmkgmbihkaaDoor
set_option linter.unusedVariables false
open Go.ChangeShapes Go.WideShapes Go.ChangeAt Go.RowKit
theorem rdif_any (lo hi : ByteArray) : ∀ t : AT, rDifSaid lo hi t
  | .empty => rdif_E lo hi
  | .alone d => rdif_S lo hi d
  | .node x l r => rdif_N lo hi x l r (rdif_any lo hi l) (rdif_any lo hi r)
set_option maxHeartbeats 4000000 in
set_option maxRecDepth 100000 in
theorem rExtract_any (lo hi s t : ByteArray) (hs : s.size ≤ 140737488351232) (ht : t.size ≤ 140737488351232) (w : World) :
    Calls Tryd.prog 5 #[.string lo, .string hi, .string s, .string t] w fun e w' => e = .returned (extV (extO lo hi s t)) ∧ Ext w w' := by
  have L1 := hid (rLook_any lo hi s hs w)
  have L2 := hid (fun (w' : World) => rLook_any lo hi t ht w')
  go_enter Tryd.func5, Tryd.ntmps5
  go_wp2_with fail
  refine L1.out.mono ?_
  intro e w2 hp
  rcases hp with ⟨hne, rfl, hx2⟩ | ⟨h0, t1, a, v, T, n, hrd, hok, rfl, hA, hco⟩
  · have HO := hid (show extO lo hi s t = (lookE lo hi s, e0, e0) by unfold extO; rw [if_pos hne])
    have HX := hid hx2
    have HN := hid hne
    clear hx2
    generalize lookE lo hi s = le at *
    go_wp2_with fail
    go_ret3
    rw [HO.out]
    exact ⟨rfl, HX.out⟩
  · have H0 := hid h0
    have HA := hid hA
    have HRD := hid hrd
    clear hA h0 hrd
    go_wp2_with fail
    refine (L2.out _).mono ?_
    intro e w3 hp
    rcases hp with ⟨hne, rfl, hx3⟩ | ⟨h02, t2, b, v2, T2, n2, hrd2, hok2, rfl, hB, hco2⟩
    · have HO := hid (show extO lo hi s t = (lookE lo hi t, e0, e0) by unfold extO; rw [if_neg (by simp [H0.out]), if_pos hne])
      have HX := hid (HA.out.ext.trans hx3)
      have HN := hid hne
      clear hx3
      generalize lookE lo hi t = le at *
      go_wp2_with fail
      go_ret3
      rw [HO.out]
      exact ⟨rfl, HX.out⟩
    · have oa1 := (rdA_gives HRD.out).1
      have oa2 := (rdA_gives hrd2).1
      have HO := hid (show extO lo hi s t = extD (beq (digT t1) (digT t2)) (difT t1 t2) by
        unfold extO
        rw [if_neg (by simp [H0.out]), if_neg (by simp [h02]), HRD.out, hrd2])
      have hl1 : T.length ≤ 1000 := by rw [core_len hco, lay_len]; have := rdA_sz HRD.out; omega
      have hl2 : T2.length ≤ 1000 := by rw [core_len hco2, lay_len]; have := rdA_sz hrd2; omega
      have HA3 := hid (HA.out.next hB.ext)
      have HB := hid hB
      have hsp := difR_spec lo hi t1 t2 e0 e0 oa1 oa2 hok hok2 [] []
      rw [List.append_nil, List.append_nil] at hsp
      have DF := hid (fun (w' : World) (hx : Ext w3 w') => rdif_any lo hi t1 t2 e0 e0 w w w2 w2 w' a b _ _ T T2 n s.size n2 t.size 0 0 s t oa1 oa2 hok hok2 (HA3.out.next hx) ((hold_lay t1).core hco) hl1 (HB.out.next hx) ((hold_lay t2).core hco2) hl2)
      clear hB hrd2 h02 oa1 oa2 hok hok2 hco hco2
      have HXW := hid (HA.out.ext.trans HB.out.ext)
      cases hbq : beq (digT t1) (digT t2) with
      | false =>
        rw [hbq] at HO
        have hbb : ((digT t1).toList == (digT t2).toList) = false := hbq
        clear hbq hsp
        generalize digT t1 = d1 at *
        generalize digT t2 = d2 at *
        go_wp2_with fail
        go_ret3
        rw [HO.out]
        exact ⟨rfl, HXW.out⟩
      | true =>
        rw [hbq] at HO
        have hbb : ((digT t1).toList == (digT t2).toList) = true := hbq
        clear hbq
        generalize digT t1 = d1 at *
        generalize digT t2 = d2 at *
        rcases hsp with ⟨hn, hq⟩ | ⟨hn, hq⟩
        · have HO2 := hid (show extO lo hi s t = (0, (difR t1 t2).1, (difR t1 t2).2) by rw [HO.out]; unfold difT; rw [hq]; rfl)
          have hb2 : ((difR t1 t2).1.toList == (difR t1 t2).2.toList) = false := beq_false.2 hn
          clear hq hn HO
          generalize difR t1 t2 = PP at *
          obtain ⟨P1, P2⟩ := PP
          simp only at hb2
          go_wp2_with fail
          refine (DF.out _ (Ext.refl _)).mono ?_
          rintro e w5 ⟨rfl, hx5⟩
          have HX5 := hid (HXW.out.trans hx5)
          clear hx5
          simp only
          go_wp2_with fail
          go_ret3
          rw [HO2.out]
          exact ⟨rfl, HX5.out⟩
        · have HO2 := hid (show extO lo hi s t = (10, e0, e0) by rw [HO.out]; unfold difT; rw [hq]; rfl)
          have hb2 : ((difR t1 t2).1.toList == (difR t1 t2).2.toList) = true := beq_iff.2 hn
          clear hq hn HO
          generalize difR t1 t2 = PP at *
          obtain ⟨P1, P2⟩ := PP
          simp only at hb2
          go_wp2_with fail
          refine (DF.out _ (Ext.refl _)).mono ?_
          rintro e w5 ⟨rfl, hx5⟩
          have HX5 := hid (HXW.out.trans hx5)
          clear hx5
          simp only
          go_wp2_with fail
          go_ret3
          rw [HO2.out]
          exact ⟨rfl, HX5.out⟩
/-- The two answers that must be told apart. -/
def exA : ByteArray := ⟨#[78, 1, 107, 2, 48, 5, 2, 83, 49, 52, 100, 83, 49, 52, 100]⟩
def exB : ByteArray := ⟨#[78, 1, 107, 2, 63, 153, 2, 83, 49, 52, 100, 83, 49, 52, 100]⟩
theorem ex_known : extO ⟨#[107]⟩ ⟨#[107]⟩ exA exB = (0, ⟨#[78, 1, 107, 2, 48, 5, 2, 49, 52, 100, 49, 52, 100]⟩, ⟨#[78, 1, 107, 2, 63, 153, 2, 49, 52, 100, 49, 52, 100]⟩) := by decide +kernel
set_option maxHeartbeats 4000000 in
set_option maxRecDepth 100000 in
theorem Extracted_any (lo hi s t : ByteArray) (hs : s.size ≤ 140737488351232) (ht : t.size ≤ 140737488351232) (w : World) (hg : ErrT w) :
    Calls Tryd.prog 3 #[.string lo, .string hi, .string s, .string t] w fun e w' => e = .returned (.bool true) ∧ Ext w w' := by
  have E0 := hid (Extract_any ⟨#[107]⟩ ⟨#[107]⟩ exA exB (by decide) (by decide) w hg)
  rw [ex_known] at E0
  have E1 := hid (fun (w' : World) (hx : Ext w w') => Extract_any lo hi s t (by omega) (by omega) w' (hg.ext hx))
  have E2 := hid (fun (w' : World) => rExtract_any lo hi s t hs ht w')
  generalize extO lo hi s t = o at *
  obtain ⟨z, x, y⟩ := o
  clear hg
  go_enter Tryd.func3, Tryd.ntmps3
  go_wp2_with fail
  refine E0.out.mono ?_
  rintro e w1 ⟨rfl, hx1⟩
  have HX1 := hid hx1
  clear hx1
  simp only [extV]
  go_wp2_with fail
  refine (E1.out _ HX1.out).mono ?_
  rintro e w2 ⟨rfl, hx2⟩
  have HX2 := hid (HX1.out.trans hx2)
  clear hx2
  simp only [extV]
  go_wp2_with fail
  refine (E2.out _).mono ?_
  rintro e w3 ⟨rfl, hx3⟩
  have HX3 := hid (HX2.out.trans hx3)
  clear hx3
  simp only [extV]
  go_wp2_with fail
  all_goals
    go_ret
    exact ⟨by first | rfl | simp, HX3.out⟩
end Go.Proofs.YtjohkmkgmbihkaaDoor

namespace Go.Proofs.YtjohkmkgmbihkaaDoor
set_option linter.unusedVariables false
open Go.ChangeShapes Go.WideShapes Go.ChangeAt Go.RowKit
namespace extractedc
open Go.ChangeMaps (open_string shut_string)
theorem laidOut : laidOutB Tryd.prog = true := by kernel_rfl

set_option maxRecDepth 100000 in
theorem contract (H : Type) (enc : TypeId × Value → H) (W : World) (base : Nat) (args : Array Value) (ds gs : List (DataW H)) (before : List MemPlace)
    (hval0 : ∀ (j : Nat) t v, Tryd.f3.params[j]? = some t → args[j]? = some v → Value.okWide Tryd.prog W .any base t v)
    (hW : DataW.Whole enc Tryd.prog Tryd.f3.params.toList Rows.extractedSpec.vars false W args.toList ds gs before) (hL : laidMetH Tryd.prog Rows.extractedRow.laid W)
    (hsz : (DataW.weightsEach Tryd.prog (Tryd.f3.params.toList ++ (OpenSpec.ofChange Rows.extractedSpec).bare.plain.varTypes Tryd.prog) (ds ++ gs)).all (· ≤ reachBytes) = true) :
    Calls Tryd.prog 3 args W fun e W' => ∃ v, e = .returned v ∧ Rows.extractedSpec.post enc Tryd.prog Tryd.f3 false true false false W args v W' := by
  have hval : ∀ (j : Nat) t v, Tryd.f3.params[j]? = some t → args[j]? = some v → Value.okWide Tryd.prog W .any base t v := hval0
  have hW' := hW
  obtain ⟨p, q, hA0, hV, rfl, hfz, hnd⟩ := hW
  have hA : DataW.TrodAll enc Tryd.prog W 0 (fun _ => true) true Tryd.f3.params.toList args.toList ds p := hA0
  rw [Tryd.params3] at hA hval
  obtain ⟨v0, vs0, d0, ds0, p0, q0, hargs, rfl, rfl, h0, r0⟩ := trodAll_cons hA
  obtain ⟨v1, vs1, d1, ds1, p1, q1, rfl, rfl, rfl, h1, r1⟩ := trodAll_cons r0
  obtain ⟨v2, vs2, d2, ds2, p2, q2, rfl, rfl, rfl, h2, r2⟩ := trodAll_cons r1
  obtain ⟨v3, vs3, d3, ds3, p3, q3, rfl, rfl, rfl, h3, r3⟩ := trodAll_cons r2
  obtain ⟨rfl, rfl, rfl⟩ := trodAll_nil r3
  obtain rfl : args = #[v0, v1, v2, v3] := by cases args; simp_all
  obtain ⟨rfl, rfl⟩ := trodVars_none hV
  obtain ⟨a0, rfl, rfl, rfl, w0⟩ := open_string Tryd.underlying9 (hval 0 9 v0 rfl rfl) h0
  obtain ⟨a1, rfl, rfl, rfl, w1⟩ := open_string Tryd.underlying9 (hval 1 9 v1 rfl rfl) h1
  obtain ⟨a2, rfl, rfl, rfl, w2⟩ := open_string Tryd.underlying9 (hval 2 9 v2 rfl rfl) h2
  obtain ⟨a3, rfl, rfl, rfl, w3⟩ := open_string Tryd.underlying9 (hval 3 9 v3 rfl rfl) h3
  clear hA0 hval0
  have hz : a3.size ≤ 140737488351232 := by
    have := sized_string hsz (j := 3) (t := 9) (bytes := a3.data.toList) (by kernel_rfl) rfl
    have e : a3.data.toList.length = a3.size := by simp
    rw [e] at this
    exact this
  have hz2 : a2.size ≤ 140737488351232 := by
    have := sized_string hsz (j := 2) (t := 9) (bytes := a2.data.toList) (by kernel_rfl) rfl
    have e : a2.data.toList.length = a2.size := by simp
    rw [e] at this
    exact this
  have hE : ErrT W := errT_of_laid hL
  have walk : Calls Tryd.prog 3 #[.string a0, .string a1, .string a2, .string a3] W fun e w' => e = .returned (.bool true) ∧ Ext W w' :=
    Extracted_any a0 a1 a2 a3 hz2 hz W hE
  refine walk.mono fun e W' ⟨he, bel⟩ => ?_
  subst he
  exact ⟨_, rfl, _, _, _, [], _, [], hW', trodAll_mk1 (shut_bool Tryd.underlying4 _), (trodAll_cons_mk (shut_string Tryd.underlying9 w0) (trodAll_cons_mk (shut_string Tryd.underlying9 w1) (trodAll_cons_mk (shut_string Tryd.underlying9 w2) (trodAll_cons_mk (shut_string Tryd.underlying9 w3) trodAll_mk0)))), rfl, bel.frame _, fun h => by cases h⟩

theorem laid_met (os : Os) : laidMetH Tryd.prog Rows.extractedRow.laid ((laidWorld os).forCall (fun _ _ => 0) ⟨#[], #[.string ByteArray.empty, .string ByteArray.empty, .string ByteArray.empty, .string ByteArray.empty], []⟩).memory :=
  laidMetH_of_parts (laidMet_nil _ _) (by kernel_rfl)
theorem reads (os : Os) {H : Type} (enc : TypeId × Value → H) : ∃ places, DataW.whole enc Tryd.prog ((laidWorld os).forCall (fun _ _ => 0) ⟨#[], #[.string ByteArray.empty, .string ByteArray.empty, .string ByteArray.empty, .string ByteArray.empty], []⟩).memory Tryd.f3.params.toList Rows.extractedSpec.vars false #[Value.string ByteArray.empty, .string ByteArray.empty, .string ByteArray.empty, .string ByteArray.empty].toList 8 = some ([.lit (.string []), .lit (.string []), .lit (.string []), .lit (.string [])], [], places) :=
  ⟨[], by kernel_rfl⟩

set_option maxRecDepth 100000 in
theorem lifted (os : Os) (started : os.Started) (H : Type) (enc : TypeId × Value → H) (F : Stop.Interp) :
    ReturnsInHanded {} Tryd.checked os 3 .any ((OpenSpec.ofChange Rows.extractedSpec).preRow enc Tryd.prog Tryd.f3 Rows.extractedRow.domain false Rows.extractedRow.laid) (((OpenSpec.ofChange Rows.extractedSpec).at F).post enc Tryd.prog Tryd.f3 false true false false) := by
  obtain ⟨places, hx⟩ := reads os enc
  refine returnsInHanded_of_row (C := Tryd.checked) (s := OpenSpec.ofChange Rows.extractedSpec) Tryd.own started (by kernel_rfl) Tryd.func3
    (witness_row_at (enc := enc) (C := Tryd.checked) false (laidWorld os) #[.string ByteArray.empty, .string ByteArray.empty, .string ByteArray.empty, .string ByteArray.empty] rfl (by kernel_rfl) (by kernel_rfl) (by kernel_rfl)
      (OpenSpec.preRow_of_cond 8 hx (by kernel_rfl) (fun k hk => by cases hk) (by kernel_rfl) (laid_met os))) ?_
  intro W base args ds gs before hval hW _ _ hsz hL _ _
  exact contract H enc W base args ds gs before hval hW hL hsz

theorem said : Rows.ExtractedSaid :=
  OpenClaim.holds_of_cond 3 Tryd.f3 rfl rfl rfl rfl rfl rfl rfl ⟨rfl, rfl, rfl, rfl, rfl⟩ rfl rfl rfl rfl rfl (by kernel_rfl) Tryd.func3 (by kernel_rfl)
    (of_decide_eq_true (by kernel_rfl)) (by unfold Func.isWrapper; first | (rw [if_pos (by decide +kernel)]; kernel_rfl) | (rw [if_neg (by decide +kernel)]; exact ⟨rfl, rfl⟩))
    (fun os started H enc _ F => by rw [OpenClaim.pre_eq_preRow]; exact lifted os started H enc F)

/-- No parameter wants a stand-in. -/
theorem plain (f : FuncId) (fn : Func) (hf : Tryd.pinned.checked.prog.funcNamed "attest/attestlaw.Extracted" = some f) (hfn : Tryd.pinned.checked.prog.funcs[f]? = some fn) :
    true = Tryd.pinned.checked.prog.looks [] ∧ ∀ (j : Nat) t, fn.params[j]? = some t → Tryd.pinned.checked.prog.wantsStandIn t = false := by
  obtain rfl : f = 3 := Option.some.inj ((show Tryd.prog.funcNamed "attest/attestlaw.Extracted" = some 3 by kernel_rfl).symm.trans hf) |>.symm
  obtain rfl : fn = Tryd.f3 := (Option.some.inj (Tryd.func3.symm.trans hfn)).symm
  refine ⟨by kernel_rfl, fun j t ht => ?_⟩
  rw [Tryd.params3] at ht
  have hm := Array.mem_of_getElem? ht
  have ht' : t = 9 := by
    simp at hm
    omega
  subst ht'
  exact (show Tryd.prog.wantsStandIn 9 = false by kernel_rfl)
end extractedc
/-- The statement. -/
theorem extracted_card : Rows.ExtractedCardSaid :=
  Claim7.holds_tied_plain_at .later [] _ _ _ _ extractedc.said (fun _ h => by cases h) (by kernel_rfl) (fun _ h => by cases h) extracted_row_tie rfl ⟨rfl, rfl⟩ (by kernel_rfl) rfl extractedc.plain (by kernel_rfl)
#print axioms extracted_card
end Go.Proofs.YtjohkmkgmbihkaaDoor
