/- For all scripts within the bulk: every New, Put, Delete, Get, All, Digest and Prove, and Check of the document's answers, on books beside one another, answers as the document's, and each list that came out stays as its owner left it; the variable that errors.As reads is tied to the program's text; nothing else is asked. -/
import Derived.Test.YtjohkmkgmbihkaaGreatDoorRkP
import Derived.Test.YtjohkmkgmbihkaaGreatDoorOverQ
import Derived.Test.YtjohkmkgmbihkaaGreatDoorKeepD
import Derived.Test.YtjohkmkgmbihkaaGreatDoorLawP
import Derived.Test.YtjohkmkgmbihkaaGreatDoorLaid
namespace Go.Proofs.YtjohkmkgmbihkaaGreatDoor
set_option linter.unusedVariables false
open Go.ChangeShapes Go.WideShapes Go.ChangeAt Go.RowKit
/-- A tree of the list but for its bounds. -/
def TR.core (x : TR) : TR := { x with low := ⟨#[]⟩, high := ⟨#[]⟩ }
/-- The list holds a tree at a place. -/
def Hold (T : List TR) : AT → Nat → Prop
  | .empty, i => ∃ x, T[i]? = some x ∧ x.core = tr0 69
  | .alone d, i => ∃ x, T[i]? = some x ∧ x.core = { tr0 83 with stub := d }
  | .node y l r, i => ∃ x, T[i]? = some x ∧ x.core = { tr0 78 with it := y, l := x.l, r := x.r } ∧ Hold T l x.l ∧ Hold T r x.r
theorem core_get {T T' : List TR} (e : T'.map TR.core = T.map TR.core) {i : Nat} {x : TR} (h : T[i]? = some x) : ∃ x', T'[i]? = some x' ∧ x'.core = x.core := by
  have h1 : (T'.map TR.core)[i]? = some x.core := by rw [e, List.getElem?_map, h]; rfl
  rw [List.getElem?_map] at h1
  cases hx : T'[i]? with
  | none => rw [hx] at h1; cases h1
  | some x' => rw [hx] at h1; exact ⟨x', rfl, Option.some.inj h1⟩
theorem core_lr {x x' : TR} (e : x'.core = x.core) : x'.l = x.l ∧ x'.r = x.r := by
  have h1 := congrArg TR.l e
  have h2 := congrArg TR.r e
  exact ⟨h1, h2⟩
theorem Hold.core {T T' : List TR} (e : T'.map TR.core = T.map TR.core) : ∀ {t : AT} {i : Nat}, Hold T t i → Hold T' t i
  | .empty, i, ⟨x, h1, h2⟩ => by obtain ⟨x', g1, g2⟩ := core_get e h1; exact ⟨x', g1, g2.trans h2⟩
  | .alone d, i, ⟨x, h1, h2⟩ => by obtain ⟨x', g1, g2⟩ := core_get e h1; exact ⟨x', g1, g2.trans h2⟩
  | .node y l r, i, ⟨x, h1, h2, h3, h4⟩ => by
    obtain ⟨x', g1, g2⟩ := core_get e h1
    obtain ⟨e1, e2⟩ := core_lr g2
    refine ⟨x', g1, ?_, ?_, ?_⟩
    · rw [g2, h2, e1, e2]
    · rw [e1]; exact Hold.core e h3
    · rw [e2]; exact Hold.core e h4
theorem core_len {T T' : List TR} (e : T'.map TR.core = T.map TR.core) : T'.length = T.length := by
  have := congrArg List.length e
  simpa using this
theorem hold_mid : ∀ (t : AT) (A B : List TR), Hold (A ++ lay t A.length ++ B) t A.length
  | .empty, A, B => ⟨tr0 69, by simp [lay], rfl⟩
  | .alone d, A, B => ⟨{ tr0 83 with stub := d }, by simp [lay], rfl⟩
  | .node y l r, A, B => by
    refine ⟨{ tr0 78 with it := y, l := A.length + 1, r := A.length + 1 + szT l }, by simp [lay], rfl, ?_, ?_⟩
    · have := hold_mid l (A ++ [{ tr0 78 with it := y, l := A.length + 1, r := A.length + 1 + szT l }]) (lay r (A.length + 1 + szT l) ++ B)
      have e1 : (A ++ [{ tr0 78 with it := y, l := A.length + 1, r := A.length + 1 + szT l }]).length = A.length + 1 := by simp
      rw [e1] at this
      have e : A ++ [{ tr0 78 with it := y, l := A.length + 1, r := A.length + 1 + szT l }] ++ lay l (A.length + 1) ++ (lay r (A.length + 1 + szT l) ++ B) = A ++ lay (.node y l r) A.length ++ B := by simp [lay]
      rw [e] at this
      exact this
    · have := hold_mid r (A ++ [{ tr0 78 with it := y, l := A.length + 1, r := A.length + 1 + szT l }] ++ lay l (A.length + 1)) B
      have e1 : (A ++ [{ tr0 78 with it := y, l := A.length + 1, r := A.length + 1 + szT l }] ++ lay l (A.length + 1)).length = A.length + 1 + szT l := by simp [lay_len]; omega
      rw [e1] at this
      have e : A ++ [{ tr0 78 with it := y, l := A.length + 1, r := A.length + 1 + szT l }] ++ lay l (A.length + 1) ++ lay r (A.length + 1 + szT l) ++ B = A ++ lay (.node y l r) A.length ++ B := by simp [lay]
      rw [e] at this
      exact this
theorem hold_lay (t : AT) : Hold (lay t 0) t 0 := by
  have := hold_mid t [] []
  simpa using this
/-- The bounds of a tree are written. -/
theorem An.bounds {w0 w1 w : World} {a g c N : Nat} {T : List TR} {n p : Nat} {s : ByteArray} (h : An w0 w1 w a (.slice (some ⟨g, 0, none⟩) N c) T n p s) (hN : N = T.length) {i : Nat} (hi : i < T.length) (low high : ByteArray) :
    ∃ T', T'.map TR.core = T.map TR.core ∧ An w0 w1 ((w.setCell ⟨g, i * 9 + 7, none⟩ (.string low)).setCell ⟨g, i * 9 + 8, none⟩ (.string high)) a (.slice (some ⟨g, 0, none⟩) N c) T' n p s := by
  subst hN
  have s1 := h.store hi (j := 7) (by omega) (.string low) { T[i] with low := low } rfl
  have e1 : (T.set i { T[i] with low := low }).length = T.length := by simp
  rw [← e1] at s1
  have s2 := s1.store (i := i) (by omega) (j := 8) (by omega) (.string high) { T[i] with low := low, high := high } (by simp [TR.cells])
  refine ⟨_, ?_, by rw [e1] at s2; exact s2⟩
  apply List.ext_getElem?
  intro j
  simp only [List.getElem?_map, List.set_set, List.getElem?_set]
  by_cases hj : i = j
  · subst hj
    simp [hi, TR.core]
  · simp [hj]
theorem grown_ext' {w w1 : World} {row : Option Nat} (hx : Ext w w1) : w.grownBy w1 row := ⟨hx.os, hx.tape, hx.output, hx.size, fun k hk _ => hx.block k hk⟩
theorem grown_set2 (w : World) (g i j : Nat) (u v : Value) : w.grownBy ((w.setCell ⟨g, i, none⟩ u).setCell ⟨g, j, none⟩ v) (some g) :=
  ⟨rfl, rfl, rfl, by simp [World.setCell], fun k hk hne => by
    have hk : k ≠ g := by intro q; exact hne (by rw [q])
    rw [Below.heap_setCell _ _ _ _ hk, Below.heap_setCell _ _ _ _ hk]⟩
def rBoundSaid (w0 : World) (lo hi : ByteArray) (t : AT) : Prop := ∀ (w1 w : World) (a g c N : Nat) (T : List TR) (n p i : Nat) (s low high : ByteArray), An w0 w1 w a (.slice (some ⟨g, 0, none⟩) N c) T n p s → N = T.length → Hold T t i → T.length ≤ 1000 →
  Calls Tryz.prog 33 #[.pointer (some ⟨a, 0, none⟩), .int .i64 i, .string lo, .string hi, .string low, .string high] w fun e w' =>
    e = .returned (.bool (okT lo hi t low high)) ∧ w.grownBy w' (some g) ∧ ∃ T', T'.map TR.core = T.map TR.core ∧ An w0 w1 w' a (.slice (some ⟨g, 0, none⟩) N c) T' n p s
set_option maxHeartbeats 4000000 in
set_option maxRecDepth 100000 in
theorem rbound_E (w0 : World) (lo hi : ByteArray) : rBoundSaid w0 lo hi .empty := by
  intro w1 w a g c N T n p i s low high h hN ⟨x, hx, hco⟩ hT
  subst hN
  obtain ⟨hi', hxe⟩ := List.getElem?_eq_some_iff.1 hx
  obtain ⟨_, _, ee, hc1, hc2⟩ := h.shape
  simp only [Value.slice.injEq] at ee
  obtain ⟨-, -, rfl⟩ := ee
  obtain ⟨g', c', ev, hg, _, hfz⟩ := h.blk (by omega)
  simp only [Value.slice.injEq, Option.some.injEq, Addr.mk.injEq] at ev
  obtain ⟨⟨rfl, -⟩, -, -⟩ := ev
  have hk : x.kind = 69 := congrArg TR.kind hco
  have q0 := h.at9 hi' (j := 0) (u := .int .u8 69) (by omega) (by rw [hxe]; show some (Value.int .u8 (x.kind : Int)) = _; rw [hk]; rfl)
  have q1 := h.at9 hi' (j := 1) (u := .string x.stub) (by omega) (by rw [hxe]; rfl)
  have q2 := h.at9 hi' (j := 2) (u := .string x.it.key) (by omega) (by rw [hxe]; rfl)
  have q3 := h.at9 hi' (j := 3) (u := .string x.it.val) (by omega) (by rw [hxe]; rfl)
  have q4 := h.at9 hi' (j := 4) (u := .int .i64 x.it.h) (by omega) (by rw [hxe]; rfl)
  have q5 := h.at9 hi' (j := 5) (u := .int .i64 x.l) (by omega) (by rw [hxe]; rfl)
  have q6 := h.at9 hi' (j := 6) (u := .int .i64 x.r) (by omega) (by rw [hxe]; rfl)
  have q7 := h.at9 hi' (j := 7) (u := .string x.low) (by omega) (by rw [hxe]; rfl)
  have q8 := h.at9 hi' (j := 8) (u := .string x.high) (by omega) (by rw [hxe]; rfl)
  rw [Nat.add_zero] at q0
  have c0 := h.c0
  have n1 : a ≠ g := by
    intro q
    subst q
    exact rows_ne h.row h.own (by decide) rfl
  have n2 : g ≠ w.heap.size := by omega
  have y0 := fun ob => ((Ext.refl w).alloc ob).keep1 c0
  have y7 := fun ob => ((Ext.refl w).alloc ob).keep1 q7
  have y8 := fun ob => ((Ext.refl w).alloc ob).keep1 q8
  have z7 : ∀ ob, (w.alloc ob).frozen? ⟨g, i * 9 + 7, none⟩ = false := fun ob => by
    obtain ⟨g', c', ev, _, _, hf⟩ := (h.next ((Ext.refl w).alloc ob)).blk (by omega)
    simp only [Value.slice.injEq, Option.some.injEq, Addr.mk.injEq] at ev
    obtain ⟨⟨rfl, -⟩, -, -⟩ := ev
    exact hf _
  have z8 : ∀ ob, ((w.setCell ⟨g, i * 9 + 7, none⟩ (.string low)).alloc ob).frozen? ⟨g, i * 9 + 8, none⟩ = false := fun ob => by
    have h7 := h.store hi' (j := 7) (by omega) (.string low) { T[i] with low := low } rfl
    obtain ⟨g', c', ev, _, _, hf⟩ := (h7.next ((Ext.refl _).alloc ob)).blk (by simp; omega)
    simp only [Value.slice.injEq, Option.some.injEq, Addr.mk.injEq] at ev
    obtain ⟨⟨rfl, -⟩, -, -⟩ := ev
    exact hf _
  have HA := hid h
  have halt := h.lt
  have HIT := hid (congrArg TR.it hco)
  clear h hfz hx hxe hk
  go_enter Tryz.func33, Tryz.ntmps33
  go_wp2_with fail
  obtain ⟨T1, hco1, hA1⟩ := HA.out.bounds rfl hi' low high
  have hg1 := grown_set2 w g (i * 9 + 7) (i * 9 + 8) (.string low) (.string high)
  have hsz : ((w.setCell ⟨g, i * 9 + 7, none⟩ (.string low)).setCell ⟨g, i * 9 + 8, none⟩ (.string high)).heap.size = w.heap.size := by simp [World.setCell]
  have hx1 := (Ext.refl ((w.setCell ⟨g, i * 9 + 7, none⟩ (.string low)).setCell ⟨g, i * 9 + 8, none⟩ (.string high))).alloc (.cells #[.int .u8 69, .string x.stub, .string x.it.key, .string x.it.val, .int .i64 x.it.h, .int .i64 x.l, .int .i64 x.r, .string x.low, .string x.high] 112)
  have hn3 := heap_alloc_new ((w.setCell ⟨g, i * 9 + 7, none⟩ (.string low)).setCell ⟨g, i * 9 + 8, none⟩ (.string high)) (.cells #[.int .u8 69, .string x.stub, .string x.it.key, .string x.it.val, .int .i64 x.it.h, .int .i64 x.l, .int .i64 x.r, .string x.low, .string x.high] 112)
  rw [hsz] at hn3
  replace hA1 := hA1.next hx1
  replace hg1 := hg1.trans (grown_ext' hx1 (row := some g))
  obtain ⟨W3, hW3⟩ : ∃ z, z = ((w.setCell ⟨g, i * 9 + 7, none⟩ (.string low)).setCell ⟨g, i * 9 + 8, none⟩ (.string high)).alloc (.cells #[.int .u8 69, .string x.stub, .string x.it.key, .string x.it.val, .int .i64 x.it.h, .int .i64 x.l, .int .i64 x.r, .string x.low, .string x.high] 112) := ⟨_, rfl⟩
  rw [← hW3] at hA1 hg1 hn3 ⊢
  generalize w.heap.size = TB at *
  have HT := hid hn3
  have HA1 := hid hA1
  have HG1 := hid hg1
  have t0 : W3.cell? ⟨TB, 0, none⟩ = some (.int .u8 69) := cell_of_row _ _ 0 _ _ _ hn3
  clear hx1 hsz hA1 hg1 hn3 hW3 q0 q1 q2 q3 q4 q5 q6 q7 q8 y0 y7 y8 z7 z8 c0 HA
  refine (rMatters_any lo hi low high _).mono ?_
  rintro e w' ⟨rfl, hw⟩
  replace hw := hw.symm
  subst hw
  cases hm : mat lo hi low high with
  | true =>
    have HM := hid hm
    clear hm
    go_wp2_with fail
    go_ret
    exact ⟨by unfold okT; rw [HM.out]; rfl, HG1.out, T1, hco1, HA1.out⟩
  | false =>
    have HM := hid hm
    clear hm
    go_wp2_with fail
    go_ret
    exact ⟨by unfold okT; rw [HM.out]; rfl, HG1.out, T1, hco1, HA1.out⟩
set_option maxHeartbeats 4000000 in
set_option maxRecDepth 100000 in
theorem rbound_S (w0 : World) (lo hi d : ByteArray) : rBoundSaid w0 lo hi (.alone d) := by
  intro w1 w a g c N T n p i s low high h hN ⟨x, hx, hco⟩ hT
  subst hN
  obtain ⟨hi', hxe⟩ := List.getElem?_eq_some_iff.1 hx
  obtain ⟨_, _, ee, hc1, hc2⟩ := h.shape
  simp only [Value.slice.injEq] at ee
  obtain ⟨-, -, rfl⟩ := ee
  obtain ⟨g', c', ev, hg, _, hfz⟩ := h.blk (by omega)
  simp only [Value.slice.injEq, Option.some.injEq, Addr.mk.injEq] at ev
  obtain ⟨⟨rfl, -⟩, -, -⟩ := ev
  have hk : x.kind = 83 := congrArg TR.kind hco
  have q0 := h.at9 hi' (j := 0) (u := .int .u8 83) (by omega) (by rw [hxe]; show some (Value.int .u8 (x.kind : Int)) = _; rw [hk]; rfl)
  have q1 := h.at9 hi' (j := 1) (u := .string x.stub) (by omega) (by rw [hxe]; rfl)
  have q2 := h.at9 hi' (j := 2) (u := .string x.it.key) (by omega) (by rw [hxe]; rfl)
  have q3 := h.at9 hi' (j := 3) (u := .string x.it.val) (by omega) (by rw [hxe]; rfl)
  have q4 := h.at9 hi' (j := 4) (u := .int .i64 x.it.h) (by omega) (by rw [hxe]; rfl)
  have q5 := h.at9 hi' (j := 5) (u := .int .i64 x.l) (by omega) (by rw [hxe]; rfl)
  have q6 := h.at9 hi' (j := 6) (u := .int .i64 x.r) (by omega) (by rw [hxe]; rfl)
  have q7 := h.at9 hi' (j := 7) (u := .string x.low) (by omega) (by rw [hxe]; rfl)
  have q8 := h.at9 hi' (j := 8) (u := .string x.high) (by omega) (by rw [hxe]; rfl)
  rw [Nat.add_zero] at q0
  have c0 := h.c0
  have n1 : a ≠ g := by
    intro q
    subst q
    exact rows_ne h.row h.own (by decide) rfl
  have n2 : g ≠ w.heap.size := by omega
  have y0 := fun ob => ((Ext.refl w).alloc ob).keep1 c0
  have y7 := fun ob => ((Ext.refl w).alloc ob).keep1 q7
  have y8 := fun ob => ((Ext.refl w).alloc ob).keep1 q8
  have z7 : ∀ ob, (w.alloc ob).frozen? ⟨g, i * 9 + 7, none⟩ = false := fun ob => by
    obtain ⟨g', c', ev, _, _, hf⟩ := (h.next ((Ext.refl w).alloc ob)).blk (by omega)
    simp only [Value.slice.injEq, Option.some.injEq, Addr.mk.injEq] at ev
    obtain ⟨⟨rfl, -⟩, -, -⟩ := ev
    exact hf _
  have z8 : ∀ ob, ((w.setCell ⟨g, i * 9 + 7, none⟩ (.string low)).alloc ob).frozen? ⟨g, i * 9 + 8, none⟩ = false := fun ob => by
    have h7 := h.store hi' (j := 7) (by omega) (.string low) { T[i] with low := low } rfl
    obtain ⟨g', c', ev, _, _, hf⟩ := (h7.next ((Ext.refl _).alloc ob)).blk (by simp; omega)
    simp only [Value.slice.injEq, Option.some.injEq, Addr.mk.injEq] at ev
    obtain ⟨⟨rfl, -⟩, -, -⟩ := ev
    exact hf _
  have HA := hid h
  have halt := h.lt
  have HIT := hid (congrArg TR.it hco)
  clear h hfz hx hxe hk
  go_enter Tryz.func33, Tryz.ntmps33
  go_wp2_with fail
  obtain ⟨T1, hco1, hA1⟩ := HA.out.bounds rfl hi' low high
  have hg1 := grown_set2 w g (i * 9 + 7) (i * 9 + 8) (.string low) (.string high)
  have hsz : ((w.setCell ⟨g, i * 9 + 7, none⟩ (.string low)).setCell ⟨g, i * 9 + 8, none⟩ (.string high)).heap.size = w.heap.size := by simp [World.setCell]
  have hx1 := (Ext.refl ((w.setCell ⟨g, i * 9 + 7, none⟩ (.string low)).setCell ⟨g, i * 9 + 8, none⟩ (.string high))).alloc (.cells #[.int .u8 83, .string x.stub, .string x.it.key, .string x.it.val, .int .i64 x.it.h, .int .i64 x.l, .int .i64 x.r, .string x.low, .string x.high] 112)
  have hn3 := heap_alloc_new ((w.setCell ⟨g, i * 9 + 7, none⟩ (.string low)).setCell ⟨g, i * 9 + 8, none⟩ (.string high)) (.cells #[.int .u8 83, .string x.stub, .string x.it.key, .string x.it.val, .int .i64 x.it.h, .int .i64 x.l, .int .i64 x.r, .string x.low, .string x.high] 112)
  rw [hsz] at hn3
  replace hA1 := hA1.next hx1
  replace hg1 := hg1.trans (grown_ext' hx1 (row := some g))
  obtain ⟨W3, hW3⟩ : ∃ z, z = ((w.setCell ⟨g, i * 9 + 7, none⟩ (.string low)).setCell ⟨g, i * 9 + 8, none⟩ (.string high)).alloc (.cells #[.int .u8 83, .string x.stub, .string x.it.key, .string x.it.val, .int .i64 x.it.h, .int .i64 x.l, .int .i64 x.r, .string x.low, .string x.high] 112) := ⟨_, rfl⟩
  rw [← hW3] at hA1 hg1 hn3 ⊢
  generalize w.heap.size = TB at *
  have HT := hid hn3
  have HA1 := hid hA1
  have HG1 := hid hg1
  have t0 : W3.cell? ⟨TB, 0, none⟩ = some (.int .u8 83) := cell_of_row _ _ 0 _ _ _ hn3
  clear hx1 hsz hA1 hg1 hn3 hW3 q0 q1 q2 q3 q4 q5 q6 q7 q8 y0 y7 y8 z7 z8 c0 HA
  refine (rMatters_any lo hi low high _).mono ?_
  rintro e w' ⟨rfl, hw⟩
  replace hw := hw.symm
  subst hw
  cases hm : mat lo hi low high with
  | true =>
    have HM := hid hm
    clear hm
    go_wp2_with fail
    go_ret
    exact ⟨by unfold okT; rw [HM.out]; rfl, HG1.out, T1, hco1, HA1.out⟩
  | false =>
    have HM := hid hm
    clear hm
    go_wp2_with fail
    go_ret
    exact ⟨by unfold okT; rw [HM.out]; rfl, HG1.out, T1, hco1, HA1.out⟩
set_option maxHeartbeats 4000000 in
set_option maxRecDepth 100000 in
theorem rbound_N (w0 : World) (lo hi : ByteArray) (y : It) (l r : AT) (ihl : rBoundSaid w0 lo hi l) (ihr : rBoundSaid w0 lo hi r) : rBoundSaid w0 lo hi (.node y l r) := by
  intro w1 w a g c N T n p i s low high h hN ⟨x, hx, hco, hol, hor⟩ hT
  subst hN
  obtain ⟨hi', hxe⟩ := List.getElem?_eq_some_iff.1 hx
  obtain ⟨_, _, ee, hc1, hc2⟩ := h.shape
  simp only [Value.slice.injEq] at ee
  obtain ⟨-, -, rfl⟩ := ee
  obtain ⟨g', c', ev, hg, _, hfz⟩ := h.blk (by omega)
  simp only [Value.slice.injEq, Option.some.injEq, Addr.mk.injEq] at ev
  obtain ⟨⟨rfl, -⟩, -, -⟩ := ev
  have hk : x.kind = 78 := congrArg TR.kind hco
  have q0 := h.at9 hi' (j := 0) (u := .int .u8 78) (by omega) (by rw [hxe]; show some (Value.int .u8 (x.kind : Int)) = _; rw [hk]; rfl)
  have q1 := h.at9 hi' (j := 1) (u := .string x.stub) (by omega) (by rw [hxe]; rfl)
  have q2 := h.at9 hi' (j := 2) (u := .string x.it.key) (by omega) (by rw [hxe]; rfl)
  have q3 := h.at9 hi' (j := 3) (u := .string x.it.val) (by omega) (by rw [hxe]; rfl)
  have q4 := h.at9 hi' (j := 4) (u := .int .i64 x.it.h) (by omega) (by rw [hxe]; rfl)
  have q5 := h.at9 hi' (j := 5) (u := .int .i64 x.l) (by omega) (by rw [hxe]; rfl)
  have q6 := h.at9 hi' (j := 6) (u := .int .i64 x.r) (by omega) (by rw [hxe]; rfl)
  have q7 := h.at9 hi' (j := 7) (u := .string x.low) (by omega) (by rw [hxe]; rfl)
  have q8 := h.at9 hi' (j := 8) (u := .string x.high) (by omega) (by rw [hxe]; rfl)
  rw [Nat.add_zero] at q0
  have c0 := h.c0
  have n1 : a ≠ g := by
    intro q
    subst q
    exact rows_ne h.row h.own (by decide) rfl
  have n2 : g ≠ w.heap.size := by omega
  have y0 := fun ob => ((Ext.refl w).alloc ob).keep1 c0
  have y7 := fun ob => ((Ext.refl w).alloc ob).keep1 q7
  have y8 := fun ob => ((Ext.refl w).alloc ob).keep1 q8
  have z7 : ∀ ob, (w.alloc ob).frozen? ⟨g, i * 9 + 7, none⟩ = false := fun ob => by
    obtain ⟨g', c', ev, _, _, hf⟩ := (h.next ((Ext.refl w).alloc ob)).blk (by omega)
    simp only [Value.slice.injEq, Option.some.injEq, Addr.mk.injEq] at ev
    obtain ⟨⟨rfl, -⟩, -, -⟩ := ev
    exact hf _
  have z8 : ∀ ob, ((w.setCell ⟨g, i * 9 + 7, none⟩ (.string low)).alloc ob).frozen? ⟨g, i * 9 + 8, none⟩ = false := fun ob => by
    have h7 := h.store hi' (j := 7) (by omega) (.string low) { T[i] with low := low } rfl
    obtain ⟨g', c', ev, _, _, hf⟩ := (h7.next ((Ext.refl _).alloc ob)).blk (by simp; omega)
    simp only [Value.slice.injEq, Option.some.injEq, Addr.mk.injEq] at ev
    obtain ⟨⟨rfl, -⟩, -, -⟩ := ev
    exact hf _
  have HA := hid h
  have halt := h.lt
  have HIT := hid (congrArg TR.it hco)
  clear h hfz hx hxe hk
  go_enter Tryz.func33, Tryz.ntmps33
  go_wp2_with fail
  obtain ⟨T1, hco1, hA1⟩ := HA.out.bounds rfl hi' low high
  have hg1 := grown_set2 w g (i * 9 + 7) (i * 9 + 8) (.string low) (.string high)
  have hsz : ((w.setCell ⟨g, i * 9 + 7, none⟩ (.string low)).setCell ⟨g, i * 9 + 8, none⟩ (.string high)).heap.size = w.heap.size := by simp [World.setCell]
  have hx1 := (Ext.refl ((w.setCell ⟨g, i * 9 + 7, none⟩ (.string low)).setCell ⟨g, i * 9 + 8, none⟩ (.string high))).alloc (.cells #[.int .u8 78, .string x.stub, .string x.it.key, .string x.it.val, .int .i64 x.it.h, .int .i64 x.l, .int .i64 x.r, .string x.low, .string x.high] 112)
  have hn3 := heap_alloc_new ((w.setCell ⟨g, i * 9 + 7, none⟩ (.string low)).setCell ⟨g, i * 9 + 8, none⟩ (.string high)) (.cells #[.int .u8 78, .string x.stub, .string x.it.key, .string x.it.val, .int .i64 x.it.h, .int .i64 x.l, .int .i64 x.r, .string x.low, .string x.high] 112)
  rw [hsz] at hn3
  replace hA1 := hA1.next hx1
  replace hg1 := hg1.trans (grown_ext' hx1 (row := some g))
  obtain ⟨W3, hW3⟩ : ∃ z, z = ((w.setCell ⟨g, i * 9 + 7, none⟩ (.string low)).setCell ⟨g, i * 9 + 8, none⟩ (.string high)).alloc (.cells #[.int .u8 78, .string x.stub, .string x.it.key, .string x.it.val, .int .i64 x.it.h, .int .i64 x.l, .int .i64 x.r, .string x.low, .string x.high] 112) := ⟨_, rfl⟩
  rw [← hW3] at hA1 hg1 hn3 ⊢
  generalize w.heap.size = TB at *
  have HT := hid hn3
  have HA1 := hid hA1
  have HG1 := hid hg1
  have t0 : W3.cell? ⟨TB, 0, none⟩ = some (.int .u8 78) := cell_of_row _ _ 0 _ _ _ hn3
  clear hx1 hsz hA1 hg1 hn3 hW3 q0 q1 q2 q3 q4 q5 q6 q7 q8 y0 y7 y8 z7 z8 c0 HA
  refine (rMatters_any lo hi low high _).mono ?_
  rintro e w' ⟨rfl, hw⟩
  replace hw := hw.symm
  subst hw
  have hit : x.it = y := HIT.out
  have t2 : W3.cell? ⟨TB, 2, none⟩ = some (.string y.key) := by rw [← hit]; exact cell_of_row _ _ 2 _ _ _ HT.out
  have t5 : W3.cell? ⟨TB, 5, none⟩ = some (.int .i64 x.l) := cell_of_row _ _ 5 _ _ _ HT.out
  have t6 : W3.cell? ⟨TB, 6, none⟩ = some (.int .i64 x.r) := cell_of_row _ _ 6 _ _ _ HT.out
  have HH := hid (hold_eq low high y.key)
  cases hm : mat lo hi low high with
  | false =>
    have HM := hid hm
    clear hm
    go_wp2_with fail
    go_ret
    exact ⟨by unfold okT; rw [HM.out]; rfl, HG1.out, T1, hco1, HA1.out⟩
  | true =>
    have HM := hid hm
    clear hm HH
    have hl1 := core_len hco1
    by_cases hl : low.toList = []
    · by_cases hh : high.toList = []
      · have HHB : Hid (holdB low high y.key = true) := hid (by rw [hold_eq, hh]; simp [hl])
        go_wp2_with fail
        refine (ihl w1 W3 a g c T.length T1 n p x.l s low y.key HA1.out hl1.symm (hol.core hco1) (by omega)).mono ?_
        rintro e w4 ⟨rfl, hg4, T2, hco2, hA4⟩
        have hT4 := (hg4.block TB (row_lt HT.out) (by simp; exact Ne.symm n2)).trans HT.out
        have u2 : w4.cell? ⟨TB, 2, none⟩ = some (.string y.key) := by rw [← HIT.out]; exact cell_of_row _ _ 2 _ _ _ hT4
        have u6 : w4.cell? ⟨TB, 6, none⟩ = some (.int .i64 x.r) := cell_of_row _ _ 6 _ _ _ hT4
        have hl2 := core_len hco2
        have HA4 := hid hA4
        have HG4 := hid hg4
        clear hA4 hg4 hT4
        cases hbl : okT lo hi l low y.key with
        | true =>
          have HBL := hid hbl
          clear hbl
          go_wp2_with fail
          refine (ihr w1 w4 a g c T.length T2 n p x.r s y.key high HA4.out (by omega) ((hor.core hco1).core hco2) (by omega)).mono ?_
          rintro e w5 ⟨rfl, hg5, T3, hco3, hA5⟩
          have HA5 := hid hA5
          have HG5 := hid hg5
          clear hA5 hg5
          generalize hbr : okT lo hi r y.key high = br at *
          have HBR := hid hbr
          clear hbr
          go_wp2_with fail
          all_goals
            go_ret
            refine ⟨?_, (HG1.out.trans HG4.out).trans HG5.out, T3, (hco3.trans hco2).trans hco1, HA5.out⟩
            unfold okT
            rw [HM.out, HHB.out, HBL.out, HBR.out]
            first | rfl | simp [*]
        | false =>
          have HBL := hid hbl
          clear hbl
          go_wp2_with fail
          refine (ihr w1 w4 a g c T.length T2 n p x.r s y.key high HA4.out (by omega) ((hor.core hco1).core hco2) (by omega)).mono ?_
          rintro e w5 ⟨rfl, hg5, T3, hco3, hA5⟩
          have HA5 := hid hA5
          have HG5 := hid hg5
          clear hA5 hg5
          generalize hbr : okT lo hi r y.key high = br at *
          have HBR := hid hbr
          clear hbr
          go_wp2_with fail
          all_goals
            go_ret
            refine ⟨?_, (HG1.out.trans HG4.out).trans HG5.out, T3, (hco3.trans hco2).trans hco1, HA5.out⟩
            unfold okT
            rw [HM.out, HHB.out, HBL.out, HBR.out]
            first | rfl | simp [*]
      · have hhe : high.toList.isEmpty = false := by simpa using hh
        cases hb2 : Op.bytesLess y.key.toList high.toList with
        | true =>
          have HHB : Hid (holdB low high y.key = true) := hid (by rw [hold_eq, hhe, hb2]; simp [hl])
          go_wp2_with fail
          refine (ihl w1 W3 a g c T.length T1 n p x.l s low y.key HA1.out hl1.symm (hol.core hco1) (by omega)).mono ?_
          rintro e w4 ⟨rfl, hg4, T2, hco2, hA4⟩
          have hT4 := (hg4.block TB (row_lt HT.out) (by simp; exact Ne.symm n2)).trans HT.out
          have u2 : w4.cell? ⟨TB, 2, none⟩ = some (.string y.key) := by rw [← HIT.out]; exact cell_of_row _ _ 2 _ _ _ hT4
          have u6 : w4.cell? ⟨TB, 6, none⟩ = some (.int .i64 x.r) := cell_of_row _ _ 6 _ _ _ hT4
          have hl2 := core_len hco2
          have HA4 := hid hA4
          have HG4 := hid hg4
          clear hA4 hg4 hT4
          cases hbl : okT lo hi l low y.key with
          | true =>
            have HBL := hid hbl
            clear hbl
            go_wp2_with fail
            refine (ihr w1 w4 a g c T.length T2 n p x.r s y.key high HA4.out (by omega) ((hor.core hco1).core hco2) (by omega)).mono ?_
            rintro e w5 ⟨rfl, hg5, T3, hco3, hA5⟩
            have HA5 := hid hA5
            have HG5 := hid hg5
            clear hA5 hg5
            generalize hbr : okT lo hi r y.key high = br at *
            have HBR := hid hbr
            clear hbr
            go_wp2_with fail
            all_goals
              go_ret
              refine ⟨?_, (HG1.out.trans HG4.out).trans HG5.out, T3, (hco3.trans hco2).trans hco1, HA5.out⟩
              unfold okT
              rw [HM.out, HHB.out, HBL.out, HBR.out]
              first | rfl | simp [*]
          | false =>
            have HBL := hid hbl
            clear hbl
            go_wp2_with fail
            refine (ihr w1 w4 a g c T.length T2 n p x.r s y.key high HA4.out (by omega) ((hor.core hco1).core hco2) (by omega)).mono ?_
            rintro e w5 ⟨rfl, hg5, T3, hco3, hA5⟩
            have HA5 := hid hA5
            have HG5 := hid hg5
            clear hA5 hg5
            generalize hbr : okT lo hi r y.key high = br at *
            have HBR := hid hbr
            clear hbr
            go_wp2_with fail
            all_goals
              go_ret
              refine ⟨?_, (HG1.out.trans HG4.out).trans HG5.out, T3, (hco3.trans hco2).trans hco1, HA5.out⟩
              unfold okT
              rw [HM.out, HHB.out, HBL.out, HBR.out]
              first | rfl | simp [*]
        | false =>
          have HHB : Hid (holdB low high y.key = false) := hid (by rw [hold_eq, hhe, hb2]; simp)
          go_wp2_with fail
          go_ret
          exact ⟨by unfold okT; rw [HM.out, HHB.out]; rfl, HG1.out, T1, hco1, HA1.out⟩
    · have hle : low.toList.isEmpty = false := by simpa using hl
      by_cases hk1 : y.key.toList = low.toList
      · have hk2 : (y.key.toList == low.toList) = true := by simpa using hk1
        have hk3 : Op.bytesLess low.toList y.key.toList = false := by rw [hk1]; exact bl_irrefl _
        have HHB : Hid (holdB low high y.key = false) := hid (by rw [hold_eq, hle, hk3]; rfl)
        go_wp2_with fail
        go_ret
        exact ⟨by unfold okT; rw [HM.out, HHB.out]; rfl, HG1.out, T1, hco1, HA1.out⟩
      · have hk2 : (y.key.toList == low.toList) = false := by simpa using hk1
        cases hk3 : Op.bytesLess y.key.toList low.toList with
        | true =>
          have hk4 : Op.bytesLess low.toList y.key.toList = false := lt_asymm (a := y.key) (b := low) hk3
          have HHB : Hid (holdB low high y.key = false) := hid (by rw [hold_eq, hle, hk4]; rfl)
          go_wp2_with fail
          go_ret
          exact ⟨by unfold okT; rw [HM.out, HHB.out]; rfl, HG1.out, T1, hco1, HA1.out⟩
        | false =>
          have hk4 : Op.bytesLess low.toList y.key.toList = true := by
            cases hq : Op.bytesLess low.toList y.key.toList with
            | true => rfl
            | false => exact absurd (bl_tri _ _ hk3 hq) hk1
          have HK4 := hid hk4
          clear hk4
          by_cases hh : high.toList = []
          · have HHB : Hid (holdB low high y.key = true) := hid (by rw [hold_eq, hh]; rw [HK4.out]; simp)
            go_wp2_with fail
            refine (ihl w1 W3 a g c T.length T1 n p x.l s low y.key HA1.out hl1.symm (hol.core hco1) (by omega)).mono ?_
            rintro e w4 ⟨rfl, hg4, T2, hco2, hA4⟩
            have hT4 := (hg4.block TB (row_lt HT.out) (by simp; exact Ne.symm n2)).trans HT.out
            have u2 : w4.cell? ⟨TB, 2, none⟩ = some (.string y.key) := by rw [← HIT.out]; exact cell_of_row _ _ 2 _ _ _ hT4
            have u6 : w4.cell? ⟨TB, 6, none⟩ = some (.int .i64 x.r) := cell_of_row _ _ 6 _ _ _ hT4
            have hl2 := core_len hco2
            have HA4 := hid hA4
            have HG4 := hid hg4
            clear hA4 hg4 hT4
            cases hbl : okT lo hi l low y.key with
            | true =>
              have HBL := hid hbl
              clear hbl
              go_wp2_with fail
              refine (ihr w1 w4 a g c T.length T2 n p x.r s y.key high HA4.out (by omega) ((hor.core hco1).core hco2) (by omega)).mono ?_
              rintro e w5 ⟨rfl, hg5, T3, hco3, hA5⟩
              have HA5 := hid hA5
              have HG5 := hid hg5
              clear hA5 hg5
              generalize hbr : okT lo hi r y.key high = br at *
              have HBR := hid hbr
              clear hbr
              go_wp2_with fail
              all_goals
                go_ret
                refine ⟨?_, (HG1.out.trans HG4.out).trans HG5.out, T3, (hco3.trans hco2).trans hco1, HA5.out⟩
                unfold okT
                rw [HM.out, HHB.out, HBL.out, HBR.out]
                first | rfl | simp [*]
            | false =>
              have HBL := hid hbl
              clear hbl
              go_wp2_with fail
              refine (ihr w1 w4 a g c T.length T2 n p x.r s y.key high HA4.out (by omega) ((hor.core hco1).core hco2) (by omega)).mono ?_
              rintro e w5 ⟨rfl, hg5, T3, hco3, hA5⟩
              have HA5 := hid hA5
              have HG5 := hid hg5
              clear hA5 hg5
              generalize hbr : okT lo hi r y.key high = br at *
              have HBR := hid hbr
              clear hbr
              go_wp2_with fail
              all_goals
                go_ret
                refine ⟨?_, (HG1.out.trans HG4.out).trans HG5.out, T3, (hco3.trans hco2).trans hco1, HA5.out⟩
                unfold okT
                rw [HM.out, HHB.out, HBL.out, HBR.out]
                first | rfl | simp [*]
          · have hhe : high.toList.isEmpty = false := by simpa using hh
            cases hb2 : Op.bytesLess y.key.toList high.toList with
            | true =>
              have HHB : Hid (holdB low high y.key = true) := hid (by rw [hold_eq, hhe, hb2]; rw [HK4.out]; simp)
              go_wp2_with fail
              refine (ihl w1 W3 a g c T.length T1 n p x.l s low y.key HA1.out hl1.symm (hol.core hco1) (by omega)).mono ?_
              rintro e w4 ⟨rfl, hg4, T2, hco2, hA4⟩
              have hT4 := (hg4.block TB (row_lt HT.out) (by simp; exact Ne.symm n2)).trans HT.out
              have u2 : w4.cell? ⟨TB, 2, none⟩ = some (.string y.key) := by rw [← HIT.out]; exact cell_of_row _ _ 2 _ _ _ hT4
              have u6 : w4.cell? ⟨TB, 6, none⟩ = some (.int .i64 x.r) := cell_of_row _ _ 6 _ _ _ hT4
              have hl2 := core_len hco2
              have HA4 := hid hA4
              have HG4 := hid hg4
              clear hA4 hg4 hT4
              cases hbl : okT lo hi l low y.key with
              | true =>
                have HBL := hid hbl
                clear hbl
                go_wp2_with fail
                refine (ihr w1 w4 a g c T.length T2 n p x.r s y.key high HA4.out (by omega) ((hor.core hco1).core hco2) (by omega)).mono ?_
                rintro e w5 ⟨rfl, hg5, T3, hco3, hA5⟩
                have HA5 := hid hA5
                have HG5 := hid hg5
                clear hA5 hg5
                generalize hbr : okT lo hi r y.key high = br at *
                have HBR := hid hbr
                clear hbr
                go_wp2_with fail
                all_goals
                  go_ret
                  refine ⟨?_, (HG1.out.trans HG4.out).trans HG5.out, T3, (hco3.trans hco2).trans hco1, HA5.out⟩
                  unfold okT
                  rw [HM.out, HHB.out, HBL.out, HBR.out]
                  first | rfl | simp [*]
              | false =>
                have HBL := hid hbl
                clear hbl
                go_wp2_with fail
                refine (ihr w1 w4 a g c T.length T2 n p x.r s y.key high HA4.out (by omega) ((hor.core hco1).core hco2) (by omega)).mono ?_
                rintro e w5 ⟨rfl, hg5, T3, hco3, hA5⟩
                have HA5 := hid hA5
                have HG5 := hid hg5
                clear hA5 hg5
                generalize hbr : okT lo hi r y.key high = br at *
                have HBR := hid hbr
                clear hbr
                go_wp2_with fail
                all_goals
                  go_ret
                  refine ⟨?_, (HG1.out.trans HG4.out).trans HG5.out, T3, (hco3.trans hco2).trans hco1, HA5.out⟩
                  unfold okT
                  rw [HM.out, HHB.out, HBL.out, HBR.out]
                  first | rfl | simp [*]
            | false =>
              have HHB : Hid (holdB low high y.key = false) := hid (by rw [hold_eq, hhe, hb2]; simp)
              go_wp2_with fail
              go_ret
              exact ⟨by unfold okT; rw [HM.out, HHB.out]; rfl, HG1.out, T1, hco1, HA1.out⟩
theorem rbound_any (w0 : World) (lo hi : ByteArray) : ∀ t : AT, rBoundSaid w0 lo hi t
  | .empty => rbound_E w0 lo hi
  | .alone d => rbound_S w0 lo hi d
  | .node y l r => rbound_N w0 lo hi y l r (rbound_any w0 lo hi l) (rbound_any w0 lo hi r)
end Go.Proofs.YtjohkmkgmbihkaaGreatDoor

namespace Go.Proofs.YtjohkmkgmbihkaaGreatDoor
set_option linter.unusedVariables false
open Go.ChangeShapes Go.WideShapes Go.ChangeAt Go.RowKit
/-- The text of a tree that is no digest alone. -/
def topT : AT → ByteArray
  | .empty => tE
  | .alone d => d
  | .node x l r => head x ++ digT l ++ digT r
def rDigestSaid (w0 : World) (t : AT) : Prop := ∀ (w1 w : World) (a : Nat) (v : Value) (T : List TR) (n p i : Nat) (s : ByteArray), An w0 w1 w a v T n p s → Hold T t i → T.length ≤ 1000 →
  Calls Tryz.prog 34 #[.pointer (some ⟨a, 0, none⟩), .int .i64 i] w fun e w' => e = .returned (.string (digT t)) ∧ Ext w w'
def rTextSaid (w0 : World) (t : AT) : Prop := ∀ (w1 w : World) (a : Nat) (v : Value) (T : List TR) (n p i : Nat) (s : ByteArray), An w0 w1 w a v T n p s → Hold T t i → T.length ≤ 1000 →
  Calls Tryz.prog 62 #[.pointer (some ⟨a, 0, none⟩), .int .i64 i] w fun e w' => e = .returned (.string (topT t)) ∧ Ext w w'
set_option maxHeartbeats 4000000 in
set_option maxRecDepth 100000 in
theorem rtext_E (w0 : World) : rTextSaid w0 .empty := by
  intro w1 w a v T n p i s h ⟨x, hx, hco⟩ hT
  obtain ⟨hi', hxe⟩ := List.getElem?_eq_some_iff.1 hx
  obtain ⟨g, c, ev, hg, _, _⟩ := h.blk (by omega)
  subst ev
  obtain ⟨_, _, ee, hc1, hc2⟩ := h.shape
  simp only [Value.slice.injEq] at ee
  obtain ⟨-, -, rfl⟩ := ee
  have hk : x.kind = 69 := congrArg TR.kind hco
  have q0 := h.at9 hi' (j := 0) (u := .int .u8 69) (by omega) (by rw [hxe]; show some (Value.int .u8 (x.kind : Int)) = _; rw [hk]; rfl)
  have q1 := h.at9 hi' (j := 1) (u := .string x.stub) (by omega) (by rw [hxe]; rfl)
  have q2 := h.at9 hi' (j := 2) (u := .string x.it.key) (by omega) (by rw [hxe]; rfl)
  have q3 := h.at9 hi' (j := 3) (u := .string x.it.val) (by omega) (by rw [hxe]; rfl)
  have q4 := h.at9 hi' (j := 4) (u := .int .i64 x.it.h) (by omega) (by rw [hxe]; rfl)
  have q5 := h.at9 hi' (j := 5) (u := .int .i64 x.l) (by omega) (by rw [hxe]; rfl)
  have q6 := h.at9 hi' (j := 6) (u := .int .i64 x.r) (by omega) (by rw [hxe]; rfl)
  have q7 := h.at9 hi' (j := 7) (u := .string x.low) (by omega) (by rw [hxe]; rfl)
  have q8 := h.at9 hi' (j := 8) (u := .string x.high) (by omega) (by rw [hxe]; rfl)
  rw [Nat.add_zero] at q0
  have c0 := h.c0
  have HA := hid h
  clear h hx hxe hk
  go_enter Tryz.func62, Tryz.ntmps62
  go_wp2_with fail
  go_ret
  exact ⟨rfl, (Ext.refl _).alloc _⟩
set_option maxHeartbeats 4000000 in
set_option maxRecDepth 100000 in
theorem rtext_N (w0 : World) (y : It) (l r : AT) (hf : fault y.key y.val y.h = 0) (h3l : (digT l).size = 3) (h3r : (digT r).size = 3) (ihl : rDigestSaid w0 l) (ihr : rDigestSaid w0 r) : rTextSaid w0 (.node y l r) := by
  intro w1 w a v T n p i s h ⟨x, hx, hco, hol, hor⟩ hT
  have hit : x.it = y := congrArg TR.it hco
  obtain ⟨s1, s2, s3⟩ := fault_small hf
  obtain ⟨hi', hxe⟩ := List.getElem?_eq_some_iff.1 hx
  obtain ⟨g, c, ev, hg, _, _⟩ := h.blk (by omega)
  subst ev
  obtain ⟨_, _, ee, hc1, hc2⟩ := h.shape
  simp only [Value.slice.injEq] at ee
  obtain ⟨-, -, rfl⟩ := ee
  have hk : x.kind = 78 := congrArg TR.kind hco
  have q0 := h.at9 hi' (j := 0) (u := .int .u8 78) (by omega) (by rw [hxe]; show some (Value.int .u8 (x.kind : Int)) = _; rw [hk]; rfl)
  have q1 := h.at9 hi' (j := 1) (u := .string x.stub) (by omega) (by rw [hxe]; rfl)
  have q2 := h.at9 hi' (j := 2) (u := .string x.it.key) (by omega) (by rw [hxe]; rfl)
  have q3 := h.at9 hi' (j := 3) (u := .string x.it.val) (by omega) (by rw [hxe]; rfl)
  have q4 := h.at9 hi' (j := 4) (u := .int .i64 x.it.h) (by omega) (by rw [hxe]; rfl)
  have q5 := h.at9 hi' (j := 5) (u := .int .i64 x.l) (by omega) (by rw [hxe]; rfl)
  have q6 := h.at9 hi' (j := 6) (u := .int .i64 x.r) (by omega) (by rw [hxe]; rfl)
  have q7 := h.at9 hi' (j := 7) (u := .string x.low) (by omega) (by rw [hxe]; rfl)
  have q8 := h.at9 hi' (j := 8) (u := .string x.high) (by omega) (by rw [hxe]; rfl)
  rw [Nat.add_zero] at q0
  have c0 := h.c0
  have HA := hid h
  clear h hx hxe hk
  rw [hit] at q2 q3 q4
  have hhd : (head y).size ≤ 40 := by rw [head_size]; omega
  have hx1 := (Ext.refl w).alloc (.cells #[.int .u8 78, .string x.stub, .string y.key, .string y.val, .int .i64 y.h, .int .i64 x.l, .int .i64 x.r, .string x.low, .string x.high] 112)
  have hn1 := heap_alloc_new w (.cells #[.int .u8 78, .string x.stub, .string y.key, .string y.val, .int .i64 y.h, .int .i64 x.l, .int .i64 x.r, .string x.low, .string x.high] 112)
  have C1 := hid (fun w' (hx : Ext w w') => ihl w1 w' a _ T n p x.l s (HA.out.next hx) hol hT)
  have C2 := hid (fun w' (hx : Ext w w') => ihr w1 w' a _ T n p x.r s (HA.out.next hx) hor hT)
  clear ihl ihr hol hor hco
  have HTX := hid (show topT (.node y l r) = head y ++ digT l ++ digT r from rfl)
  generalize digT l = D1 at *
  generalize digT r = D2 at *
  have hs1 : ¬ 9223372036854775807 < (head y).size + 3 := by omega
  have hs2 : ¬ 9223372036854775807 < (head y).size + 3 + 3 := by omega
  go_enter Tryz.func62, Tryz.ntmps62
  go_wp2_with fail
  obtain ⟨W1, hW1⟩ : ∃ z, z = w.alloc (.cells #[.int .u8 78, .string x.stub, .string y.key, .string y.val, .int .i64 y.h, .int .i64 x.l, .int .i64 x.r, .string x.low, .string x.high] 112) := ⟨_, rfl⟩
  rw [← hW1] at hx1 hn1 ⊢
  generalize w.heap.size = TB at *
  have HN1 := hid hn1
  have HX1 := hid hx1
  clear hn1 hx1 hW1
  refine (C1.out _ HX1.out).mono ?_
  rintro e w2 ⟨rfl, hx2⟩
  have u6 : w2.cell? ⟨TB, 6, none⟩ = some (.int .i64 x.r) := cell_of_row _ _ 6 _ _ _ (hx2.row HN1.out)
  have HX2 := hid (HX1.out.trans hx2)
  have HN2 := hid (hx2.row HN1.out)
  clear hx2
  go_wp2_with fail
  refine (C2.out _ HX2.out).mono ?_
  rintro e w3 ⟨rfl, hx3⟩
  have hn3 := hx3.row HN2.out
  have v2 : w3.cell? ⟨TB, 2, none⟩ = some (.string y.key) := cell_of_row _ _ 2 _ _ _ hn3
  have v3 : w3.cell? ⟨TB, 3, none⟩ = some (.string y.val) := cell_of_row _ _ 3 _ _ _ hn3
  have v4 : w3.cell? ⟨TB, 4, none⟩ = some (.int .i64 y.h) := cell_of_row _ _ 4 _ _ _ hn3
  have HX3 := hid (HX2.out.trans hx3)
  clear hx3 hn3
  go_wp2_with fail
  refine (rHead_any y s1 s2 s3 _).mono ?_
  rintro e w4 ⟨rfl, hx4⟩
  have HX4 := hid (HX3.out.trans hx4)
  clear hx4
  go_wp2_with fail
  go_ret
  exact ⟨ret_str HTX.out.symm, HX4.out⟩
set_option maxHeartbeats 4000000 in
set_option maxRecDepth 100000 in
theorem rdigest_S (w0 : World) (d : ByteArray) : rDigestSaid w0 (.alone d) := by
  intro w1 w a v T n p i s h ⟨x, hx, hco⟩ hT
  have hst : x.stub = d := congrArg TR.stub hco
  obtain ⟨hi', hxe⟩ := List.getElem?_eq_some_iff.1 hx
  obtain ⟨g, c, ev, hg, _, _⟩ := h.blk (by omega)
  subst ev
  obtain ⟨_, _, ee, hc1, hc2⟩ := h.shape
  simp only [Value.slice.injEq] at ee
  obtain ⟨-, -, rfl⟩ := ee
  have hk : x.kind = 83 := congrArg TR.kind hco
  have q0 := h.at9 hi' (j := 0) (u := .int .u8 83) (by omega) (by rw [hxe]; show some (Value.int .u8 (x.kind : Int)) = _; rw [hk]; rfl)
  have q1 := h.at9 hi' (j := 1) (u := .string x.stub) (by omega) (by rw [hxe]; rfl)
  have q2 := h.at9 hi' (j := 2) (u := .string x.it.key) (by omega) (by rw [hxe]; rfl)
  have q3 := h.at9 hi' (j := 3) (u := .string x.it.val) (by omega) (by rw [hxe]; rfl)
  have q4 := h.at9 hi' (j := 4) (u := .int .i64 x.it.h) (by omega) (by rw [hxe]; rfl)
  have q5 := h.at9 hi' (j := 5) (u := .int .i64 x.l) (by omega) (by rw [hxe]; rfl)
  have q6 := h.at9 hi' (j := 6) (u := .int .i64 x.r) (by omega) (by rw [hxe]; rfl)
  have q7 := h.at9 hi' (j := 7) (u := .string x.low) (by omega) (by rw [hxe]; rfl)
  have q8 := h.at9 hi' (j := 8) (u := .string x.high) (by omega) (by rw [hxe]; rfl)
  rw [Nat.add_zero] at q0
  have c0 := h.c0
  have HA := hid h
  clear h hx hxe hk
  rw [hst] at q1
  go_enter Tryz.func34, Tryz.ntmps34
  go_wp2_with fail
  go_ret
  exact ⟨rfl, Ext.refl _⟩
set_option maxHeartbeats 4000000 in
set_option maxRecDepth 100000 in
theorem rdigest_E (w0 : World) (hsz : (topT AT.empty).size ≤ 1000) (ih : rTextSaid w0 AT.empty) : rDigestSaid w0 AT.empty := by
  intro w1 w a v T n p i s h hho hT
  have HH := hid hho
  obtain ⟨x, hx, hco⟩ := hho
  obtain ⟨hi', hxe⟩ := List.getElem?_eq_some_iff.1 hx
  obtain ⟨g, c, ev, hg, _, _⟩ := h.blk (by omega)
  subst ev
  obtain ⟨_, _, ee, hc1, hc2⟩ := h.shape
  simp only [Value.slice.injEq] at ee
  obtain ⟨-, -, rfl⟩ := ee
  have hk : x.kind = 69 := congrArg TR.kind hco
  have q0 := h.at9 hi' (j := 0) (u := .int .u8 69) (by omega) (by rw [hxe]; show some (Value.int .u8 (x.kind : Int)) = _; rw [hk]; rfl)
  have q1 := h.at9 hi' (j := 1) (u := .string x.stub) (by omega) (by rw [hxe]; rfl)
  have q2 := h.at9 hi' (j := 2) (u := .string x.it.key) (by omega) (by rw [hxe]; rfl)
  have q3 := h.at9 hi' (j := 3) (u := .string x.it.val) (by omega) (by rw [hxe]; rfl)
  have q4 := h.at9 hi' (j := 4) (u := .int .i64 x.it.h) (by omega) (by rw [hxe]; rfl)
  have q5 := h.at9 hi' (j := 5) (u := .int .i64 x.l) (by omega) (by rw [hxe]; rfl)
  have q6 := h.at9 hi' (j := 6) (u := .int .i64 x.r) (by omega) (by rw [hxe]; rfl)
  have q7 := h.at9 hi' (j := 7) (u := .string x.low) (by omega) (by rw [hxe]; rfl)
  have q8 := h.at9 hi' (j := 8) (u := .string x.high) (by omega) (by rw [hxe]; rfl)
  rw [Nat.add_zero] at q0
  have c0 := h.c0
  have HA := hid h
  clear h hx hxe hk
  have C1 := hid (fun w' (hx : Ext w w') => ih w1 w' a _ T n p i s (HA.out.next hx) HH.out hT)
  have HSZ := hid (show (topT AT.empty).size ≤ maxLen by unfold maxLen; omega)
  have HE := hid (show Sm.sum (topT AT.empty) = digT AT.empty from rfl)
  clear ih hsz
  go_enter Tryz.func34, Tryz.ntmps34
  go_wp2_with fail
  refine (C1.out _ (Ext.refl _)).mono ?_
  rintro e w2 ⟨rfl, hx2⟩
  go_wp2_with fail
  refine (refSum_any _ _ HSZ.out).mono ?_
  rintro e w5 ⟨rfl, nn, rfl⟩
  rw [HE.out]
  go_wp2_with fail
  go_ret
  exact ⟨rfl, hx2.drewN _⟩
set_option maxHeartbeats 4000000 in
set_option maxRecDepth 100000 in
theorem rdigest_N (w0 : World) (y : It) (l r : AT) (hsz : (topT (.node y l r)).size ≤ 1000) (ih : rTextSaid w0 (.node y l r)) : rDigestSaid w0 (.node y l r) := by
  intro w1 w a v T n p i s h hho hT
  have HH := hid hho
  obtain ⟨x, hx, hco, hol, hor⟩ := hho
  obtain ⟨hi', hxe⟩ := List.getElem?_eq_some_iff.1 hx
  obtain ⟨g, c, ev, hg, _, _⟩ := h.blk (by omega)
  subst ev
  obtain ⟨_, _, ee, hc1, hc2⟩ := h.shape
  simp only [Value.slice.injEq] at ee
  obtain ⟨-, -, rfl⟩ := ee
  have hk : x.kind = 78 := congrArg TR.kind hco
  have q0 := h.at9 hi' (j := 0) (u := .int .u8 78) (by omega) (by rw [hxe]; show some (Value.int .u8 (x.kind : Int)) = _; rw [hk]; rfl)
  have q1 := h.at9 hi' (j := 1) (u := .string x.stub) (by omega) (by rw [hxe]; rfl)
  have q2 := h.at9 hi' (j := 2) (u := .string x.it.key) (by omega) (by rw [hxe]; rfl)
  have q3 := h.at9 hi' (j := 3) (u := .string x.it.val) (by omega) (by rw [hxe]; rfl)
  have q4 := h.at9 hi' (j := 4) (u := .int .i64 x.it.h) (by omega) (by rw [hxe]; rfl)
  have q5 := h.at9 hi' (j := 5) (u := .int .i64 x.l) (by omega) (by rw [hxe]; rfl)
  have q6 := h.at9 hi' (j := 6) (u := .int .i64 x.r) (by omega) (by rw [hxe]; rfl)
  have q7 := h.at9 hi' (j := 7) (u := .string x.low) (by omega) (by rw [hxe]; rfl)
  have q8 := h.at9 hi' (j := 8) (u := .string x.high) (by omega) (by rw [hxe]; rfl)
  rw [Nat.add_zero] at q0
  have c0 := h.c0
  have HA := hid h
  clear h hx hxe hk
  have C1 := hid (fun w' (hx : Ext w w') => ih w1 w' a _ T n p i s (HA.out.next hx) HH.out hT)
  have HSZ := hid (show (topT (.node y l r)).size ≤ maxLen by unfold maxLen; omega)
  have HE := hid (show Sm.sum (topT (.node y l r)) = digT (.node y l r) from rfl)
  clear ih hsz
  go_enter Tryz.func34, Tryz.ntmps34
  go_wp2_with fail
  refine (C1.out _ (Ext.refl _)).mono ?_
  rintro e w2 ⟨rfl, hx2⟩
  go_wp2_with fail
  refine (refSum_any _ _ HSZ.out).mono ?_
  rintro e w5 ⟨rfl, nn, rfl⟩
  rw [HE.out]
  go_wp2_with fail
  go_ret
  exact ⟨rfl, hx2.drewN _⟩
theorem top_size : ∀ {t : AT}, okA t → (topT t).size ≤ 1000
  | .empty, _ => by decide
  | .alone d, h => by have : d.size = 3 := h; show d.size ≤ 1000; omega
  | .node x l r, h => by
    obtain ⟨h1, h2, h3⟩ := fault_small h.1
    show (head x ++ digT l ++ digT r).size ≤ 1000
    rw [ByteArray.size_append, ByteArray.size_append, head_size, digT_size h.2.1, digT_size h.2.2]
    omega
theorem rdigest_all (w0 : World) : ∀ t : AT, okA t → rDigestSaid w0 t
  | .empty, h => rdigest_E w0 (top_size h) (rtext_E w0)
  | .alone d, _ => rdigest_S w0 d
  | .node y l r, h => rdigest_N w0 y l r (top_size h) (rtext_N w0 y l r h.1 (digT_size h.2.1) (digT_size h.2.2) (rdigest_all w0 l h.2.1) (rdigest_all w0 r h.2.2))
theorem rtext_all (w0 : World) : ∀ t : AT, okA t → (∀ d, t ≠ .alone d) → rTextSaid w0 t
  | .empty, h, _ => rtext_E w0
  | .alone d, _, hn => absurd rfl (hn d)
  | .node y l r, h, _ => rtext_N w0 y l r h.1 (digT_size h.2.1) (digT_size h.2.2) (rdigest_all w0 l h.2.1) (rdigest_all w0 r h.2.2)
end Go.Proofs.YtjohkmkgmbihkaaGreatDoor

namespace Go.Proofs.YtjohkmkgmbihkaaGreatDoor
set_option linter.unusedVariables false
open Go.ChangeShapes Go.WideShapes Go.ChangeAt Go.RowKit
theorem rdA_sz {s : ByteArray} {t : AT} (h : rdA s = some t) : szT t ≤ 101 := by
  unfold rdA at h
  split at h
  · cases h
  next t' r m hr =>
    split at h
    · simp only [Option.some.injEq] at h
      subst h
      have h1 := rd_cnt _ _ _ _ _ _ hr
      have h2 := (rd_less 50 _ _ _ _ _ hr (by omega)).2.1
      have h3 := szT_cnt t'
      omega
    · cases h
/-- What reading comes to. -/
def ReadPost (s : ByteArray) (w : World) (e : Ending) (w' : World) : Prop := match rdA s with
  | none => ∃ p, e = .returned (.tuple #[.pointer p, .bool false]) ∧ Ext w w'
  | some t => ∃ a v n, e = .returned (.tuple #[.pointer (some ⟨a, 0, none⟩), .bool true]) ∧ An w w w' a v (lay t 0) n s.size s
theorem sfx_end {s : ByteArray} {q : Nat} (hq : q ≤ s.size) : beq (sfx s q) ⟨#[]⟩ = decide (q = s.size) := by
  by_cases h : q = s.size
  · subst h
    have e : sfx s s.size = ⟨#[]⟩ := by
      apply ByteArray.ext
      apply Array.eq_empty_of_size_eq_zero
      have := sfx_size s s.size
      rw [Nat.sub_self] at this
      exact this
    rw [e]
    simp [beq]
  · have hne : sfx s q ≠ ⟨#[]⟩ := by
      intro e
      have h1 := sfx_size s q
      rw [e] at h1
      have h2 : (⟨#[]⟩ : ByteArray).size = 0 := rfl
      omega
    rw [beq_false.2 hne]
    simp [h]
set_option maxHeartbeats 4000000 in
set_option maxRecDepth 100000 in
theorem rRead_any (s : ByteArray) (hs : s.size ≤ 140737488351232) (w : World) :
    Calls Tryz.prog 32 #[.string s] w fun e w' => ReadPost s w e w' := by
  have hx1 := (Ext.refl w).alloc (.cells #[.slice none 0 0, .int .i64 0, .int .i64 0, .string s] 109)
  have hn1 := heap_alloc_new w (.cells #[.slice none 0 0, .int .i64 0, .int .i64 0, .string s] 109)
  have hA : An w w (w.alloc (.cells #[.slice none 0 0, .int .i64 0, .int .i64 0, .string s] 109)) w.heap.size (.slice none 0 0) [] 0 0 s :=
    ⟨Nat.le_refl _, hn1, World.ownsRow_nil _ _ _ _, hx1, Tf.of hx1⟩
  have HT := hid (rtree_all w s hs 50 w _ w.heap.size _ [] 0 0 hA (by omega) (by omega) (by omega) (by simp))
  have HR := hid (show rdA s = match rd 50 (sfx s 0) 0 with | none => none | some (t, r, _) => if beq r ⟨#[]⟩ then some t else none by rw [sfx_zero]; rfl)
  clear hx1 hn1 hA
  cases hrd : rd 50 (sfx s 0) 0 with
  | none =>
    rw [hrd] at HT HR
    clear hrd
    go_enter Tryz.func32, Tryz.ntmps32
    go_wp2_with fail
    refine HT.out.mono ?_
    rintro e w2 ⟨rfl, hx2⟩
    have HX2 := hid hx2
    clear hx2
    go_wp2_with fail
    go_quiet (fail)
    go_wp2_with fail
    go_ret2
    unfold ReadPost
    rw [HR.out]
    exact ⟨_, rfl, HX2.out.drewN _⟩
  | some y =>
    obtain ⟨t, r, m⟩ := y
    rw [hrd] at HT HR
    clear hrd
    go_enter Tryz.func32, Tryz.ntmps32
    go_wp2_with fail
    refine HT.out.mono ?_
    rintro e w2 ⟨rfl, v', q, rfl, hq, hA2⟩
    have hse := sfx_end hq
    simp only [hse] at HR
    have c2 := hA2.c2
    have HA2 := hid hA2
    clear hA2 hse HT
    by_cases hqs : q = s.size
    · subst hqs
      have HR' : Hid (rdA s = some t) := hid (by rw [HR.out]; simp)
      clear HR
      go_wp2_with fail
      go_quiet (fail)
      go_wp2_with fail
      go_ret2
      unfold ReadPost
      rw [HR'.out]
      exact ⟨_, _, _, rfl, HA2.out.dn⟩
    · have HR' : Hid (rdA s = none) := hid (by rw [HR.out]; simp [hqs])
      have hqi : ((q : Int) == (s.size : Int)) = false := by simp; omega
      clear HR
      go_wp2_with fail
      go_quiet (fail)
      go_wp2_with fail
      go_ret2
      unfold ReadPost
      rw [HR'.out]
      exact ⟨_, rfl, HA2.out.dn.ext⟩
def LookPost (lo hi s : ByteArray) (w : World) (e : Ending) (w' : World) : Prop :=
  (lookE lo hi s ≠ 0 ∧ e = .returned (.tuple #[.pointer none, .string ⟨#[]⟩, .int .i64 (lookE lo hi s)]) ∧ Ext w w') ∨
  (lookE lo hi s = 0 ∧ ∃ t a v T n, rdA s = some t ∧ okT lo hi t e0 e0 = true ∧ e = .returned (.tuple #[.pointer (some ⟨a, 0, none⟩), .string (digT t), .int .i64 0]) ∧ An w w w' a v T n s.size s ∧ T.map TR.core = (lay t 0).map TR.core)
set_option maxHeartbeats 4000000 in
set_option maxRecDepth 100000 in
theorem rLook_any (lo hi s : ByteArray) (hs : s.size ≤ 140737488351232) (w : World) :
    Calls Tryz.prog 13 #[.string lo, .string hi, .string s] w fun e w' => LookPost lo hi s w e w' := by
  have HK := hid (rAsked_any lo hi w)
  by_cases ha : askE lo hi = 0
  · rw [ha] at HK
    have HL := hid (show lookE lo hi s = match rdA s with | none => 7 | some t => if okT lo hi t e0 e0 then 0 else 8 by unfold lookE; rw [if_neg (by simp [ha])]; rfl)
    have HRD := hid (rRead_any s hs w)
    clear ha
    go_enter Tryz.func13, Tryz.ntmps13
    go_wp2_with fail
    refine HK.out.mono ?_
    rintro e w1 ⟨rfl, hw⟩
    replace hw := hw.symm
    subst hw
    go_wp2_with fail
    refine HRD.out.mono ?_
    intro e w2 hp
    unfold ReadPost at hp
    cases hrd : rdA s with
    | none =>
      rw [hrd] at hp HL
      obtain ⟨p, rfl, hx⟩ := hp
      have HX := hid hx
      clear hx hrd
      go_wp2_with fail
      go_ret3
      unfold LookPost
      rw [HL.out]
      exact .inl ⟨by decide, rfl, HX.out⟩
    | some t =>
      rw [hrd] at hp HL
      obtain ⟨a, v, n, rfl, hA⟩ := hp
      have hsz := rdA_sz hrd
      have hok := (rdA_gives hrd).1
      have hll := lay_len t 0
      have hpos := szT_cnt t
      obtain ⟨g, c, ev, _⟩ := hA.blk (by omega)
      subst ev
      have HB := hid (rbound_any w lo hi t w w2 a g c _ (lay t 0) n s.size 0 s e0 e0 hA rfl (hold_lay t) (by omega))
      have HD := hid (rdigest_all w t hok)
      have HRD2 := hid hrd
      clear hrd hA HRD
      go_wp2_with fail
      refine HB.out.mono ?_
      rintro e w3 ⟨rfl, _, T', hco, hA3⟩
      cases hb : okT lo hi t e0 e0 with
      | false =>
        have HB2 := hid hb
        have HX := hid hA3.ext
        clear hb hA3
        go_wp2_with fail
        go_ret3
        unfold LookPost
        rw [HL.out]
        simp only [HB2.out]
        exact .inl ⟨by decide, rfl, HX.out⟩
      | true =>
        have HB2 := hid hb
        have HA3 := hid hA3
        have hlen := core_len hco
        have HHO := hid ((hold_lay t).core hco)
        clear hb hA3
        go_wp2_with fail
        refine (HD.out w w3 a _ T' n s.size 0 s HA3.out HHO.out (by omega)).mono ?_
        rintro e w4 ⟨rfl, hx4⟩
        have HA4 := hid (HA3.out.next hx4)
        clear hx4
        go_wp2_with fail
        go_ret3
        unfold LookPost
        rw [HL.out]
        simp only [HB2.out]
        exact .inr ⟨rfl, t, a, _, T', n, HRD2.out, HB2.out, rfl, HA4.out, hco⟩
  · have HL := hid (show lookE lo hi s = askE lo hi by unfold lookE; rw [if_pos ha])
    have HNE := hid ha
    generalize askE lo hi = ak at *
    go_enter Tryz.func13, Tryz.ntmps13
    go_wp2_with fail
    refine HK.out.mono ?_
    rintro e w1 ⟨rfl, hw⟩
    replace hw := hw.symm
    subst hw
    go_wp2_with fail
    go_ret3
    unfold LookPost
    rw [HL.out]
    exact .inl ⟨HNE.out, rfl, Ext.refl _⟩
end Go.Proofs.YtjohkmkgmbihkaaGreatDoor

namespace Go.Proofs.YtjohkmkgmbihkaaGreatDoor
set_option linter.unusedVariables false
theorem rask_inR (lo hi k : ByteArray) : askB lo hi k = inR lo hi k := by
  unfold askB inR
  congr 1
  cases h1 : Op.bytesLess k.toList lo.toList with
  | true =>
    have h2 : lt lo k = false := lt_asymm (show lt k lo = true from h1)
    have h3 : beq lo k = false := beq_false.2 (fun e => by subst e; rw [bl_irrefl] at h1; cases h1)
    show (lt lo k || beq lo k) = !true
    rw [h2, h3]; rfl
  | false =>
    cases h2 : Op.bytesLess lo.toList k.toList with
    | true => rfl
    | false =>
      have := bl_tri _ _ h1 h2
      simp [this]
/-- All nodes, from left to right. -/
def nodesT : AT → List It
  | .empty => []
  | .alone _ => []
  | .node x l r => nodesT l ++ x :: nodesT r
theorem key_ne {x : It} (h : fault x.key x.val x.h = 0) : x.key ≠ ⟨#[]⟩ := by
  intro e
  have hk : keyB x.key = true := by
    cases hq : keyB x.key with
    | true => rfl
    | false => simp [fault, hq] at h
  have := of_decide_eq_true hk
  rw [e] at this
  exact absurd this.1 (by decide)
theorem nodes_ok : ∀ {t : AT}, okA t → ∀ x ∈ nodesT t, x.key ≠ ⟨#[]⟩
  | .empty, _, x, h => by cases h
  | .alone _, _, x, h => by cases h
  | .node y l r, ho, x, h => by
    simp only [nodesT, List.mem_append, List.mem_cons] at h
    rcases h with h | rfl | h
    · exact nodes_ok ho.2.1 x h
    · exact key_ne ho.1
    · exact nodes_ok ho.2.2 x h
theorem hold_lo {a b k : ByteArray} (h : holdB a b k = true) (ha : a ≠ ⟨#[]⟩) : lt a k = true := by
  unfold holdB at h
  rw [beq_false.2 ha] at h
  simp only [Bool.false_or, Bool.and_eq_true] at h
  exact h.1
theorem hold_hi {a b k : ByteArray} (h : holdB a b k = true) (hb : b ≠ ⟨#[]⟩) : lt k b = true := by
  unfold holdB at h
  rw [beq_false.2 hb] at h
  simp only [Bool.false_or, Bool.and_eq_true] at h
  exact h.2
theorem hold_both {a b k : ByteArray} (h1 : a ≠ ⟨#[]⟩ → lt a k = true) (h2 : b ≠ ⟨#[]⟩ → lt k b = true) : holdB a b k = true := by
  unfold holdB
  rw [Bool.and_eq_true]
  constructor
  · by_cases h : a = ⟨#[]⟩
    · rw [beq_iff.2 h]; rfl
    · rw [h1 h, Bool.or_true]
  · by_cases h : b = ⟨#[]⟩
    · rw [beq_iff.2 h]; rfl
    · rw [h2 h, Bool.or_true]
/-- The nodes of an answer without fault lie between their bounds, by rising keys. -/
theorem nodes_sorted (lo hi : ByteArray) : ∀ (t : AT) (a b : ByteArray), okA t → okT lo hi t a b = true → Sorted (nodesT t) ∧ ∀ x ∈ nodesT t, holdB a b x.key = true
  | .empty, a, b, _, _ => ⟨List.Pairwise.nil, fun x h => by cases h⟩
  | .alone _, a, b, _, _ => ⟨List.Pairwise.nil, fun x h => by cases h⟩
  | .node y l r, a, b, ho, h => by
    simp only [okT, Bool.and_eq_true] at h
    obtain ⟨⟨⟨_, hy⟩, hl⟩, hr⟩ := h
    obtain ⟨sl, bl⟩ := nodes_sorted lo hi l a y.key ho.2.1 hl
    obtain ⟨sr, br⟩ := nodes_sorted lo hi r y.key b ho.2.2 hr
    have hk := key_ne ho.1
    constructor
    · unfold nodesT Sorted
      rw [List.pairwise_append]
      refine ⟨sl, List.pairwise_cons.2 ⟨fun z hz => hold_lo (br z hz) hk, sr⟩, ?_⟩
      intro u hu z hz
      have h1 := hold_hi (bl u hu) hk
      rcases List.mem_cons.1 hz with rfl | hz
      · exact h1
      · exact lt_trans h1 (hold_lo (br z hz) hk)
    · intro z hz
      simp only [nodesT, List.mem_append, List.mem_cons] at hz
      rcases hz with hz | rfl | hz
      · exact hold_both (fun ha => hold_lo (bl z hz) ha) (fun hb => lt_trans (hold_hi (bl z hz) hk) (hold_hi hy hb))
      · exact hy
      · exact hold_both (fun ha => lt_trans (hold_lo hy ha) (hold_lo (br z hz) hk)) (fun hb => hold_hi (br z hz) hb)
theorem prsT_nodes (lo hi : ByteArray) : ∀ t : AT, prsT lo hi t = askL lo hi (nodesT t)
  | .empty => rfl
  | .alone _ => rfl
  | .node y l r => by
    simp only [prsT, nodesT]
    rw [prsT_nodes lo hi l, prsT_nodes lo hi r]
    unfold prsN askL
    rw [List.filter_append, List.filter_cons]
    split
    · simp
    · simp
/-- The items of the list of trees. -/
theorem lay_mem1 : ∀ (t : AT) (i : Nat), ∀ y ∈ (lay t i).map TR.it, y.key = ⟨#[]⟩ ∨ y ∈ nodesT t
  | .empty, i, y, h => by simp [lay, tr0] at h; subst h; exact .inl rfl
  | .alone d, i, y, h => by simp [lay, tr0] at h; subst h; exact .inl rfl
  | .node x l r, i, y, h => by
    simp only [lay, List.map_cons, List.map_append, List.mem_cons, List.mem_append] at h
    rcases h with rfl | h | h
    · right; simp [nodesT]
    · rcases lay_mem1 l _ y h with h | h
      · exact .inl h
      · right; simp [nodesT, h]
    · rcases lay_mem1 r _ y h with h | h
      · exact .inl h
      · right; simp [nodesT, h]
theorem lay_mem2 : ∀ (t : AT) (i : Nat), ∀ y ∈ nodesT t, y ∈ (lay t i).map TR.it
  | .empty, i, y, h => by cases h
  | .alone d, i, y, h => by cases h
  | .node x l r, i, y, h => by
    simp only [nodesT, List.mem_append, List.mem_cons] at h
    simp only [lay, List.map_cons, List.map_append, List.mem_cons, List.mem_append]
    rcases h with h | rfl | h
    · exact .inr (.inl (lay_mem2 l _ y h))
    · exact .inl rfl
    · exact .inr (.inr (lay_mem2 r _ y h))
theorem core_it {T T' : List TR} (e : T'.map TR.core = T.map TR.core) : T'.map TR.it = T.map TR.it := by
  have h : ∀ M : List TR, M.map TR.it = (M.map TR.core).map TR.it := by intro M; simp [TR.core]
  rw [h T', h T, e]
/-- Is a key the next one? -/
def cand (last lo hi k : ByteArray) : Bool := lt last k && askB lo hi k
/-- The best of the first ones. -/
def BestTo (I : List It) (last lo hi : ByteArray) (i : Nat) : Option Nat → Prop
  | none => ∀ j (h : j < I.length), j < i → cand last lo hi I[j].key = false
  | some b => ∃ hb : b < I.length, b < i ∧ cand last lo hi I[b].key = true ∧ ∀ j (h : j < I.length), j < i → cand last lo hi I[j].key = true → lt I[j].key I[b].key = false
/-- The last key of the first ones. -/
def lastK (P : List Pq) : Nat → ByteArray
  | 0 => ⟨#[]⟩
  | m + 1 => (P.getD m (⟨#[]⟩, ⟨#[]⟩)).1
theorem lt_nil (k : ByteArray) : lt k ⟨#[]⟩ = false := by
  unfold lt
  rw [ByteArray.toList_eq ⟨#[]⟩]
  cases k.toList <;> rfl
theorem nil_lt {k : ByteArray} (h : k ≠ ⟨#[]⟩) : lt ⟨#[]⟩ k = true := by
  cases hq : lt ⟨#[]⟩ k with
  | true => rfl
  | false => exact absurd (lt_tri (lt_nil k) hq) h
def SortedP (P : List Pq) : Prop := P.Pairwise fun a b => lt a.1 b.1 = true
theorem askL_sorted (lo hi : ByteArray) {N : List It} (h : Sorted N) : SortedP (askL lo hi N) := by
  unfold SortedP askL
  rw [List.pairwise_map]
  exact List.Pairwise.sublist List.filter_sublist h
theorem sortedP_get {P : List Pq} (h : SortedP P) {i j : Nat} (hij : i < j) (hj : j < P.length) : lt (P[i]'(by omega)).1 P[j].1 = true := List.pairwise_iff_getElem.1 h i j (by omega) hj hij
theorem getD_get (P : List Pq) (m : Nat) (d : Pq) (h : m < P.length) : P.getD m d = P[m] := by simp [List.getD, h]
theorem next_cand {I N : List It} {lo hi : ByteArray} (hs : Sorted N) (h2 : ∀ y ∈ N, y ∈ I) (h3 : ∀ y ∈ N, y.key ≠ ⟨#[]⟩) {m : Nat} (hm : m < (askL lo hi N).length) : ∃ j, ∃ hj : j < I.length, I[j].key = (askL lo hi N)[m].1 ∧ cand (lastK (askL lo hi N) m) lo hi I[j].key = true := by
  have hx : (askL lo hi N)[m] ∈ askL lo hi N := List.getElem_mem hm
  unfold askL at hx
  obtain ⟨x, hx1, hx2⟩ := List.mem_map.1 hx
  obtain ⟨hxN, hxa⟩ := List.mem_filter.1 hx1
  obtain ⟨j, hj, hje⟩ := List.getElem_of_mem (h2 x hxN)
  have hk : (askL lo hi N)[m].1 = x.key := (congrArg Prod.fst hx2).symm
  refine ⟨j, hj, by rw [hje, hk], ?_⟩
  rw [hje]
  unfold cand
  rw [Bool.and_eq_true]
  refine ⟨?_, hxa⟩
  cases m with
  | zero => exact nil_lt (h3 x hxN)
  | succ m =>
    show lt ((askL lo hi N).getD m (⟨#[]⟩, ⟨#[]⟩)).1 x.key = true
    rw [getD_get _ _ _ (by omega), ← hk]
    exact sortedP_get (askL_sorted lo hi hs) (by omega) hm
theorem best_none {I N : List It} {lo hi : ByteArray} (hs : Sorted N) (h2 : ∀ y ∈ N, y ∈ I) (h3 : ∀ y ∈ N, y.key ≠ ⟨#[]⟩) {m : Nat} (hm : m ≤ (askL lo hi N).length) (hb : BestTo I (lastK (askL lo hi N) m) lo hi I.length none) : m = (askL lo hi N).length := by
  by_cases hlt : m < (askL lo hi N).length
  · obtain ⟨j, hj, _, hc⟩ := next_cand (I := I) hs h2 h3 hlt
    have := hb j hj hj
    rw [hc] at this
    cases this
  · omega
theorem best_some {I N : List It} {lo hi : ByteArray} (hs : Sorted N) (h1 : ∀ y ∈ I, y.key = ⟨#[]⟩ ∨ y ∈ N) (h2 : ∀ y ∈ N, y ∈ I) (h3 : ∀ y ∈ N, y.key ≠ ⟨#[]⟩) {m b : Nat} (hm : m ≤ (askL lo hi N).length) (hb : BestTo I (lastK (askL lo hi N) m) lo hi I.length (some b)) : ∃ hb : b < I.length, ∃ hlt : m < (askL lo hi N).length, (askL lo hi N)[m] = (I[b].key, I[b].val) := by
  obtain ⟨hbl, _, hc, hmin⟩ := hb
  unfold cand at hc
  rw [Bool.and_eq_true] at hc
  have hne : I[b].key ≠ ⟨#[]⟩ := by
    intro e
    rw [e, lt_nil] at hc
    cases hc.1
  have hN : I[b] ∈ N := by
    rcases h1 _ (List.getElem_mem hbl) with h | h
    · exact absurd h hne
    · exact h
  have hP : (I[b].key, I[b].val) ∈ askL lo hi N := by
    unfold askL
    exact List.mem_map.2 ⟨I[b], List.mem_filter.2 ⟨hN, hc.2⟩, rfl⟩
  obtain ⟨j, hj, hje⟩ := List.getElem_of_mem hP
  have hjm : m ≤ j := by
    by_cases hlt : m ≤ j
    · exact hlt
    · exfalso
      cases m with
      | zero => omega
      | succ m =>
        have hl : lt ((askL lo hi N).getD m (⟨#[]⟩, ⟨#[]⟩)).1 I[b].key = true := hc.1
        rw [getD_get _ _ _ (by omega)] at hl
        have hk : (askL lo hi N)[j].1 = I[b].key := by rw [hje]
        by_cases hjm : j = m
        · subst hjm
          rw [hk, lt_irrefl] at hl
          cases hl
        · have := sortedP_get (askL_sorted lo hi hs) (show j < m by omega) (by omega)
          rw [hk] at this
          rw [lt_asymm this] at hl
          cases hl
  refine ⟨hbl, by omega, ?_⟩
  obtain ⟨q, hq, hqk, hqc⟩ := next_cand (I := I) hs h2 h3 (show m < (askL lo hi N).length by omega)
  have hno := hmin q hq hq hqc
  rw [hqk] at hno
  by_cases hjm' : j = m
  · subst hjm'
    exact hje
  · exfalso
    have := sortedP_get (askL_sorted lo hi hs) (show m < j by omega) hj
    rw [hje] at this
    rw [this] at hno
    cases hno
theorem best_start (I : List It) (last lo hi : ByteArray) : BestTo I last lo hi 0 none := fun j h hj => by omega
theorem best_skip {I : List It} {last lo hi : ByteArray} {i : Nat} (hi' : i < I.length) {o : Option Nat} (hb : BestTo I last lo hi i o) (hc : cand last lo hi I[i].key = false) : BestTo I last lo hi (i + 1) o := by
  cases o with
  | none =>
    intro j h hj
    by_cases e : j = i
    · subst e; exact hc
    · exact hb j h (by omega)
  | some b =>
    obtain ⟨h1, h2, h3, h4⟩ := hb
    refine ⟨h1, by omega, h3, fun j h hj hcj => ?_⟩
    by_cases e : j = i
    · subst e; rw [hc] at hcj; cases hcj
    · exact h4 j h (by omega) hcj
theorem best_first {I : List It} {last lo hi : ByteArray} {i : Nat} (hi' : i < I.length) (hb : BestTo I last lo hi i none) (hc : cand last lo hi I[i].key = true) : BestTo I last lo hi (i + 1) (some i) := by
  refine ⟨hi', by omega, hc, fun j h hj hcj => ?_⟩
  by_cases e : j = i
  · subst e; exact lt_irrefl _
  · have := hb j h (by omega)
    rw [hcj] at this
    cases this
theorem best_less {I : List It} {last lo hi : ByteArray} {i b : Nat} (hi' : i < I.length) (hbl : b < I.length) (hb : BestTo I last lo hi i (some b)) (hc : cand last lo hi I[i].key = true) (hl : lt I[i].key I[b].key = true) : BestTo I last lo hi (i + 1) (some i) := by
  obtain ⟨h1, h2, h3, h4⟩ := hb
  refine ⟨hi', by omega, hc, fun j h hj hcj => ?_⟩
  by_cases e : j = i
  · subst e; exact lt_irrefl _
  · have := h4 j h (by omega) hcj
    cases hq : lt I[j].key I[i].key with
    | false => rfl
    | true => rw [lt_trans hq hl] at this; cases this
theorem best_more {I : List It} {last lo hi : ByteArray} {i b : Nat} (hi' : i < I.length) (hbl : b < I.length) (hb : BestTo I last lo hi i (some b)) (hl : lt I[i].key I[b].key = false) : BestTo I last lo hi (i + 1) (some b) := by
  obtain ⟨h1, h2, h3, h4⟩ := hb
  refine ⟨h1, by omega, h3, fun j h hj hcj => ?_⟩
  by_cases e : j = i
  · subst e; exact hl
  · exact h4 j h (by omega) hcj
end Go.Proofs.YtjohkmkgmbihkaaGreatDoor

namespace Go.Proofs.YtjohkmkgmbihkaaGreatDoor
set_option linter.unusedVariables false
open Go.ChangeShapes Go.WideShapes Go.ChangeAt Go.RowKit
def lenOf : Value → Nat
  | .slice _ n _ => n
  | _ => 0
def bestV : Option Nat → Int
  | none => -1
  | some b => b
theorem it_get {T : List TR} {I : List It} (h : T.map TR.it = I) {j : Nat} (hj : j < T.length) : T[j].it = I[j]'(by rw [← h]; simpa using hj) := by
  subst h; simp
theorem prs_le (lo hi : ByteArray) : ∀ t : AT, (prsT lo hi t).length ≤ cntT t
  | .empty => Nat.le_refl _
  | .alone _ => Nat.le_refl _
  | .node x l r => by
    have h1 := prs_le lo hi l
    have h2 := prs_le lo hi r
    simp only [prsT, cntT]
    unfold prsN
    split <;> simp <;> omega

set_option maxHeartbeats 16000000 in
set_option maxRecDepth 100000 in
theorem rCheck_any (dg lo hi s : ByteArray) (hs : s.size ≤ 140737488351232) (w : World) :
    Calls Tryz.prog 29 #[.string dg, .string lo, .string hi, .string s] w fun e w' => ∃ v, e = .returned (.tuple #[v, .int .i64 (chkE dg lo hi s)]) ∧ Ext w w' ∧ ROwn w w' (chkL dg lo hi s) v := by
  have HLK := hid (rLook_any lo hi s hs w)
  go_enter Tryz.func29, Tryz.ntmps29
  go_wp2_with fail
  refine HLK.out.mono ?_
  intro e w2 hp
  rcases hp with ⟨hne, rfl, hx2⟩ | ⟨h0, t, a, v, T, n, hrd, hok, rfl, hA, hco⟩
  · have HE := hid (show chkE dg lo hi s = lookE lo hi s by unfold chkE; rw [if_pos hne])
    have HL := hid (show chkL dg lo hi s = [] by unfold chkL; rw [if_pos (by rw [HE.out]; exact hne)])
    have HX := hid hx2
    have HN := hid hne
    clear hx2
    generalize lookE lo hi s = le at *
    go_wp2_with fail
    go_ret2
    rw [HE.out, HL.out]
    exact ⟨_, rfl, HX.out, World.ownsRow_nil _ _ _ _⟩
  · cases hb : beq (digT t) dg with
    | false =>
      have hbb : ((digT t).toList == dg.toList) = false := hb
      have HE := hid (show chkE dg lo hi s = 9 by unfold chkE; rw [if_neg (by simp [h0]), hrd]; simp [hb])
      have HL := hid (show chkL dg lo hi s = [] by unfold chkL; rw [if_pos (by rw [HE.out]; decide)])
      have HX := hid hA.ext
      clear hA hb
      generalize digT t = dt at *
      go_wp2_with fail
      go_ret2
      rw [HE.out, HL.out]
      exact ⟨_, rfl, HX.out, World.ownsRow_nil _ _ _ _⟩
    | true =>
      have hbb : ((digT t).toList == dg.toList) = true := hb
      have HE := hid (show chkE dg lo hi s = 0 by unfold chkE; rw [if_neg (by simp [h0]), hrd]; simp [hb])
      have hoa := (rdA_gives hrd).1
      have hso := (nodes_sorted lo hi t e0 e0 hoa hok).1
      have hno := nodes_ok hoa
      have HL := hid (show chkL dg lo hi s = askL lo hi (nodesT t) by unfold chkL; rw [if_neg (by rw [HE.out]; decide), hrd]; exact prsT_nodes lo hi t)
      have hit := core_it hco
      have hm1 := lay_mem1 t 0
      have hm2 := lay_mem2 t 0
      have hsz := rdA_sz hrd
      have hcn := szT_cnt t
      have hpl := prs_le lo hi t
      rw [prsT_nodes] at hpl
      have hlen : T.length = szT t := by rw [core_len hco, lay_len]
      obtain ⟨g, c, ev, hg, _, _⟩ := hA.blk (by omega)
      subst ev
      obtain ⟨_, _, ee, hc1, hc2⟩ := hA.shape
      simp only [Value.slice.injEq] at ee
      obtain ⟨-, -, rfl⟩ := ee
      obtain ⟨I, hI⟩ : ∃ z, z = (lay t 0).map TR.it := ⟨_, rfl⟩
      rw [← hI] at hit hm1 hm2
      have hIl : I.length = T.length := by rw [← hit]; simp
      have HC := hid (fun (wr : World) (hx : Ext w2 wr) (j : Nat) (hj : j < I.length) => (by
        have hjT : j < T.length := by omega
        have q2 := hA.at9 hjT (j := 2) (u := .string T[j].it.key) (by omega) rfl
        have q3 := hA.at9 hjT (j := 3) (u := .string T[j].it.val) (by omega) rfl
        rw [it_get hit hjT] at q2 q3
        exact ⟨hx.keep1 q2, hx.keep1 q3⟩ : wr.cell? ⟨g, j * 9 + 2, none⟩ = some (.string I[j].key) ∧ wr.cell? ⟨g, j * 9 + 3, none⟩ = some (.string I[j].val)))
      have c0 := hA.c0
      have HX2 := hid hA.ext
      have HSN := hid (fun m hm hb => best_none (I := I) (N := nodesT t) (lo := lo) (hi := hi) hso hm2 hno (m := m) hm hb)
      have HSS := hid (fun m b hm hb => best_some (I := I) (N := nodesT t) (lo := lo) (hi := hi) hso hm1 hm2 hno (m := m) (b := b) hm hb)
      clear hA hb hso hno hm1 hm2 hit hI hco hrd hok hoa HLK h0
      generalize digT t = dt at *
      generalize askL lo hi (nodesT t) = P at *
      have hP : P.length ≤ 101 := by omega
      have hI101 : I.length ≤ 101 := by omega
      rw [← hIl] at c0 hc1
      clear hpl hcn hsz hlen hIl
      go_wp2_with fail
      go_loopw [13, 14, 15, 16, 17] (fun out last _ _ _ wr => ∃ (m : Nat) (oa : Option Addr) (oc : Nat), m ≤ P.length ∧ out = .slice oa m oc ∧ last = .string (lastK P m) ∧ Ext w2 wr ∧ wr.ownsRow w2.heap.size 53 2 (.slice oa m oc) (P.take m).length (pc (P.take m))) (fun out _ _ _ _ _ => P.length - lenOf out)
      case atStart => exact ⟨0, _, _, by omega, rfl, rfl, Ext.refl _, World.ownsRow_nil _ _ _ _⟩
      case round =>
        obtain ⟨WR, rfl⟩ : ∃ x, x = wr := ⟨_, rfl⟩
        obtain ⟨m, oa, oc, hm, rfl, rfl, hx, hown⟩ := hrel
        have HX := hid hx
        have HO := hid hown
        have c0r := hx.keep1 c0
        clear hx hown
        have HSNm := hid (HSN.out m hm)
        have HSSm := hid (fun b hb => HSS.out m b hm hb)
        generalize lastK P m = last at *
        go_wp2_with fail
        go_loopw [15, 16, 17] (fun best i _ wr => ∃ (j : Nat) (o : Option Nat), j ≤ I.length ∧ i = .int .i64 j ∧ best = .int .i64 (bestV o) ∧ BestTo I last lo hi j o ∧ wr = WR) (fun _ i _ _ => I.length - (intOf i).toNat)
        case atStart => exact ⟨0, none, by omega, rfl, rfl, best_start _ _ _ _, rfl⟩
        case round =>
          obtain ⟨j, o, hj, rfl, rfl, hbt, hw⟩ := hrel
          replace hw := hw.symm
          subst hw
          have HBT := hid hbt
          clear hbt
          by_cases hlt : j < I.length
          · obtain ⟨k2, k3⟩ := HC.out WR HX.out j hlt
            have hlt1 : (j : Int) < (I.length : Int) := by omega
            have HAI := hid (rask_inR lo hi I[j].key)
            have HCE := hid (show cand last lo hi I[j].key = (lt last I[j].key && askB lo hi I[j].key) from rfl)
            cases c1 : Op.bytesLess I[j].key.toList last.toList with
            | true =>
              have HCD := hid (show cand last lo hi I[j].key = false by rw [HCE.out, lt_asymm (show lt I[j].key last = true from c1)]; rfl)
              go_wp2_with fail
              go_roundw
              case rel => exact ⟨j + 1, o, by omega, by go_num, rfl, best_skip hlt HBT.out HCD.out, trivial⟩
              case measure => simp [intOf]; omega
            | false =>
              by_cases c2 : I[j].key.toList = last.toList
              · have c3 : (I[j].key.toList == last.toList) = true := by simpa using c2
                have HCD := hid (show cand last lo hi I[j].key = false by rw [HCE.out, toList_inj c2, lt_irrefl]; rfl)
                go_wp2_with fail
                go_roundw
                case rel => exact ⟨j + 1, o, by omega, by go_num, rfl, best_skip hlt HBT.out HCD.out, trivial⟩
                case measure => simp [intOf]; omega
              · have c3 : (I[j].key.toList == last.toList) = false := by simpa using c2
                have hb1 : lt last I[j].key = true := by
                  cases hq : lt last I[j].key with
                  | true => rfl
                  | false => exact absurd (bl_tri _ _ c1 hq) c2
                have B1 := hid hb1
                clear hb1
                cases b2 : Op.bytesLess I[j].key.toList lo.toList with
                | true =>
                  have HCD := hid (show cand last lo hi I[j].key = false by rw [HCE.out, HAI.out]; unfold inR; rw [b2]; simp)
                  go_wp2_with fail
                  go_roundw
                  case rel => exact ⟨j + 1, o, by omega, by go_num, rfl, best_skip hlt HBT.out HCD.out, trivial⟩
                  case measure => simp [intOf]; omega
                | false =>
                  cases b4 : Op.bytesLess I[j].key.toList hi.toList with
                  | true =>
                    have HCD := hid (show cand last lo hi I[j].key = true by rw [HCE.out, HAI.out, B1.out]; unfold inR; rw [b2, b4]; rfl)
                    cases o with
                    | none =>
                      have hbv : bestV none = -1 := rfl
                      go_wp2_with fail
                      go_roundw
                      case rel => exact ⟨j + 1, some j, by omega, by go_num, rfl, best_first hlt HBT.out HCD.out, trivial⟩
                      case measure => simp [intOf]; omega
                    | some b =>
                      have hbv : bestV (some b) = (b : Int) := rfl
                      obtain ⟨hbl, hbj, _, _⟩ := HBT.out
                      obtain ⟨m2, m3⟩ := HC.out WR HX.out b hbl
                      have hb0 : ¬ ((b : Int) < 0) := by omega
                      have hb1 : (b : Int) < (I.length : Int) := by omega
                      cases b6 : Op.bytesLess I[j].key.toList I[b].key.toList with
                      | true =>
                        go_wp2_with fail
                        go_roundw
                        case rel => exact ⟨j + 1, some j, by omega, by go_num, rfl, best_less hlt hbl HBT.out HCD.out b6, trivial⟩
                        case measure => simp [intOf]; omega
                      | false =>
                        go_wp2_with fail
                        go_roundw
                        case rel => exact ⟨j + 1, some b, by omega, by go_num, rfl, best_more hlt hbl HBT.out b6, trivial⟩
                        case measure => simp [intOf]; omega
                  | false =>
                    by_cases b5' : I[j].key.toList = hi.toList
                    · have b5 : (I[j].key.toList == hi.toList) = true := by simpa using b5'
                      have HCD := hid (show cand last lo hi I[j].key = true by rw [HCE.out, HAI.out, B1.out]; unfold inR; rw [b2, b4, b5]; rfl)
                      rw [b5'] at c1 c2 c3 b2 b4
                      clear b5
                      cases o with
                      | none =>
                        have hbv : bestV none = -1 := rfl
                        go_wp2_with fail
                        go_roundw
                        case rel => exact ⟨j + 1, some j, by omega, by go_num, rfl, best_first hlt HBT.out HCD.out, trivial⟩
                        case measure => simp [intOf]; omega
                      | some b =>
                        have hbv : bestV (some b) = (b : Int) := rfl
                        obtain ⟨hbl, hbj, _, _⟩ := HBT.out
                        obtain ⟨m2, m3⟩ := HC.out WR HX.out b hbl
                        have hb0 : ¬ ((b : Int) < 0) := by omega
                        have hb1 : (b : Int) < (I.length : Int) := by omega
                        cases b6 : Op.bytesLess hi.toList I[b].key.toList with
                        | true =>
                          go_wp2_with fail
                          go_roundw
                          case rel => exact ⟨j + 1, some j, by omega, by go_num, rfl, best_less hlt hbl HBT.out HCD.out (by unfold lt; rw [b5']; exact b6), trivial⟩
                          case measure => simp [intOf]; omega
                        | false =>
                          go_wp2_with fail
                          go_roundw
                          case rel => exact ⟨j + 1, some b, by omega, by go_num, rfl, best_more hlt hbl HBT.out (by unfold lt; rw [b5']; exact b6), trivial⟩
                          case measure => simp [intOf]; omega
                    · have b5 : (I[j].key.toList == hi.toList) = false := by simpa using b5'
                      have HCD := hid (show cand last lo hi I[j].key = false by rw [HCE.out, HAI.out]; unfold inR; rw [b4, b5]; simp)
                      go_wp2_with fail
                      go_roundw
                      case rel => exact ⟨j + 1, o, by omega, by go_num, rfl, best_skip hlt HBT.out HCD.out, trivial⟩
                      case measure => simp [intOf]; omega
          · obtain rfl : j = I.length := by omega
            have hlt1 : ¬ ((I.length : Int) < (I.length : Int)) := by omega
            cases o with
            | none =>
              have hmP := HSNm.out HBT.out
              have HMP := hid hmP
              clear hmP
              have hbv : bestV none = -1 := rfl
              go_wp2_with fail
              go_ret2
              rw [HE.out, HL.out]
              refine ⟨_, rfl, HX2.out.trans HX.out, ?_⟩
              have h1 := HO.out
              rw [HMP.out, List.take_length] at h1
              rw [HMP.out]
              exact owns_base h1 HX2.out.size
            | some b =>
              obtain ⟨hbl, hmP, hPm⟩ := HSSm.out b HBT.out
              have hbv : bestV (some b) = (b : Int) := rfl
              obtain ⟨m2, m3⟩ := HC.out WR HX.out b hbl
              have hb0 : ¬ ((b : Int) < 0) := by omega
              have hb1 : (b : Int) < (I.length : Int) := by omega
              have e : P.take (m + 1) = P.take m ++ [(I[b].key, I[b].val)] := by rw [List.take_succ_eq_append_getElem hmP, hPm]
              obtain ⟨v', w', hr, ho, hx', _⟩ := append_pair w2 WR (.slice oa m oc) (P.take m) (I[b].key, I[b].val) HX.out HO.out (by simp; omega)
              rw [← e] at ho
              have hlast : lastK P (m + 1) = I[b].key := by
                show (P.getD m (⟨#[]⟩, ⟨#[]⟩)).1 = _
                rw [getD_get _ _ _ hmP, hPm]
              obtain ⟨va, vc, ev, _⟩ := (Prs.own ho).shape
              rw [show (P.take (m + 1)).length = m + 1 by simp; omega] at ev
              subst ev
              have HOO := hid ho
              have HRR := hid hr
              have HXX := hid hx'
              have HLAST := hid hlast
              clear ho hr hx' e hlast hPm
              go_wp2_with (at_builtin; refine wpList_append_run rfl _ _ 27 27 rfl (.slice oa m oc) (.slice (some ⟨WR.heap.size, 0, none⟩) 1 1) rfl rfl _ _ HRR.out ?_)
              go_roundw
              case rel => exact ⟨m + 1, _, _, by omega, rfl, by rw [HLAST.out], HXX.out, HOO.out⟩
              case measure => simp [lenOf]; omega
end Go.Proofs.YtjohkmkgmbihkaaGreatDoor

namespace Go.Proofs.YtjohkmkgmbihkaaGreatDoor
set_option linter.unusedVariables false
open Go.ChangeShapes Go.WideShapes Go.ChangeAt Go.RowKit
theorem chk_empty {dg lo hi s : ByteArray} (h : chkE dg lo hi s ≠ 0) : chkL dg lo hi s = [] := by unfold chkL; rw [if_pos h]
theorem chk_len (dg lo hi s : ByteArray) : (chkL dg lo hi s).length ≤ 101 := by
  unfold chkL
  split
  · simp
  · split
    · simp
    next t hr =>
      have h1 := prs_le lo hi t
      have h2 := rdA_sz hr
      have h3 := szT_cnt t
      omega
set_option maxHeartbeats 4000000 in
set_option maxRecDepth 100000 in
theorem checked_any (dg lo hi s : ByteArray) (hs : s.size ≤ 140737488351232) (w : World) (hg : ErrT w) :
    Calls Tryz.prog 12 #[.string dg, .string lo, .string hi, .string s] w fun e w' => ∃ v, e = .returned (.tuple #[v, .bool true]) ∧ Ext w w' ∧ ROwn w w' (chkL dg lo hi s) v := by
  have C1 := hid (Check_any dg lo hi s (by omega) w hg)
  have C2 := hid (fun w' => rCheck_any dg lo hi s hs w')
  have hlen := chk_len dg lo hi s
  have hem := chk_empty (dg := dg) (lo := lo) (hi := hi) (s := s)
  by_cases h0 : chkE dg lo hi s = 0
  · rw [h0] at C1 C2
    clear hem h0 hg
    generalize chkL dg lo hi s = A at *
    go_enter Tryz.func12, Tryz.ntmps12
    go_wp2_with fail
    refine C1.out.mono ?_
    rintro e w1 ⟨v1, rfl, hx1, ho1⟩
    obtain ⟨a1, c1, rfl⟩ := ho1.shape
    have HX1 := hid hx1
    have HO1 := hid ho1
    clear hx1 ho1
    go_wp2_with fail
    refine (C2.out _).mono ?_
    rintro e w2 ⟨v2, rfl, hx2, ho2⟩
    obtain ⟨a2, c2, rfl⟩ := ho2.shape
    have HX2 := hid (HX1.out.trans hx2)
    have HO2 := hid ho2
    have HO1' := hid (owns_ext HO1.out hx2)
    clear hx2 ho2
    go_wp2_with fail
    refine (samePairs_any A A _ _ _ (Prs.own HO1'.out) (Prs.own HO2.out) (by unfold maxLen; omega) (by unfold maxLen; omega)).mono ?_
    rintro e w3 ⟨rfl, hx3⟩
    have HX3 := hid (HX2.out.trans hx3)
    have HO3 := hid (owns_ext HO1'.out hx3)
    clear hx3
    rw [show decide (A = A) = true by simp]
    go_wp2_with fail
    all_goals
      go_ret2
      exact ⟨_, rfl, HX3.out, HO3.out⟩
  · have hemp := hem h0
    rw [hemp] at C1 C2 ⊢
    have HN := hid h0
    clear hem h0 hg
    generalize chkE dg lo hi s = ce at *
    go_enter Tryz.func12, Tryz.ntmps12
    go_wp2_with fail
    refine C1.out.mono ?_
    rintro e w1 ⟨v1, rfl, hx1, ho1⟩
    obtain ⟨a1, c1, rfl⟩ := ho1.shape
    have HX1 := hid hx1
    have HO1 := hid ho1
    clear hx1 ho1
    go_wp2_with fail
    refine (C2.out _).mono ?_
    rintro e w2 ⟨v2, rfl, hx2, ho2⟩
    obtain ⟨a2, c2, rfl⟩ := ho2.shape
    have HX2 := hid (HX1.out.trans hx2)
    have HO2 := hid ho2
    have HO1' := hid (owns_ext HO1.out hx2)
    clear hx2 ho2
    go_wp2_with fail
    refine (samePairs_any [] [] _ _ _ (Prs.own HO1'.out) (Prs.own HO2.out) (by decide) (by decide)).mono ?_
    rintro e w3 ⟨rfl, hx3⟩
    have HX3 := hid (HX2.out.trans hx3)
    have HO3 := hid (owns_ext HO1'.out hx3)
    clear hx3
    rw [show decide (([] : List Pr) = []) = true by simp]
    go_wp2_with fail
    all_goals
      go_ret2
      exact ⟨_, by first | rfl | simp, HX3.out, HO3.out⟩
/-- The lone book's digest, and its answer. -/
def loneD : ByteArray := Sm.sum ⟨#[78, 1, 107, 1, 118, 2, 49, 52, 100, 49, 52, 100]⟩
def loneA : ByteArray := ⟨#[78, 1, 107, 1, 118, 2, 83, 49, 52, 100, 83, 49, 52, 100]⟩
theorem lone_len : (chkL loneD ⟨#[107]⟩ ⟨#[107]⟩ loneA).length = 1 := by decide +kernel
set_option maxHeartbeats 1000000 in
set_option maxRecDepth 100000 in
theorem lone_any (w : World) : Calls Tryz.prog 11 #[] w fun e w' => e = .returned (.tuple #[.string loneD, .string loneA]) ∧ Ext w w' := by
  go_enter Tryz.func11, Tryz.ntmps11
  go_wp2_with fail
  refine (refSum_any _ _ (by decide)).mono ?_
  rintro e w5 ⟨rfl, nn, rfl⟩
  go_wp2_with fail
  go_ret2
  exact ⟨rfl, (Ext.refl _).drewN _⟩
set_option maxHeartbeats 4000000 in
set_option maxRecDepth 100000 in
theorem Checked_any (dg lo hi s : ByteArray) (hs : s.size ≤ 140737488351232) (w : World) (hg : ErrT w) :
    Calls Tryz.prog 6 #[.string dg, .string lo, .string hi, .string s] w fun e w' => e = .returned (.bool true) ∧ Ext w w' := by
  have HG := hid hg
  have L0 := hid (lone_any w)
  have hll := lone_len
  have hA : loneA.size ≤ 140737488351232 := by decide
  have C0 := hid (fun w' (hx : Ext w w') => checked_any loneD ⟨#[107]⟩ ⟨#[107]⟩ loneA hA w' (hg.ext hx))
  have C1 := hid (fun w' (hx : Ext w w') => checked_any dg lo hi s hs w' (hg.ext hx))
  have C2 := hid (fun w' (hx : Ext w w') (d : ByteArray) => checked_any d lo hi s hs w' (hg.ext hx))
  have LK := hid (fun w' => rLook_any lo hi s hs w')
  clear hg hA
  generalize chkL loneD ⟨#[107]⟩ ⟨#[107]⟩ loneA = A0 at *
  generalize loneD = ld at *
  generalize loneA = la at *
  go_enter Tryz.func6, Tryz.ntmps6
  go_wp2_with fail
  refine L0.out.mono ?_
  rintro e w1 ⟨rfl, hx1⟩
  have HX1 := hid hx1
  clear hx1
  go_wp2_with fail
  refine (C0.out _ HX1.out).mono ?_
  rintro e w2 ⟨v2, rfl, hx2, ho2⟩
  obtain ⟨a2, c2, rfl⟩ := ho2.shape
  rw [hll]
  have HX2 := hid (HX1.out.trans hx2)
  clear hx2 ho2
  go_wp2_with fail
  refine (C1.out _ HX2.out).mono ?_
  rintro e w3 ⟨v3, rfl, hx3, ho3⟩
  obtain ⟨a3, c3, rfl⟩ := ho3.shape
  have HX3 := hid (HX2.out.trans hx3)
  clear hx3 ho3
  go_wp2_with fail
  refine (LK.out _).mono ?_
  intro e w4 hp
  obtain ⟨p4, d4, e4, rfl, hx4⟩ : ∃ p d z, e = .returned (.tuple #[.pointer p, .string d, .int .i64 z]) ∧ Ext w3 w4 := by
    rcases hp with ⟨_, rfl, hx⟩ | ⟨_, t, a, v, T, n, _, _, rfl, hA, _⟩
    · exact ⟨_, _, _, rfl, hx⟩
    · exact ⟨_, _, _, rfl, hA.ext⟩
  have HX4 := hid (HX3.out.trans hx4)
  clear hx4 hp
  go_wp2_with fail
  refine (C2.out _ HX4.out d4).mono ?_
  rintro e w5 ⟨v5, rfl, hx5, ho5⟩
  obtain ⟨a5, c5, rfl⟩ := ho5.shape
  have HX5 := hid (HX4.out.trans hx5)
  clear hx5 ho5
  go_wp2_with fail
  all_goals
    go_ret
    exact ⟨by first | rfl | simp, HX5.out⟩
end Go.Proofs.YtjohkmkgmbihkaaGreatDoor

namespace Go.Proofs.YtjohkmkgmbihkaaGreatDoor
set_option linter.unusedVariables false
open Go.ChangeShapes Go.WideShapes Go.ChangeAt Go.RowKit
attribute [local go_sem ↓] Go.wp_at_zero Go.wp_at_succ
theorem proveV_size {L : List It} (hg : Good L) (lo hi : ByteArray) : (proveV L lo hi).size ≤ 2000 := by
  unfold proveV
  split
  · have := ans_size lo hi L.length L ⟨#[]⟩ ⟨#[]⟩ (Nat.le_refl _) hg.small
    have := hg.2.1
    omega
  · decide
set_option maxHeartbeats 4000000 in
set_option maxRecDepth 100000 in
theorem step8_any (bs : Nat) (W : Nat) (came : Nat) (psv kv wv : Value) (A : List Pr) (lsv ls3v : Value) (X : List ML) (P : List PB) (w : World) (hL : Law bs w W came psv kv wv A lsv ls3v X P) (hP0 : 0 < P.length) (hP : P.length ≤ 100000000) (hX : X.length ≤ 10000000) (hc : came ≤ 100000000)
    (bk h : Int) (S T : ByteArray) (hge : ErrT w) (hb0 : -9223372036854775808 ≤ bk) (hb1 : bk ≤ 9223372036854775807) :
    Calls Tryz.prog 26 #[.pointer (some ⟨W, 0, none⟩), .agg #[.int .i64 8, .int .i64 bk, .int .i64 h, .string S, .string T]] w fun e w' => e = .returned (.bool true) ∧
      (∃ came' psv' kv' wv' A' lsv' ls3v' X' P', Law bs w' W came' psv' kv' wv' A' lsv' ls3v' X' P' ∧ came' ≤ came + 1 ∧ X'.length ≤ X.length + 2 ∧ P'.length ≤ P.length + 1 ∧ P.length ≤ P'.length) ∧ Fr (fun k => bs ≤ k) w w' := by
  obtain ⟨i, hi, hpk⟩ : ∃ i : Nat, i < P.length ∧ pickN bk (P.length : Int) = i := by
    obtain ⟨h1, h2⟩ := pickN_bd bk (P.length : Int) (by omega)
    exact ⟨(pickN bk (P.length : Int)).toNat, by omega, by omega⟩
  obtain ⟨p, hp⟩ : ∃ p, P[i]? = some p := ⟨_, List.getElem?_eq_getElem hi⟩
  obtain ⟨g, cap, rfl⟩ : ∃ g cap, psv = .slice (some ⟨g, 0, none⟩) P.length cap := by
    rcases hL.ps.2 with ⟨_, q⟩ | ⟨g, c, cur, q, _⟩
    · omega
    · exact ⟨g, c, q⟩
  obtain ⟨q0, q1⟩ := cells_get P i p hp
  have hx0 : Ext w (w.alloc (.cells #[.int .i64 8, .int .i64 bk, .int .i64 h, .string S, .string T] 64)) := (Ext.refl w).alloc _
  have c0 : (w.alloc (.cells #[.int .i64 8, .int .i64 bk, .int .i64 h, .string S, .string T] 64)).cell? ⟨w.heap.size, 0, none⟩ = some (.int .i64 8) := cell_new w _ _ 0
  have c1 : (w.alloc (.cells #[.int .i64 8, .int .i64 bk, .int .i64 h, .string S, .string T] 64)).cell? ⟨w.heap.size, 1, none⟩ = some (.int .i64 bk) := cell_new w _ _ 1
  have c2 : (w.alloc (.cells #[.int .i64 8, .int .i64 bk, .int .i64 h, .string S, .string T] 64)).cell? ⟨w.heap.size, 2, none⟩ = some (.int .i64 h) := cell_new w _ _ 2
  have c3 : (w.alloc (.cells #[.int .i64 8, .int .i64 bk, .int .i64 h, .string S, .string T] 64)).cell? ⟨w.heap.size, 3, none⟩ = some (.string S) := cell_new w _ _ 3
  have c4 : (w.alloc (.cells #[.int .i64 8, .int .i64 bk, .int .i64 h, .string S, .string T] 64)).cell? ⟨w.heap.size, 4, none⟩ = some (.string T) := cell_new w _ _ 4
  have h0 : (w.alloc (.cells #[.int .i64 8, .int .i64 bk, .int .i64 h, .string S, .string T] 64)).heap.size = w.heap.size + 1 := alloc_size' _ _
  have hL0 := hL.ext hx0
  obtain ⟨_, _, _, _, z4, _, _, _⟩ := hL0.wd.lw.cells
  have y0 := (hL0.ps.cellAt (i * 2) (by omega)).trans q0
  have y1 := (hL0.ps.cellAt (i * 2 + 1) (by omega)).trans q1
  have HGE := hid (hge.ext hx0)
  have HX0 := hid hx0
  have HL0 := hid hL0
  have HP := hid hp
  clear hL hL0 hp q0 q1 hx0 hge
  go_enter Tryz.func26, Tryz.ntmps26
  go_wp2_with fail
  generalize w.alloc (.cells #[.int .i64 8, .int .i64 bk, .int .i64 h, .string S, .string T] 64) = w0 at *
  go_region_held3 (fun w' => w'.cell? ⟨W, 4, none⟩ = some (.slice (some ⟨g, 0, none⟩) P.length cap) ∧ w'.cell? ⟨w.heap.size, 1, none⟩ = some (.int .i64 bk) ∧ w'.cell? ⟨g, i * 2, none⟩ = some (.pointer (some ⟨p.b, 0, none⟩)) ∧ w'.cell? ⟨g, i * 2 + 1, none⟩ = some (.pointer (some ⟨p.r, 0, none⟩))) (go_keep)
  (first
    | (go_at_call 50; refine (lpick_any bk P.length hb0 hb1 (by omega) (by omega) _).mono ?_; rintro e w2 ⟨rfl, h2⟩; subst h2; rw [hpk]))
  all_goals
    have hx1 : Ext w0 (w0.alloc (.cells #[.pointer (some ⟨p.b, 0, none⟩), .pointer (some ⟨p.r, 0, none⟩)] 101)).drew := ((Ext.refl _).alloc _).drew
    have p0 : (w0.alloc (.cells #[.pointer (some ⟨p.b, 0, none⟩), .pointer (some ⟨p.r, 0, none⟩)] 101)).drew.cell? ⟨w.heap.size + 1, 0, none⟩ = some (.pointer (some ⟨p.b, 0, none⟩)) := by rw [← h0]; exact cell_new w0 _ _ 0
    have p1 : (w0.alloc (.cells #[.pointer (some ⟨p.b, 0, none⟩), .pointer (some ⟨p.r, 0, none⟩)] 101)).drew.cell? ⟨w.heap.size + 1, 1, none⟩ = some (.pointer (some ⟨p.r, 0, none⟩)) := by rw [← h0]; exact cell_new w0 _ _ 1
    have d0 := hx1.keep1 c0
    have d1 := hx1.keep1 c1
    have d2 := hx1.keep1 c2
    have d3 := hx1.keep1 c3
    have d4 := hx1.keep1 c4
    have HX1 := hid hx1
    have HL1 := hid (HL0.out.ext hx1)
    clear hx1 c0 c1 c2 c3 c4 y0 y1 z4
    generalize (w0.alloc (.cells #[.pointer (some ⟨p.b, 0, none⟩), .pointer (some ⟨p.r, 0, none⟩)] 101)).drew = w1 at *
    have HG1 := hid (HGE.out.ext HX1.out)
    have hok := HL1.out.bk i p HP.out
    have hgood := hok.1.2.2
    have hps := proveV_size hgood S T
    have PR := hid (rProve_any p.r p.rv p.L S T w1 hok.2)
    have DG := hid (fun (w' : World) (hx : Ext w1 w') => rDigest_any p.L hgood p.rv w' (hok.2.its.ext hx))
    have CK := hid (fun (w' : World) (hx : Ext w1 w') => checked_any (dig p.L) S T (proveV p.L S T) (by omega) w' (HG1.out.ext hx))
    have hRC := hok.2.cell
    obtain ⟨ra, rc, erv, _⟩ := hok.2.its.shape
    rw [erv] at hRC DG
    have hLn := hok.1.2.2.2.1
    obtain ⟨nL, hnL⟩ : ∃ z, p.L.length = z := ⟨_, rfl⟩
    rw [hnL] at hRC DG
    have hBl := chk_len (dig p.L) S T (proveV p.L S T)
    clear hok hgood erv hnL
    generalize proveV p.L S T = AN at *
    generalize dig p.L = dl at *
    generalize askE S T = ak at *
    obtain ⟨B, hBe⟩ : ∃ B, chkL dl S T AN = B := ⟨_, rfl⟩
    rw [hBe] at CK hBl
    clear hBe
    go_wp2_with fail
    refine PR.out.mono ?_
    rintro e w2 ⟨rfl, hx2⟩
    have f1 := hx2.keep1 p1
    have f3 := hx2.keep1 d3
    have f4 := hx2.keep1 d4
    have f5 := hx2.keep1 hRC
    have HX2 := hid hx2
    clear hx2
    go_wp2_with fail
    go_region_held3 (fun w' => w'.cell? ⟨w.heap.size + 1, 1, none⟩ = some (.pointer (some ⟨p.r, 0, none⟩)) ∧ w'.cell? ⟨p.r, 0, none⟩ = some (.slice ra nL rc) ∧ w'.cell? ⟨w.heap.size, 3, none⟩ = some (.string S) ∧ w'.cell? ⟨w.heap.size, 4, none⟩ = some (.string T)) (go_keep)
      (first
        | (go_at_call 55; refine (DG.out _ (by first | exact HX2.out | exact HX2.out.drew | exact HX2.out.drewN _)).mono ?_; rintro e w3 ⟨rfl, hx3⟩; have hy3 : Ext w2 w3 := Ext.trans (by first | exact Ext.refl _ | exact (Ext.refl _).drew | exact (Ext.refl _).drewN _) hx3; have j1 := hy3.keep1 f1; have j3 := hy3.keep1 f3; have j4 := hy3.keep1 f4; have j5 := hy3.keep1 f5; clear hx3)
        | (go_at_call 12; refine (CK.out _ (HX2.out.trans hy3)).mono ?_; rintro e w4 ⟨lv, rfl, hx4, ho4⟩; obtain ⟨la, lc, rfl⟩ := ho4.shape; have hy4 := hy3.trans hx4; have m1 := hy4.keep1 f1; have m3 := hy4.keep1 f3; have m4 := hy4.keep1 f4; have m5 := hy4.keep1 f5; have HOO := hid ho4; clear ho4))
    all_goals (try go_wp2_with fail)
    all_goals
      have hx14 : Ext w1 w4 := HX2.out.trans hy4
      have hs13 : w1.heap.size ≤ w3.heap.size := (HX2.out.trans hy3).size
      have ol4 : w4.ownsRow w3.heap.size 53 2 (.slice la B.length lc) B.length (pc B) := HOO.out
      have HL4 := hid (HL1.out.ext hx14)
      have hap : ∀ (base : Nat) (u : Value) (n : Nat) (xs : List Value), w1.ownsRow base 53 2 u n xs → Apart u (.slice la B.length lc) := fun base u n xs hu => by
        cases hq : (Value.slice la B.length lc).ownBlock with
        | none => exact Apart.symm (.inl hq)
        | some g' => exact Apart.fresh hu hq (Nat.le_trans hs13 (ol4.lt g' hq).1)
      have ak2 := hid (hap _ _ _ _ HL1.out.wd.kept).symm
      have am := hid (show ∀ x ∈ X, ∀ u ∈ x.vals, Apart u (.slice la B.length lc) by
        intro x hx u hu
        obtain ⟨j, hj, rfl⟩ := List.mem_iff_getElem.1 hx
        obtain ⟨m0, m1, m2, m3⟩ := HL1.out.wd.lw.marked j _ (List.getElem?_eq_getElem hj)
        simp only [ML.vals, List.mem_cons, List.not_mem_nil, or_false] at hu
        rcases hu with rfl | rfl | rfl | rfl
        · exact hap _ _ _ _ m0
        · exact hap _ _ _ _ m1
        · exact hap _ _ _ _ m2
        · exact hap _ _ _ _ m3)
      have OL := hid (owns_base ol4 (Nat.le_trans HL1.out.wd.lw.hbs hs13))
      have HX14 := hid hx14
      clear hx14 ol4 hap HOO
      refine (takes_any bs W came _ kv wv A lsv ls3v X w4 HL4.out.wd (by omega) (by omega) la lc B OL.out (by omega) ak2.out am.out).mono ?_
      rintro e w5 ⟨rfl, kv', wv', A', lsv', ls3v', X', hw5, hX5, hf5, hr5⟩
      have FIN := hid (HL4.out.took OL.out hw5 hf5)
      have FRA := hid ((((Fr.of_ext HX0.out).trans (Fr.of_ext HX1.out)).trans (Fr.of_ext HX14.out)).trans hr5)
      clear hw5 hf5 hr5
      go_wp2_with fail
      go_ret
      exact ⟨rfl, ⟨_, _, _, _, _, _, _, _, _, FIN.out, by omega, by omega, by omega, by omega⟩, FRA.out⟩
end Go.Proofs.YtjohkmkgmbihkaaGreatDoor

namespace Go.Proofs.YtjohkmkgmbihkaaGreatDoor
set_option linter.unusedVariables false
open Go.ChangeShapes Go.WideShapes Go.ChangeAt Go.RowKit
attribute [local go_sem ↓] Go.wp_at_zero Go.wp_at_succ
theorem step8N (bs W n : Nat) (w : World) (h : LawN bs w W n) (hn : n ≤ 2000000) (hge : ErrT w) (k bk hh : Int) (S T : ByteArray) (hb0 : -9223372036854775808 ≤ bk) (hb1 : bk ≤ 9223372036854775807) :
    Calls Tryz.prog 26 #[.pointer (some ⟨W, 0, none⟩), .agg #[.int .i64 k, .int .i64 bk, .int .i64 hh, .string S, .string T]] w fun e w' => e = .returned (.bool true) ∧ LawN bs w' W (n + 1) ∧ Fr (fun k => bs ≤ k) w w' := by
  by_cases hk : k = 8
  · subst hk
    obtain ⟨came, psv, kv, wv, A, lsv, ls3v, X, P, hl, h1, h2, h3, h4⟩ := h
    refine (step8_any bs W came psv kv wv A lsv ls3v X P w hl (by omega) (by omega) (by omega) (by omega) bk hh S T hge hb0 hb1).mono ?_
    rintro e w' ⟨rfl, ⟨came', psv', kv', wv', A', lsv', ls3v', X', P', hl', q1, q2, q3, q4⟩, hf⟩
    exact ⟨rfl, ⟨came', psv', kv', wv', A', lsv', ls3v', X', P', hl', by omega, by omega, by omega, by omega⟩, hf⟩
  · exact stepN bs W n w h hn k bk hh S T hk hb0 hb1
set_option maxHeartbeats 4000000 in
set_option maxRecDepth 100000 in
theorem plays8_any (ss : List Oq) (v : Value) (hi : Int) (w : World) (hge : ErrT w) (hs : Oqs w v ss) (hn : ss.length ≤ 1048576) :
    Calls Tryz.prog 10 #[v, .int .i64 hi] w fun e w' => e = .returned (.bool true) ∧ Ext w w' := by
  obtain ⟨a, cap, rfl, hcap, hcm⟩ := hs.shape
  have HGE := hid hge
  have HS := hid hs
  have L0 := hid (law_init w)
  have X0 := hid (show Ext w (w.alloc (.cells #[.int .i64 0, .bool false, .slice none 0 0, .slice none 0 0, .slice none 0 0, .slice none 0 0, .slice none 0 0] 60)) from (Ext.refl w).alloc _)
  clear hs hge
  go_enter Tryz.func10, Tryz.ntmps10
  go_wp2_with fail
  refine (openN w.heap.size w.heap.size _ _ _ _ _ _ _ _ _ _ L0.out (by simp)).mono ?_
  rintro e w1 ⟨rfl, ⟨ps1, P1, hl1, hp1⟩, hf1⟩
  have L1 := hid hl1
  have X1 := hid (X0.out.fr hf1)
  clear hl1 hf1
  go_wp2_with fail
  refine (openN w.heap.size w.heap.size _ _ _ _ _ _ _ _ _ w1 L1.out (by simp at hp1; omega)).mono ?_
  rintro e w2 ⟨rfl, ⟨ps2, P2, hl2, hp2⟩, hf2⟩
  have L2 := hid (show LawN w.heap.size w2 w.heap.size 0 from ⟨_, _, _, _, _, _, _, _, _, hl2, by omega, by simp, by simp at hp1; omega, by simp at hp1; omega⟩)
  have X2 := hid (X1.out.fr hf2)
  clear hl2 hf2 hp1 hp2
  go_wp2_with fail
  refine (stepN w.heap.size w.heap.size 0 w2 L2.out (by omega) 2 0 2 _ _ (by decide) (by decide) (by decide)).mono ?_
  rintro e w3 ⟨rfl, hl3, hf3⟩
  have L3 := hid hl3
  have X3 := hid (X2.out.fr hf3)
  clear hl3 hf3
  go_wp2_with fail
  refine (stepN w.heap.size w.heap.size 1 w3 L3.out (by omega) 4 0 0 _ _ (by decide) (by decide) (by decide)).mono ?_
  rintro e w4 ⟨rfl, hl4, hf4⟩
  have L4 := hid hl4
  have X4 := hid (X3.out.fr hf4)
  clear hl4 hf4
  go_wp2_with fail
  clear L0 X0 L1 X1 L2 X2 L3 X3
  go_loopw [8] (fun i wr => ∃ k : Nat, k ≤ ss.length ∧ i = .int .i64 k ∧ LawN w.heap.size wr w.heap.size (k + 2) ∧ Ext w wr) (fun i _ => ss.length - (intOf i).toNat)
  case atStart => exact ⟨0, Nat.zero_le _, rfl, L4.out, X4.out⟩
  case round =>
    obtain ⟨k, hk, rfl, hl, hx⟩ := hrel
    have HL := hid hl
    have HX := hid hx
    clear hl hx
    by_cases hlt : k < ss.length
    · obtain ⟨b, o, rfl, hb, q0, q1, q2, q3, q4⟩ := (HS.out.ext HX.out).at hlt
      have hok := HS.out.2 _ (List.getElem_mem hlt)
      obtain ⟨x, hxe⟩ : ∃ x, ss[k] = x := ⟨_, rfl⟩
      rw [hxe] at q0 q1 q2 q3 q4 hok
      clear hxe
      obtain ⟨_, ⟨hb0, hb1⟩, _, _, _⟩ := hok
      by_cases hgt : hi < x.k
      · go_wp2_with fail
        go_roundw
        case rel =>
          obtain ⟨came, psv, kv, wv, A, lsv, ls3v, X, P, hl, h1, h2, h3, h4⟩ := HL.out
          exact ⟨k + 1, by omega, by go_num, ⟨came, psv, kv, wv, A, lsv, ls3v, X, P, hl, by omega, by omega, by omega, by omega⟩, HX.out⟩
        case measure => simp [intOf]; omega
      · go_wp2_with fail
        refine (step8N w.heap.size w.heap.size (k + 2) wr HL.out (by omega) (HGE.out.ext HX.out) x.k x.bk x.h x.S x.T hb0 hb1).mono ?_
        rintro e w5 ⟨rfl, hl5, hf5⟩
        have L5 := hid hl5
        have X5 := hid (HX.out.fr hf5)
        clear hl5 hf5
        go_wp2_with fail
        refine (looksN w.heap.size w.heap.size (k + 2 + 1) w5 L5.out (by omega)).mono ?_
        rintro e w6 ⟨rfl, hl6, hx6⟩
        have L6 := hid hl6
        have X6 := hid (X5.out.trans hx6)
        clear hl6 hx6
        go_wp2_with fail
        go_roundw
        case rel => exact ⟨k + 1, by omega, by go_num, L6.out, X6.out⟩
        case measure => simp [intOf]; omega
    · obtain rfl : k = ss.length := by omega
      go_wp2_with fail
      go_ret
      exact ⟨rfl, HX.out⟩
end Go.Proofs.YtjohkmkgmbihkaaGreatDoor

namespace Go.Proofs.YtjohkmkgmbihkaaGreatDoor
namespace allc
set_option linter.unusedVariables false
open Go.ChangeShapes Go.WideShapes Go.ChangeAt Go.RowKit
open Go.ChangeMaps (open_string shut_string)
theorem laidOut : laidOutB Tryz.prog = true := by kernel_rfl

set_option maxRecDepth 100000 in
theorem walk (ss : List Oq) (v : Value) (w : World) (hs : Oqs w v ss) (hn : ss.length ≤ 1048576) (hge : ErrT w) :
    Calls Tryz.prog 5 #[v] w fun e w' => e = .returned (.bool true) ∧ Ext w w' := by
  have HS := hid hs
  have HGE := hid hge
  clear hs hge
  go_enter Tryz.func5, Tryz.ntmps5
  go_wp2_with fail
  refine (plays8_any ss v 8 w HGE.out HS.out hn).mono ?_
  rintro e w1 ⟨rfl, hx⟩
  have HX := hid hx
  clear hx
  go_wp2_with fail
  go_ret
  exact ⟨rfl, HX.out⟩

set_option maxRecDepth 100000 in
theorem contract (H : Type) (enc : TypeId × Value → H) (W : World) (base : Nat) (args : Array Value) (ds gs : List (DataW H)) (before : List MemPlace)
    (hval0 : ∀ (j : Nat) t v, Tryz.f5.params[j]? = some t → args[j]? = some v → Value.okWide Tryz.prog W .any base t v)
    (hW : DataW.Whole enc Tryz.prog Tryz.f5.params.toList Rows.allSpec.vars false W args.toList ds gs before) (hk : Rows.uptoSmall H (ds ++ gs) = true) (hL : laidMetH Tryz.prog Rows.allUptoRow.laid W) :
    Calls Tryz.prog 5 args W fun e W' => ∃ v, e = .returned v ∧ Rows.allSpec.post enc Tryz.prog Tryz.f5 false true false false W args v W' := by
  have hval : ∀ (j : Nat) t v, Tryz.f5.params[j]? = some t → args[j]? = some v → Value.okWide Tryz.prog W .any base t v := hval0
  have hW' := hW
  obtain ⟨p, q, hA0, hV, rfl, hfz, hnd⟩ := hW
  have hA : DataW.TrodAll enc Tryz.prog W 0 (fun _ => true) true Tryz.f5.params.toList args.toList ds p := hA0
  rw [Tryz.params5] at hA hval
  obtain ⟨v0, vs0, d0, ds0, p0, q0, hargs, rfl, rfl, h0, r0⟩ := trodAll_cons hA
  obtain ⟨rfl, rfl, rfl⟩ := trodAll_nil r0
  obtain rfl : args = #[v0] := by cases args; simp_all
  obtain ⟨rfl, rfl⟩ := trodVars_none hV
  obtain ⟨a0, len0, cap0, rfl⟩ := okWide_slice Tryz.underlying22 (hval 0 22 v0 rfl rfl)
  have k0 := h0
  have lt0 : ∀ x ∈ p0, x.block < W.heap.size := by obtain ⟨m, hm⟩ := k0; exact DataW.trod_lt m _ _ _ hm
  obtain ⟨⟨ss, hl, hs⟩, hbk⟩ : (∃ ss : List Oq, ss.length = len0 ∧ Oqs W (.slice a0 len0 cap0) ss) ∧ len0 ≤ Rows.uptoBulk d0 := by
    obtain ⟨fuel, hf⟩ := h0
    exact ops_of hf
  have hn : ss.length ≤ 1048576 := by
    have h : Rows.uptoBulkAll ([d0] ++ []) ≤ 1048576 := of_decide_eq_true hk
    simp only [List.append_nil, Rows.uptoBulkAll] at h
    omega
  clear hA0 hval0
  refine (walk ss _ W hs hn (errT_of_laid hL)).mono fun e W' ⟨he, bel⟩ => ?_
  subst he
  exact ⟨_, rfl, _, _, _, [], _, [], hW', trodAll_mk1 (shut_bool Tryz.underlying4 _), (trodAll_cons_mk (Below.trod laidOut (by kernel_rfl) (of_decide_eq_true (by kernel_rfl)) k0 bel lt0) trodAll_mk0), rfl, bel.frame _, fun h => by cases h⟩

theorem laid_met (os : Os) : laidMetH Tryz.prog Rows.allUptoRow.laid ((laidWorld os).forCall (fun _ _ => 0) ⟨#[], #[.slice none 0 0], []⟩).memory :=
  laidMetH_of_parts (laidMet_nil _ _) (by kernel_rfl)
theorem reads (os : Os) {H : Type} (enc : TypeId × Value → H) : ∃ places, DataW.whole enc Tryz.prog ((laidWorld os).forCall (fun _ _ => 0) ⟨#[], #[.slice none 0 0], []⟩).memory Tryz.f5.params.toList Rows.allSpec.vars false #[Value.slice none 0 0].toList 8 = some ([.nil], [], places) :=
  ⟨[], by kernel_rfl⟩

set_option maxRecDepth 100000 in
theorem liftedUpto (os : Os) (started : os.Started) (H : Type) (enc : TypeId × Value → H) (F : Stop.Interp) :
    ReturnsInHanded {} Tryz.checked os 5 .any ((Rows.OpenSpec.upto Rows.allSpec).preRow enc Tryz.prog Tryz.f5 Rows.allUptoRow.domain false Rows.allUptoRow.laid) (((Rows.OpenSpec.upto Rows.allSpec).at F).post enc Tryz.prog Tryz.f5 false true false false) := by
  obtain ⟨places, hx⟩ := reads os enc
  refine returnsInHanded_of_row (C := Tryz.checked) (s := Rows.OpenSpec.upto Rows.allSpec) Tryz.own started (by kernel_rfl) Tryz.func5
    (witness_row_at (enc := enc) (C := Tryz.checked) false (laidWorld os) #[.slice none 0 0] rfl (by kernel_rfl) (by kernel_rfl) (by kernel_rfl)
      (OpenSpec.preRow_of_cond 8 hx (by kernel_rfl) (fun k hk => by cases hk; kernel_rfl) (by kernel_rfl) (laid_met os))) ?_
  intro W base args ds gs before hval hW _ hcond _ hL _ _
  exact contract H enc W base args ds gs before hval hW (hcond _ rfl) hL

theorem saidUpto : Rows.AllUptoSaid :=
  OpenClaim.holds_of_cond 5 Tryz.f5 rfl rfl rfl rfl rfl rfl rfl ⟨rfl, rfl, rfl, rfl, rfl⟩ rfl rfl rfl rfl rfl (by kernel_rfl) Tryz.func5 (by kernel_rfl)
    (of_decide_eq_true (by kernel_rfl)) (by unfold Func.isWrapper; first | (rw [if_pos (by decide +kernel)]; kernel_rfl) | (rw [if_neg (by decide +kernel)]; exact ⟨rfl, rfl⟩))
    (fun os started H enc _ F => by rw [OpenClaim.pre_eq_preRow]; exact liftedUpto os started H enc F)

/-- No parameter wants a stand-in. -/
theorem plain (f : FuncId) (fn : Func) (hf : Tryz.pinned.checked.prog.funcNamed "attest/attestlaw.All" = some f) (hfn : Tryz.pinned.checked.prog.funcs[f]? = some fn) :
    true = Tryz.pinned.checked.prog.looks [] ∧ ∀ (j : Nat) t, fn.params[j]? = some t → Tryz.pinned.checked.prog.wantsStandIn t = false := by
  obtain rfl : f = 5 := Option.some.inj ((show Tryz.prog.funcNamed "attest/attestlaw.All" = some 5 by kernel_rfl).symm.trans hf) |>.symm
  obtain rfl : fn = Tryz.f5 := (Option.some.inj (Tryz.func5.symm.trans hfn)).symm
  refine ⟨by kernel_rfl, fun j t ht => ?_⟩
  rw [Tryz.params5] at ht
  obtain rfl : t = 22 := by simpa using Array.mem_of_getElem? ht
  exact (show Tryz.prog.wantsStandIn 22 = false by kernel_rfl)
end allc
/-- The statement. -/
theorem all_card : Rows.AllUptoCardSaid :=
  Claim7.holds_tied_plain_at .later [] _ _ _ _ allc.saidUpto (fun _ h => by cases h) (by kernel_rfl) (fun _ h => by cases h) allUpto_row_tie rfl ⟨rfl, rfl⟩ (by kernel_rfl) rfl allc.plain (by kernel_rfl)
#print axioms all_card
end Go.Proofs.YtjohkmkgmbihkaaGreatDoor
