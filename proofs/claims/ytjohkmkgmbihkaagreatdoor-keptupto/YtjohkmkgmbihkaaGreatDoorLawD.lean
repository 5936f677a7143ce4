/- The law's world: marked lists, the list that is kept. -/
import Derived.Test.YtjohkmkgmbihkaaGreatDoorLawC
namespace Go.Proofs.YtjohkmkgmbihkaaGreatDoor
set_option linter.unusedVariables false
open Go.ChangeShapes Go.WideShapes Go.ChangeAt Go.RowKit
attribute [local go_sem ↓] Go.wp_at_zero Go.wp_at_succ

/-- Two lists do not lie in one block. -/
def Apart (v u : Value) : Prop := v.ownBlock = none ∨ v.ownBlock ≠ u.ownBlock
theorem Apart.symm {v u : Value} (h : Apart v u) : Apart u v := by
  rcases h with h | h
  · cases hq : u.ownBlock with
    | none => exact .inl hq
    | some g => right; rw [h, hq]; simp
  · exact .inr (Ne.symm h)
/-- A list in a new block lies apart from an old one. -/
theorem Apart.fresh {w : World} {base : Nat} {e : TypeId} {s n : Nat} {v u : Value} {xs : List Value} (hv : w.ownsRow base e s v n xs) {g : Nat} (hu : u.ownBlock = some g) (hg : w.heap.size ≤ g) : Apart v u := by
  cases hq : v.ownBlock with
  | none => exact .inl hq
  | some q =>
    right; rw [hq, hu]; intro e
    have := (hv.lt q hq).2
    simp only [Option.some.injEq] at e
    omega
/-- A list that came out, marked, and grown by one, two and three. -/
structure ML where
  own : Value
  g1 : Value
  g2 : Value
  g3 : Value
  n : Nat
def ML.ok (w : World) (m : ByteArray) (x : ML) : Prop := Mk w x.own x.n m ∧ Mk w x.g1 (x.n + 1) m ∧ Mk w x.g2 (x.n + 2) m ∧ Mk w x.g3 (x.n + 3) m
def ML.vals (x : ML) : List Value := [x.own, x.g1, x.g2, x.g3]
def ML.grown (x : ML) : List Value := [x.g1, x.g2, x.g3]
/-- The struct of the law's world, and its marked lists. -/
structure Lw (bs : Nat) (w : World) (W : Nat) (c0 c1 c2 c3 c4 lsv ls3v : Value) (X : List ML) : Prop where
  row : w.heap[W]? = some (.cells #[c0, c1, c2, c3, c4, lsv, ls3v] 60 (0, 0))
  hbs : bs ≤ w.heap.size
  wb : bs ≤ W
  own : w.ownsRow bs 27 1 lsv X.length (X.map ML.own)
  own3 : w.ownsRow bs 27 1 ls3v (3 * X.length) (X.flatMap ML.grown)
  off : Apart lsv ls3v
  marked : ∀ i (x : ML), X[i]? = some x → x.ok w (stk i)
/-- All is as it was but for the struct, the rows of lists and the blocks of S. -/
structure Fw (S : Nat → Prop) (w w' : World) : Prop where
  os : w'.os = w.os
  tape : w'.tape = w.tape
  output : w'.output = w.output
  size : w.heap.size ≤ w'.heap.size
  block : ∀ k c t f, w.heap[k]? = some (.cells c t f) → ¬ S k → t ≠ 60 → t ≠ 27 → w'.heap[k]? = some (.cells c t f)
theorem Fw.trans {S : Nat → Prop} {a b c : World} (h : Fw S a b) (k : Fw S b c) : Fw S a c :=
  ⟨k.os.trans h.os, k.tape.trans h.tape, k.output.trans h.output, Nat.le_trans h.size k.size, fun i ce t f hi hs h1 h2 => k.block i ce t f (h.block i ce t f hi hs h1 h2) hs h1 h2⟩
theorem Fw.of_ext {S : Nat → Prop} {w w' : World} (h : Ext w w') : Fw S w w' := ⟨h.os, h.tape, h.output, h.size, fun k c t f hk _ _ _ => h.row hk⟩
theorem Fw.mono {S T : Nat → Prop} {w w' : World} (h : Fw S w w') (hi : ∀ k, k < w.heap.size → S k → T k) : Fw T w w' := ⟨h.os, h.tape, h.output, h.size, fun k c t f hk ht => h.block k c t f hk (fun hs => ht (hi k (row_lt hk) hs))⟩
theorem Fw.owns {S : Nat → Prop} {w w' : World} (h : Fw S w w') {base : Nat} {e : TypeId} {size : Nat} {v : Value} {n : Nat} {xs : List Value} (ho : w.ownsRow base e size v n xs) (hs : ∀ g, v.ownBlock = some g → ¬ S g) (h1 : e ≠ 60) (h2 : e ≠ 27) : w'.ownsRow base e size v n xs := by
  refine ⟨ho.1, ?_⟩
  rcases ho.2 with h2 | ⟨g, cap, cur, hv, hb, hg, r⟩
  · exact .inl h2
  · exact .inr ⟨g, cap, cur, hv, hb, h.block _ _ _ _ hg (hs g (by rw [hv]; rfl)) h1 h2, r⟩
theorem Fw.of_set {S : Nat → Prop} {w : World} {W : Nat} {cs : Array Value} {f : Nat × Nat} (hW : w.heap[W]? = some (.cells cs 60 f)) (j : Nat) (u : Value) : Fw S w (w.setCell ⟨W, j, none⟩ u) :=
  ⟨rfl, rfl, rfl, by simp [World.setCell], fun k c t f' hk hs h1 h2 => by
    rw [Below.heap_setCell _ _ _ _ (by intro e; simp at e; subst e; rw [hW] at hk; simp only [Option.some.injEq, Obj.cells.injEq] at hk; exact h1 hk.2.1.symm)]; exact hk⟩
theorem Apart.not {v u : Value} (h : Apart v u) : ∀ g, v.ownBlock = some g → ¬ some g = u.ownBlock := by
  intro g hg hu
  rcases h with h | h
  · rw [h] at hg; cases hg
  · exact h (hg.trans hu)
theorem Lw.set {bs : Nat} {w : World} {W : Nat} {c0 c1 c2 c3 c4 lsv ls3v : Value} {X : List ML} (h : Lw bs w W c0 c1 c2 c3 c4 lsv ls3v X) (j : Nat) (x : Value) {d0 d1 d2 d3 d4 : Value} (he : #[c0, c1, c2, c3, c4, lsv, ls3v].setIfInBounds j x = #[d0, d1, d2, d3, d4, lsv, ls3v]) :
    Lw bs (w.setCell ⟨W, j, none⟩ x) W d0 d1 d2 d3 d4 lsv ls3v X :=
  ⟨by rw [heap_set_row j x h.row, he], by have := h.hbs; simpa [World.setCell] using this, h.wb, set_owns h.row j x h.own (by decide), set_owns h.row j x h.own3 (by decide), h.off,
    fun i y hy => ⟨set_owns h.row j x (h.marked i y hy).1 (by decide), set_owns h.row j x (h.marked i y hy).2.1 (by decide), set_owns h.row j x (h.marked i y hy).2.2.1 (by decide), set_owns h.row j x (h.marked i y hy).2.2.2 (by decide)⟩⟩
theorem Lw.ext {bs : Nat} {w w' : World} {W : Nat} {c0 c1 c2 c3 c4 lsv ls3v : Value} {X : List ML} (h : Lw bs w W c0 c1 c2 c3 c4 lsv ls3v X) (hx : Ext w w') : Lw bs w' W c0 c1 c2 c3 c4 lsv ls3v X :=
  ⟨hx.row h.row, Nat.le_trans h.hbs hx.size, h.wb, owns_ext h.own hx, owns_ext h.own3 hx, h.off, fun i y hy => ⟨(h.marked i y hy).1.ext hx, (h.marked i y hy).2.1.ext hx, (h.marked i y hy).2.2.1.ext hx, (h.marked i y hy).2.2.2.ext hx⟩⟩
theorem own_slice {w : World} {base : Nat} {e : TypeId} {s n : Nat} {v : Value} {xs : List Value} (h : w.ownsRow base e s v n xs) : ∃ a c, v = .slice a n c := by
  rcases h.2 with ⟨rfl, rfl⟩ | ⟨g, cap, cur, rfl, _⟩
  · exact ⟨_, _, rfl⟩
  · exact ⟨_, _, rfl⟩
theorem own_type {w : World} {base : Nat} {e : TypeId} {s n : Nat} {v : Value} {xs : List Value} (h : w.ownsRow base e s v n xs) {g : Nat} (hg : v.ownBlock = some g) : ∃ c f, w.heap[g]? = some (.cells c e f) := by
  rcases h.2 with ⟨rfl, rfl⟩ | ⟨g', cap, cur, rfl, hb, hgg, _⟩
  · cases hg
  · obtain rfl : g' = g := by simpa [Value.ownBlock] using hg
    exact ⟨_, _, hgg⟩

/-- A list is marked. -/
theorem Lw.marks {bs : Nat} {w : World} {W : Nat} {c0 c1 c2 c3 c4 lsv ls3v : Value} {X : List ML} (h : Lw bs w W c0 c1 c2 c3 c4 lsv ls3v X) {l : Value} {n : Nat} {xs : List Value} (hl : w.ownsRow 0 53 2 l n xs)
    (hoff : ∀ x ∈ X, ∀ u ∈ x.vals, Apart u l) (hn : n ≤ 1000000) (hM : X.length ≤ 100000000) :
    Calls Tryz.prog 87 #[.pointer (some ⟨W, 0, none⟩), l] w fun e w' => e = .returned (.tuple #[]) ∧ ∃ (lsv' ls3v' : Value) (y : ML), Lw bs w' W c0 c1 c2 c3 c4 lsv' ls3v' (X ++ [y]) ∧
      (∀ u ∈ y.vals, u.ownBlock = l.ownBlock ∨ ∃ g, u.ownBlock = some g ∧ w.heap.size ≤ g) ∧ Fw (fun k => some k = l.ownBlock) w w' ∧ Fr (fun k => some k = l.ownBlock ∨ bs ≤ k) w w' := by
  obtain ⟨a, cap, rfl⟩ := own_slice hl
  obtain ⟨la, lc, rfl⟩ := own_slice h.own
  obtain ⟨ta, tc, rfl⟩ := own_slice h.own3
  refine (marks_any bs W c0 c1 c2 c3 c4 la lc ta tc a cap n X.length xs _ _ w h.hbs h.row hl h.own h.own3 h.off hn hM).mono ?_
  rintro e w' ⟨rfl, v1, v2, v3, lsv', ls3v', hrow, m0, m1, m2, m3, o, o3, off, at_, fr⟩
  have hfw : Fw (fun k => some k = (Value.slice a n cap).ownBlock) w w' := ⟨fr.os, fr.tape, fr.output, fr.size, fun k c t f hk hs h1 h2 => fr.row hk (by
    rintro (q | q | q | q | q)
    · subst q; rw [h.row] at hk; simp only [Option.some.injEq, Obj.cells.injEq] at hk; exact h1 hk.2.1.symm
    · exact hs q
    · exact rows_ne hk h.own h2 q.symm
    · exact rows_ne hk h.own3 h2 q.symm
    · have := row_lt hk; omega)⟩
  have hfr : Fr (fun k => some k = (Value.slice a n cap).ownBlock ∨ bs ≤ k) w w' := fr.mono (fun k hk q => by
    have := h.hbs
    have := h.wb
    rcases q with q | q | q | q | q
    · exact .inr (by omega)
    · exact .inl q
    · exact .inr (h.own.lt k q.symm).1
    · exact .inr (h.own3.lt k q.symm).1
    · exact .inr (by omega))
  have hat : ∀ u ∈ (ML.mk (.slice a n cap) v1 v2 v3 n).vals, u.ownBlock = (Value.slice a n cap).ownBlock ∨ ∃ g, u.ownBlock = some g ∧ w.heap.size ≤ g := by
    intro u hu
    simp only [ML.vals, List.mem_cons, List.not_mem_nil, or_false] at hu
    rcases hu with rfl | hu
    · exact .inl rfl
    · exact at_ u hu
  have keep : ∀ i x, X[i]? = some x → ∀ u c, u ∈ x.vals → Mk w u c (stk i) → Mk w' u c (stk i) := fun i x hx u c hu hm => hfw.owns hm ((hoff x (List.mem_of_getElem? hx) u hu).not) (by decide) (by decide)
  refine ⟨rfl, lsv', ls3v', ⟨.slice a n cap, v1, v2, v3, n⟩, ⟨hrow, Nat.le_trans h.hbs fr.size, h.wb, by simpa using o, ?_, off, ?_⟩, hat, hfw, hfr⟩
  · have e1 : 3 * (X ++ [(⟨.slice a n cap, v1, v2, v3, n⟩ : ML)]).length = 3 * X.length + 1 + 1 + 1 := by simp; omega
    have e2 : (X ++ [(⟨.slice a n cap, v1, v2, v3, n⟩ : ML)]).flatMap ML.grown = X.flatMap ML.grown ++ [v1] ++ [v2] ++ [v3] := by simp [ML.grown]
    rw [e1, e2]; exact o3
  · intro i x hx
    by_cases hi : i < X.length
    · rw [List.getElem?_append_left hi] at hx
      have q := h.marked i x hx
      have k := keep i x hx
      exact ⟨k _ _ (by simp [ML.vals]) q.1, k _ _ (by simp [ML.vals]) q.2.1, k _ _ (by simp [ML.vals]) q.2.2.1, k _ _ (by simp [ML.vals]) q.2.2.2⟩
    · have hlt := (List.getElem?_eq_some_iff.1 hx).1
      simp only [List.length_append, List.length_cons, List.length_nil] at hlt
      obtain rfl : i = X.length := by omega
      simp only [List.getElem?_concat_length, Option.some.injEq] at hx
      subst hx
      exact ⟨m0, m1, m2, m3⟩

/-- The world of the law: what is kept too. -/
structure Wd (bs : Nat) (w : World) (W : Nat) (came : Nat) (psv : Value) (kv wv : Value) (A : List Pr) (lsv ls3v : Value) (X : List ML) : Prop where
  lw : Lw bs w W (.int .i64 came) (.bool false) kv wv psv lsv ls3v X
  kept : w.ownsRow bs 53 2 kv A.length (pc A)
  were : w.ownsRow 0 53 2 wv A.length (pc A)
  kw : Apart kv wv
  km : ∀ x ∈ X, ∀ u ∈ x.vals, Apart u kv
  small : A.length ≤ 1000000
end Go.Proofs.YtjohkmkgmbihkaaGreatDoor
