/- The law's world: a list is marked. -/
import Derived.Test.YtjohkmkgmbihkaaGreatDoorLawB
import Derived.Maps.AppendAt
namespace Go.Proofs.YtjohkmkgmbihkaaGreatDoor
set_option linter.unusedVariables false
open Go.ChangeShapes Go.WideShapes Go.ChangeAt Go.RowKit
attribute [local go_sem ↓] Go.wp_at_zero Go.wp_at_succ

/-- All blocks but those of S are as they were. -/
structure Fr (S : Nat → Prop) (w w' : World) : Prop where
  os : w'.os = w.os
  tape : w'.tape = w.tape
  output : w'.output = w.output
  size : w.heap.size ≤ w'.heap.size
  block : ∀ k, k < w.heap.size → ¬ S k → w'.heap[k]? = w.heap[k]?
theorem Fr.trans {S : Nat → Prop} {a b c : World} (h : Fr S a b) (k : Fr S b c) : Fr S a c :=
  ⟨k.os.trans h.os, k.tape.trans h.tape, k.output.trans h.output, Nat.le_trans h.size k.size, fun i hi hs => (k.block i (Nat.lt_of_lt_of_le hi h.size) hs).trans (h.block i hi hs)⟩
theorem Fr.refl (S : Nat → Prop) (w : World) : Fr S w w := ⟨rfl, rfl, rfl, Nat.le_refl _, fun _ _ _ => rfl⟩
theorem Fr.of_ext {S : Nat → Prop} {w w' : World} (h : Ext w w') : Fr S w w' := ⟨h.os, h.tape, h.output, h.size, fun k hk _ => h.block k hk⟩
theorem Fr.of_grown {S : Nat → Prop} {w w' : World} {o : Option Nat} (h : w.grownBy w' o) (ho : ∀ k, o = some k → S k) : Fr S w w' := ⟨h.os, h.tape, h.output, h.size, fun k hk hs => h.block k hk (fun e => hs (ho k e.symm))⟩
theorem Fr.of_set {S : Nat → Prop} (w : World) (p : Addr) (u : Value) (hp : S p.block) : Fr S w (w.setCell p u) := ⟨rfl, rfl, rfl, by simp [World.setCell], fun k hk hs => Below.heap_setCell _ _ _ _ (by intro e; subst e; exact hs hp)⟩
theorem Fr.mono {S T : Nat → Prop} {w w' : World} (h : Fr S w w') (hi : ∀ k, k < w.heap.size → S k → T k) : Fr T w w' := ⟨h.os, h.tape, h.output, h.size, fun k hk ht => h.block k hk (fun hs => ht (hi k hk hs))⟩
theorem Fr.row {S : Nat → Prop} {w w' : World} (h : Fr S w w') {k : Nat} {o : Obj} (hk : w.heap[k]? = some o) (hs : ¬ S k) : w'.heap[k]? = some o := by rw [h.block k (row_lt hk) hs]; exact hk
theorem Fr.owns {S : Nat → Prop} {w w' : World} (h : Fr S w w') {base : Nat} {e : TypeId} {size : Nat} {v : Value} {n : Nat} {xs : List Value} (ho : w.ownsRow base e size v n xs) (hs : ∀ g, v.ownBlock = some g → ¬ S g) : w'.ownsRow base e size v n xs := by
  refine ⟨ho.1, ?_⟩
  rcases ho.2 with h2 | ⟨g, cap, cur, hv, hb, hg, r⟩
  · exact .inl h2
  · exact .inr ⟨g, cap, cur, hv, hb, h.row hg (hs g (by rw [hv]; rfl)), r⟩

/-- What grows is a row of one type: all of another type is as it was. -/
theorem grown_row {w w' : World} {base : Nat} {e : TypeId} {s n : Nat} {u : Value} {xs : List Value} (hg : w.grownBy w' u.ownBlock) (hu : w.ownsRow base e s u n xs) {k : Nat} {c : Array Value} {t : TypeId} {f : Nat × Nat}
    (hk : w.heap[k]? = some (.cells c t f)) (ht : t ≠ e) : w'.heap[k]? = some (.cells c t f) := by
  rw [hg.block k (row_lt hk) (Ne.symm (rows_ne hk hu ht))]; exact hk
theorem grown_owns {w w' : World} {base : Nat} {e : TypeId} {s n : Nat} {u : Value} {xs : List Value} (hg : w.grownBy w' u.ownBlock) (hu : w.ownsRow base e s u n xs) {base' : Nat} {e' : TypeId} {s' n' : Nat} {v : Value} {ys : List Value}
    (hv : w.ownsRow base' e' s' v n' ys) (ht : e' ≠ e) : w'.ownsRow base' e' s' v n' ys := by
  refine ⟨hv.1, ?_⟩
  rcases hv.2 with h2 | ⟨g, cap, cur, q, hb, hgg, r⟩
  · exact .inl h2
  · exact .inr ⟨g, cap, cur, q, hb, grown_row hg hu hgg ht, r⟩
theorem set_owns {w : World} {k : Nat} {c : Array Value} {t : TypeId} {f : Nat × Nat} (hk : w.heap[k]? = some (.cells c t f)) (j : Nat) (x : Value) {base' : Nat} {e' : TypeId} {s' n' : Nat} {v : Value} {ys : List Value}
    (hv : w.ownsRow base' e' s' v n' ys) (ht : e' ≠ t) : (w.setCell ⟨k, j, none⟩ x).ownsRow base' e' s' v n' ys := by
  refine ⟨hv.1, ?_⟩
  rcases hv.2 with h2 | ⟨g, cap, cur, q, hb, hgg, r⟩
  · exact .inl h2
  · refine .inr ⟨g, cap, cur, q, hb, ?_, r⟩
    rw [Below.heap_setCell _ _ _ _ (by intro e; simp at e; subst e; rw [hk] at hgg; simp only [Option.some.injEq, Obj.cells.injEq] at hgg; exact ht hgg.2.1.symm)]
    exact hgg
theorem infoList : ∃ i, Tryz.prog.info? 27 = some i ∧ i.zero = some (.slice none 0 0) ∧ i.size = 1 ∧ i.bytes = 24 := info_of (by kernel_rfl)
/-- A list more onto a row of lists. -/
theorem app_list {bs : Nat} (w : World) (hbs : bs ≤ w.heap.size) (v : Value) (n : Nat) (ls : List Value) (a : Option Addr) (k c : Nat) (hown : w.ownsRow bs 27 1 v n ls) (hn : n ≤ 1000000000) :
    ∃ v' w', (Builtin.append_ #[58, 58] 58 #[v, .slice (some ⟨w.heap.size, 0, none⟩) 1 1]).run Tryz.prog (w.alloc (.cells #[.slice a k c] 27)) = .ok v' w' ∧
      w'.ownsRow bs 27 1 v' (n + 1) (ls ++ [.slice a k c]) ∧ w.grownBy w' v.ownBlock ∧ (v'.ownBlock = v.ownBlock ∨ ∃ g, v'.ownBlock = some g ∧ w.heap.size ≤ g) := by
  obtain ⟨i, hi, hz, hs, hb⟩ := infoList
  obtain ⟨v', w', hr, ho, hg, _, hat⟩ := run_append_own_at (P := Tryz.prog) (w.alloc (.cells #[.slice a k c] 27)) bs 58 58 27 i _ 1 24 Tryz.underlying58 hi hz hs hb rfl (by decide) v n ls (hown.alloc _) ⟨w.heap.size, 0, none⟩ 1 1 [.slice a k c] rfl
    (by intro j u hj; rw [addr_add, Nat.zero_add, cell_new]; simpa using hj) (by intro u hu; simp at hu; subst hu; rfl) (by unfold maxLen; omega) (by omega) (by simp; omega)
  refine ⟨v', w', hr, ho, ⟨hg.os, hg.tape, hg.output, Nat.le_trans (by simp) hg.size, fun q hq hne => ?_⟩, ?_⟩
  · rw [hg.block q (by simp; omega) hne, Below.heap_alloc _ _ _ hq]
  · rcases hat with h | h
    · exact .inl h
    · exact .inr ⟨_, h, by simp⟩

theorem marks_set (xs : List Value) (n k : Nat) (m : ByteArray) (hx : xs.length = n * 2) (hk : k < n) :
    ((pc (mkd k m) ++ xs.drop (k * 2)).set (k * 2) (.string ⟨#[]⟩)).set (k * 2 + 1) (.string m) = pc (mkd (k + 1) m) ++ xs.drop ((k + 1) * 2) := by
  have e1 : (pc (mkd k m)).length = k * 2 := by rw [pc_length, mkd_length]
  have e2 : pc (mkd (k + 1) m) = pc (mkd k m) ++ [.string ⟨#[]⟩, .string m] := by
    rw [← mkd_append, pc_append]; simp [mkd, pc]
  have e3 : xs.drop (k * 2) = xs[k * 2] :: xs[k * 2 + 1] :: xs.drop ((k + 1) * 2) := by
    rw [List.drop_eq_getElem_cons (by omega), List.drop_eq_getElem_cons (by omega)]
    have : k * 2 + 1 + 1 = (k + 1) * 2 := by omega
    rw [this]
  rw [e2, e3, List.set_append_right _ _ (by omega), List.set_append_right _ _ (by omega), e1]
  have : k * 2 + 1 - k * 2 = 1 := by omega
  simp [this]

/-- The row of the world's struct, told by its cells. -/
theorem wrow {w : World} {W : Nat} {c0 c1 c2 c3 c4 c5 c6 : Value} (h : w.heap[W]? = some (.cells #[c0, c1, c2, c3, c4, c5, c6] 60 (0, 0))) :
    w.cell? ⟨W, 5, none⟩ = some c5 ∧ w.cell? ⟨W, 6, none⟩ = some c6 ∧ w.frozen? ⟨W, 5, none⟩ = false ∧ w.frozen? ⟨W, 6, none⟩ = false :=
  ⟨by rw [cell_of_row _ _ _ _ _ _ h]; rfl, by rw [cell_of_row _ _ _ _ _ _ h]; rfl, frozen_of_row _ _ _ _ _ h, frozen_of_row _ _ _ _ _ h⟩
theorem wset5 {w : World} {W : Nat} {c0 c1 c2 c3 c4 c5 c6 : Value} (h : w.heap[W]? = some (.cells #[c0, c1, c2, c3, c4, c5, c6] 60 (0, 0))) (x : Value) : (w.setCell ⟨W, 5, none⟩ x).heap[W]? = some (.cells #[c0, c1, c2, c3, c4, x, c6] 60 (0, 0)) := by
  have := heap_setCell_same w W 5 _ _ x h
  simpa using this
theorem wset6 {w : World} {W : Nat} {c0 c1 c2 c3 c4 c5 c6 : Value} (h : w.heap[W]? = some (.cells #[c0, c1, c2, c3, c4, c5, c6] 60 (0, 0))) (x : Value) : (w.setCell ⟨W, 6, none⟩ x).heap[W]? = some (.cells #[c0, c1, c2, c3, c4, c5, x] 60 (0, 0)) := by
  have := heap_setCell_same w W 6 _ _ x h
  simpa using this

/-- One growth by marks, all that matters kept. -/
structure Grow1 (bs : Nat) (w : World) (W mb : Nat) (l : Value) (k q : Nat) (m : ByteArray) (row : Obj) (ls ls3 : Value) (M : Nat) (xl xl3 : List Value) (cs : Array Value) (v : Value) (w' : World) : Prop where
  run : (Builtin.append_ #[27, 27] 27 #[l, .slice (some ⟨w.heap.size, 0, none⟩) q q]).run Tryz.prog (w.alloc (.cells cs 53)) = .ok v w'
  mk_ : Mk w' v (k + q) m
  keep : ∀ u c, Mk w u c m → Mk w' u c m
  row : w'.heap[W]? = some row
  own : w'.ownsRow bs 27 1 ls M xl
  own3 : w'.ownsRow bs 27 1 ls3 (3 * M) xl3
  b0 : w'.cell? ⟨mb, 0, none⟩ = some (.string ⟨#[]⟩)
  b1 : w'.cell? ⟨mb, 1, none⟩ = some (.string m)
  at_ : v.ownBlock = l.ownBlock ∨ ∃ g, v.ownBlock = some g ∧ w.heap.size ≤ g
  fr : Fr (fun b => some b = l.ownBlock) w w'
theorem grow1 {bs : Nat} (w : World) (W mb : Nat) (l : Value) (k q : Nat) (m : ByteArray) {rc : Array Value} (ls ls3 : Value) (M : Nat) (xl xl3 : List Value) (cs : Array Value) (hq : 0 < q) (hcs : ∀ j, j < q * 2 → cs[j]? = some (mc m j))
    (hl : Mk w l k m) (hW : w.heap[W]? = some (.cells rc 60 (0, 0))) (ho : w.ownsRow bs 27 1 ls M xl) (ho3 : w.ownsRow bs 27 1 ls3 (3 * M) xl3)
    (b0 : w.cell? ⟨mb, 0, none⟩ = some (.string ⟨#[]⟩)) (b1 : w.cell? ⟨mb, 1, none⟩ = some (.string m)) (hmb : l.ownBlock ≠ some mb) (hk : k + q ≤ 1000000000) :
    ∃ v w', Grow1 bs w W mb l k q m (.cells rc 60 (0, 0)) ls ls3 M xl xl3 cs v w' := by
  have xA := (Ext.refl w).alloc (.cells cs 53)
  obtain ⟨v, w', hr, mk, g, at_, pr⟩ := app_marks (w.alloc (.cells cs 53)) l k q m (hl.ext xA) ⟨w.heap.size, 0, none⟩ hq
    (by intro j hj; rw [addr_add, Nat.zero_add, cell_new]; exact hcs j hj) hk
  refine ⟨v, w', hr, mk, fun u c hu => pr u c (hu.ext xA), grown_row g (hl.ext xA) (xA.row hW) (by decide), grown_owns g (hl.ext xA) (owns_ext ho xA) (by decide), grown_owns g (hl.ext xA) (owns_ext ho3 xA) (by decide),
    g.cell (xA.keep1 b0) (Ne.symm hmb), g.cell (xA.keep1 b1) (Ne.symm hmb), ?_, (Fr.of_ext xA).trans (Fr.of_grown g (fun k hk => hk.symm))⟩
  rcases at_ with h | ⟨g', h, hb⟩
  · exact .inl h
  · exact .inr ⟨g', h, by simp at hb; omega⟩

theorem heap_set_row {w : World} {W : Nat} {cs : Array Value} {t : TypeId} (j : Nat) (x : Value) (h : w.heap[W]? = some (.cells cs t (0, 0))) : (w.setCell ⟨W, j, none⟩ x).heap[W]? = some (.cells (cs.setIfInBounds j x) t (0, 0)) := by
  have := heap_setCell_same w W j _ _ x h
  simpa using this
theorem own_off {w : World} {base : Nat} {e : TypeId} {s n : Nat} {v : Value} {xs : List Value} (h : w.ownsRow base e s v n xs) {k : Nat} {c : Array Value} {t : TypeId} {f : Nat × Nat} (hk : w.heap[k]? = some (.cells c t f)) (ht : t ≠ e) : v.ownBlock ≠ some k := rows_ne hk h ht
/-- One list more onto the row in cell j of the struct; what lies in another row is kept. -/
structure Step1 (bs : Nat) (w : World) (W j : Nat) (cs : Array Value) (T : Value) (n : Nat) (ls : List Value) (x : Value) (O : Value) (no : Nat) (os : List Value) (a' : Option Addr) (c' : Nat) (w' : World) : Prop where
  run : (Builtin.append_ #[58, 58] 58 #[T, .slice (some ⟨w.heap.size, 0, none⟩) 1 1]).run Tryz.prog (w.alloc (.cells #[x] 27)) = .ok (.slice a' (n + 1) c') w'
  froz : w'.frozen? ⟨W, j, none⟩ = false
  cell : w'.cell? ⟨W, j, none⟩ = some T
  size : w.heap.size ≤ w'.heap.size
  row0 : w'.heap[W]? = some (.cells cs 60 (0, 0))
  row : (w'.setCell ⟨W, j, none⟩ (.slice a' (n + 1) c')).heap[W]? = some (.cells (cs.setIfInBounds j (.slice a' (n + 1) c')) 60 (0, 0))
  own : (w'.setCell ⟨W, j, none⟩ (.slice a' (n + 1) c')).ownsRow bs 27 1 (.slice a' (n + 1) c') (n + 1) (ls ++ [x])
  other : (w'.setCell ⟨W, j, none⟩ (.slice a' (n + 1) c')).ownsRow bs 27 1 O no os
  off : O.ownBlock = none ∨ O.ownBlock ≠ (Value.slice a' (n + 1) c').ownBlock
  keep : ∀ u c m, Mk w u c m → Mk (w'.setCell ⟨W, j, none⟩ (.slice a' (n + 1) c')) u c m
  fr : Fr (fun b => b = W ∨ some b = T.ownBlock) w (w'.setCell ⟨W, j, none⟩ (.slice a' (n + 1) c'))
  at_ : (Value.slice a' (n + 1) c').ownBlock = T.ownBlock ∨ ∃ g, (Value.slice a' (n + 1) c').ownBlock = some g ∧ w.heap.size ≤ g
theorem step_list {bs : Nat} {w : World} (hbs : bs ≤ w.heap.size) {W j : Nat} {cs : Array Value} {T : Value} {n : Nat} {ls : List Value} {O : Value} {no : Nat} {os : List Value} (hW : w.heap[W]? = some (.cells cs 60 (0, 0))) (hj : cs[j]? = some T)
    (hT : w.ownsRow bs 27 1 T n ls) (hO : w.ownsRow bs 27 1 O no os) (hd : O.ownBlock = none ∨ O.ownBlock ≠ T.ownBlock) (a : Option Addr) (k c : Nat) (hn : n ≤ 1000000000) :
    ∃ a' c' w', Step1 bs w W j cs T n ls (.slice a k c) O no os a' c' w' := by
  obtain ⟨v, w', hr, ho, hg, hat⟩ := app_list w hbs T n ls a k c hT hn
  obtain ⟨a', c', e⟩ : ∃ a' c', v = .slice a' (n + 1) c' := by
    rcases ho.2 with ⟨e, e2⟩ | ⟨g, cap, cur, e, _⟩
    · omega
    · exact ⟨_, _, e⟩
  subst e
  have hW' := grown_row hg hT hW (by decide)
  have hO' : w'.ownsRow bs 27 1 O no os := World.ownsRow.kept hO hg hd
  refine ⟨a', c', w', hr, frozen_of_row _ _ _ _ _ hW', by rw [cell_of_row _ _ _ _ _ _ hW']; exact hj, hg.size, hW', heap_set_row j _ hW', set_owns hW' j _ ho (by decide), set_owns hW' j _ hO' (by decide), ?_, ?_, ?_, hat⟩
  · rcases hat with h | ⟨g, h, hb⟩
    · rw [h]; exact hd
    · cases hq : O.ownBlock with
      | none => exact .inl rfl
      | some q =>
        right; rw [h]; intro e
        have := (hO.lt q hq).2
        simp only [Option.some.injEq] at e
        omega
  · intro u c m hu
    exact set_owns hW' j _ (grown_owns hg hT hu (by decide)) (by decide)
  · exact (Fr.of_grown hg (fun k hk => .inr hk.symm)).trans (Fr.of_set _ _ _ (.inl rfl))

set_option maxHeartbeats 4000000 in
set_option maxRecDepth 100000 in
theorem marks_any (bs : Nat) (W : Nat) (came bad kv wv psv : Value) (la : Option Addr) (lc : Nat) (ta : Option Addr) (tc : Nat) (a : Option Addr) (cap : Nat) (n M : Nat) (xs ls ls3 : List Value) (w : World) (hbs : bs ≤ w.heap.size)
    (hW : w.heap[W]? = some (.cells #[came, bad, kv, wv, psv, .slice la M lc, .slice ta (3 * M) tc] 60 (0, 0)))
    (hl : w.ownsRow 0 53 2 (.slice a n cap) n xs) (hls : w.ownsRow bs 27 1 (.slice la M lc) M ls) (hls3 : w.ownsRow bs 27 1 (.slice ta (3 * M) tc) (3 * M) ls3)
    (hd : (Value.slice la M lc).ownBlock = none ∨ (Value.slice la M lc).ownBlock ≠ (Value.slice ta (3 * M) tc).ownBlock) (hn : n ≤ 1000000) (hM : M ≤ 100000000) :
    Calls Tryz.prog 87 #[.pointer (some ⟨W, 0, none⟩), .slice a n cap] w fun e w' => e = .returned (.tuple #[]) ∧ ∃ v1 v2 v3 lsv' ls3v', w'.heap[W]? = some (.cells #[came, bad, kv, wv, psv, lsv', ls3v'] 60 (0, 0)) ∧
      Mk w' (.slice a n cap) n (stk M) ∧ Mk w' v1 (n + 1) (stk M) ∧ Mk w' v2 (n + 2) (stk M) ∧ Mk w' v3 (n + 3) (stk M) ∧
      w'.ownsRow bs 27 1 lsv' (M + 1) (ls ++ [.slice a n cap]) ∧ w'.ownsRow bs 27 1 ls3v' (3 * M + 1 + 1 + 1) (ls3 ++ [v1] ++ [v2] ++ [v3]) ∧ (lsv'.ownBlock = none ∨ lsv'.ownBlock ≠ ls3v'.ownBlock) ∧
      (∀ u, u = v1 ∨ u = v2 ∨ u = v3 → u.ownBlock = (Value.slice a n cap).ownBlock ∨ ∃ g, u.ownBlock = some g ∧ w.heap.size ≤ g) ∧
      Fr (fun b => b = W ∨ some b = (Value.slice a n cap).ownBlock ∨ some b = (Value.slice la M lc).ownBlock ∨ some b = (Value.slice ta (3 * M) tc).ownBlock ∨ w.heap.size ≤ b) w w' := by
  have hWlt := row_lt hW
  have hWc : ∀ (w' : World), w'.heap[W]? = some (.cells #[came, bad, kv, wv, psv, .slice la M lc, .slice ta (3 * M) tc] 60 (0, 0)) → w'.cell? ⟨W, 5, none⟩ = some (.slice la M lc) ∧ w'.cell? ⟨W, 6, none⟩ = some (.slice ta (3 * M) tc) := fun w' h' => ⟨by rw [cell_of_row _ _ _ _ _ _ h']; rfl, by rw [cell_of_row _ _ _ _ _ _ h']; rfl⟩
  obtain ⟨c5, c6⟩ := hWc w hW
  have HW := hid hW
  have HL := hid hl
  have HLS := hid hls
  have HLS3 := hid hls3
  have HWC := hid hWc
  have hxl : xs.length = n * 2 := hl.1
  clear hW hl hls hls3 hWc
  go_enter Tryz.func87, Tryz.ntmps87
  go_wp2_with fail
  refine (strokes_any M (by omega) _).mono ?_
  rintro e w1 ⟨rfl, hx1⟩
  generalize hm : stk M = m at *
  have HM := hid hm
  clear hm
  have hxm := hx1.alloc (.cells #[.string ⟨#[]⟩, .string m] 53)
  have d0 := cell_new w1 #[.string ⟨#[]⟩, .string m] 53 0
  have d1 := cell_new w1 #[.string ⟨#[]⟩, .string m] 53 1
  have hmb := hx1.size
  have hmb2 : w1.heap.size < (w1.alloc (.cells #[.string ⟨#[]⟩, .string m] 53)).heap.size := by simp
  go_wp2_with fail
  generalize w1.alloc (.cells #[.string ⟨#[]⟩, .string m] 53) = Wm at *
  replace d0 : Wm.cell? ⟨w1.heap.size, 0, none⟩ = some (.string ⟨#[]⟩) := d0
  replace d1 : Wm.cell? ⟨w1.heap.size, 1, none⟩ = some (.string m) := d1
  go_loopw [5] (fun i wr => ∃ k : Nat, k ≤ n ∧ i = .int .i64 k ∧ wr.ownsRow 0 53 2 (.slice a n cap) n (pc (mkd k m) ++ xs.drop (k * 2)) ∧ Wm.grownBy wr (Value.slice a n cap).ownBlock) (fun i _ => n - (intOf i).toNat)
  case atStart => exact ⟨0, Nat.zero_le _, rfl, by simpa [mkd, pc] using owns_ext HL.out hxm, ⟨rfl, rfl, rfl, Nat.le_refl _, fun _ _ _ => rfl⟩⟩
  case round =>
    obtain ⟨k, hk, rfl, hown, hgr⟩ := hrel
    have hbne : ∀ g, (Value.slice a n cap).ownBlock = some g → g < w1.heap.size := fun g hg => Nat.lt_of_lt_of_le (HL.out.lt g hg).2 hmb
    have e0 : wr.cell? ⟨w1.heap.size, 0, none⟩ = some (.string ⟨#[]⟩) := hgr.cell d0 (fun q => Nat.lt_irrefl _ (hbne _ q.symm))
    have e1 : wr.cell? ⟨w1.heap.size, 1, none⟩ = some (.string m) := hgr.cell d1 (fun q => Nat.lt_irrefl _ (hbne _ q.symm))
    by_cases hlt : k < n
    · obtain ⟨g, rfl⟩ : ∃ g, a = some ⟨g, 0, none⟩ := by
        rcases hown.2 with ⟨q, q2⟩ | ⟨g, c, cur, q, _⟩
        · omega
        · simp only [Value.slice.injEq] at q; exact ⟨g, q.1⟩
      have hl1 := hown.1
      obtain ⟨q0, hq0⟩ : ∃ q, wr.cell? ⟨g, k * 2, none⟩ = some q := ⟨_, (hown.cellAt (k * 2) (by omega)).trans (List.getElem?_eq_getElem (by omega))⟩
      obtain ⟨q1, hq1⟩ : ∃ q, wr.cell? ⟨g, k * 2 + 1, none⟩ = some q := ⟨_, (hown.cellAt (k * 2 + 1) (by omega)).trans (List.getElem?_eq_getElem (by omega))⟩
      have hf0 := hown.frozenAt (k * 2)
      have hf1 := hown.frozenAt (k * 2 + 1)
      have hs1 := hown.stored (k * 2) (.string ⟨#[]⟩)
      have hs2 := hs1.1.stored (k * 2 + 1) (.string m)
      have ho3 := hs2.1
      rw [marks_set xs n k m hxl hlt] at ho3
      have HG := hid (show Wm.grownBy ((wr.setCell ⟨g, k * 2, none⟩ (.string ⟨#[]⟩)).setCell ⟨g, k * 2 + 1, none⟩ (.string m)) (some g) from
        ⟨hs2.2.os.trans (hs1.2.os.trans hgr.os), hs2.2.tape.trans (hs1.2.tape.trans hgr.tape), hs2.2.output.trans (hs1.2.output.trans hgr.output), Nat.le_trans hgr.size (Nat.le_trans hs1.2.size hs2.2.size), fun b hb hne => (hs2.2.block b (Nat.lt_of_lt_of_le hb (Nat.le_trans hgr.size hs1.2.size)) hne).trans ((hs1.2.block b (Nat.lt_of_lt_of_le hb hgr.size) hne).trans (hgr.block b hb hne))⟩)
      have HO := hid ho3
      clear hs1 hs2 ho3 hown hgr hl1
      go_wp2_with fail
      go_roundw
      case rel => exact ⟨k + 1, by omega, by go_num, HO.out, HG.out⟩
      case measure => simp [intOf]; omega
    · obtain rfl : k = n := by omega
      have hmk : Mk wr (.slice a k cap) k m := by
        unfold Mk
        have : xs.drop (k * 2) = [] := List.drop_eq_nil_of_le (by omega)
        rwa [this, List.append_nil] at hown
      clear hown
      have hwxr : Wm.heap.size ≤ wr.heap.size := hgr.size
      have hWm := hxm.row HW.out
      have hlm := owns_ext HL.out hxm
      have hWr := grown_row hgr hlm hWm (by decide)
      have hlsr := grown_owns hgr hlm (owns_ext HLS.out hxm) (by decide)
      have hls3r := grown_owns hgr hlm (owns_ext HLS3.out hxm) (by decide)
      have hmbn : (Value.slice a k cap).ownBlock ≠ some w1.heap.size := fun q => Nat.lt_irrefl _ (hbne _ q)
      obtain ⟨v1, wB, G1⟩ := grow1 wr W w1.heap.size (.slice a k cap) k 1 m _ _ M _ _ #[.string ⟨#[]⟩, .string m] (by omega) (by intro j hj; match j, hj with | 0, _ => rfl | 1, _ => rfl) hmk hWr hlsr hls3r e0 e1 hmbn (by omega)
      obtain ⟨v2, wC, G2⟩ := grow1 wB W w1.heap.size (.slice a k cap) k 2 m _ _ M _ _ #[.string ⟨#[]⟩, .string m, .string ⟨#[]⟩, .string m] (by omega) (by intro j hj; match j, hj with | 0, _ => rfl | 1, _ => rfl | 2, _ => rfl | 3, _ => rfl) (G1.keep _ _ hmk) G1.row G1.own G1.own3 G1.b0 G1.b1 hmbn (by omega)
      obtain ⟨v3, wD, G3⟩ := grow1 wC W w1.heap.size (.slice a k cap) k 3 m _ _ M _ _ #[.string ⟨#[]⟩, .string m, .string ⟨#[]⟩, .string m, .string ⟨#[]⟩, .string m] (by omega) (by intro j hj; match j, hj with | 0, _ => rfl | 1, _ => rfl | 2, _ => rfl | 3, _ => rfl | 4, _ => rfl | 5, _ => rfl) (G2.keep _ _ (G1.keep _ _ hmk)) G2.row G2.own G2.own3 G2.b0 G2.b1 hmbn (by omega)
      obtain ⟨a1, c1, ev1⟩ := G1.mk_.shape
      obtain ⟨a2, c2, ev2⟩ := G2.mk_.shape
      obtain ⟨a3, c3, ev3⟩ := G3.mk_.shape
      subst ev1 ev2 ev3
      have mkl := G3.keep _ _ (G2.keep _ _ (G1.keep _ _ hmk))
      have mk1 := G3.keep _ _ (G2.keep _ _ G1.mk_)
      have mk2 := G3.keep _ _ G2.mk_
      have mk3 := G3.mk_
      -- the four rows of lists
      have hd' : (Value.slice ta (3 * M) tc).ownBlock = none ∨ (Value.slice ta (3 * M) tc).ownBlock ≠ (Value.slice la M lc).ownBlock := by
        rcases hd with h | h
        · cases hq : (Value.slice ta (3 * M) tc).ownBlock with
          | none => exact .inl rfl
          | some g => right; rw [h]; simp
        · exact .inr (Ne.symm h)
      have hszr : w.heap.size ≤ wr.heap.size := Nat.le_trans hxm.size hwxr
      have sB := G1.fr.size
      have sC := G2.fr.size
      have sD := G3.fr.size
      obtain ⟨sa, sc, wE, X1⟩ := step_list (by omega) (j := 5) (T := .slice la M lc) G3.row rfl G3.own G3.own3 hd' a k cap (by omega)
      have sE := X1.fr.size
      have o1 : (Value.slice sa (M + 1) sc).ownBlock = none ∨ (Value.slice sa (M + 1) sc).ownBlock ≠ (Value.slice ta (3 * M) tc).ownBlock := by
        rcases X1.off with h | h
        · cases hq : (Value.slice sa (M + 1) sc).ownBlock with
          | none => exact .inl rfl
          | some g => right; rw [h]; simp
        · exact .inr (Ne.symm h)
      obtain ⟨x1, y1, wF, X2⟩ := step_list (by omega) (j := 6) (T := .slice ta (3 * M) tc) X1.row rfl X1.other X1.own o1 a1 (k + 1) c1 (by omega)
      have sF := X2.fr.size
      obtain ⟨x2, y2, wG, X3⟩ := step_list (by omega) (j := 6) (T := .slice x1 (3 * M + 1) y1) X2.row rfl X2.own X2.other X2.off a2 (k + 2) c2 (by omega)
      have sG := X3.fr.size
      obtain ⟨x3, y3, wH, X4⟩ := step_list (by omega) (j := 6) (T := .slice x2 (3 * M + 1 + 1) y2) X3.row rfl X3.own X3.other X3.off a3 (k + 3) c3 (by omega)
      have sz : ∀ (w : World) (p : Addr) (x : Value), (w.setCell p x).heap.size = w.heap.size := fun w p x => by simp [World.setCell]
      have R1 := hid G1.run
      have R2 := hid G2.run
      have R3 := hid G3.run
      have S1 := hid X1.run
      have S2 := hid X2.run
      have S3 := hid X3.run
      have S4 := hid X4.run
      rw [sz] at S2 S3 S4
      have z1 := (wrow G3.row).1
      have z2 := X1.cell
      have z3 := X1.froz
      have z4 := X2.cell
      have z5 := X2.froz
      have z6 := X3.cell
      have z7 := X3.froz
      have z8 := X4.cell
      have z9 := X4.froz
      have zE := (wrow X1.row0).2.1
      have b2 := G1.b0
      have b3 := G1.b1
      have b4 := G2.b0
      have b5 := G2.b1
      have fin_row := hid X4.row
      have fin_l := hid (X4.keep _ _ _ (X3.keep _ _ _ (X2.keep _ _ _ (X1.keep _ _ _ mkl))))
      have fin_1 := hid (X4.keep _ _ _ (X3.keep _ _ _ (X2.keep _ _ _ (X1.keep _ _ _ mk1))))
      have fin_2 := hid (X4.keep _ _ _ (X3.keep _ _ _ (X2.keep _ _ _ (X1.keep _ _ _ mk2))))
      have fin_3 := hid (X4.keep _ _ _ (X3.keep _ _ _ (X2.keep _ _ _ (X1.keep _ _ _ mk3))))
      have fin_o := hid X4.own
      have fin_s := hid X4.other
      have fin_d := hid X4.off
      have fin_at := hid (show ∀ u, u = Value.slice a1 (k + 1) c1 ∨ u = Value.slice a2 (k + 2) c2 ∨ u = Value.slice a3 (k + 3) c3 → u.ownBlock = (Value.slice a k cap).ownBlock ∨ ∃ g, u.ownBlock = some g ∧ w.heap.size ≤ g by
        rintro u (rfl | rfl | rfl)
        · rcases G1.at_ with h | ⟨g, h, hb⟩
          · exact .inl h
          · exact .inr ⟨g, h, by omega⟩
        · rcases G2.at_ with h | ⟨g, h, hb⟩
          · exact .inl h
          · exact .inr ⟨g, h, by omega⟩
        · rcases G3.at_ with h | ⟨g, h, hb⟩
          · exact .inl h
          · exact .inr ⟨g, h, by omega⟩)
      have fin_fr := hid (show Fr (fun b => b = W ∨ some b = (Value.slice a k cap).ownBlock ∨ some b = (Value.slice la M lc).ownBlock ∨ some b = (Value.slice ta (3 * M) tc).ownBlock ∨ w.heap.size ≤ b) w (wH.setCell ⟨W, 6, none⟩ (.slice x3 (3 * M + 1 + 1 + 1) y3)) by
        have f0 : Fr (fun b => b = W ∨ some b = (Value.slice a k cap).ownBlock ∨ some b = (Value.slice la M lc).ownBlock ∨ some b = (Value.slice ta (3 * M) tc).ownBlock ∨ w.heap.size ≤ b) w wr := (Fr.of_ext hxm).trans (Fr.of_grown hgr (fun k h => .inr (.inl h.symm)))
        have f1 := f0.trans (G1.fr.mono (fun b _ h => .inr (.inl h)))
        have f2 := f1.trans (G2.fr.mono (fun b _ h => .inr (.inl h)))
        have f3 := f2.trans (G3.fr.mono (fun b _ h => .inr (.inl h)))
        have f4 := f3.trans (X1.fr.mono (fun b _ h => h.elim .inl (fun h => .inr (.inr (.inl h)))))
        have f5 := f4.trans (X2.fr.mono (fun b _ h => h.elim .inl (fun h => .inr (.inr (.inr (.inl h))))))
        have f6 := f5.trans (X3.fr.mono (fun b _ h => h.elim .inl (fun h => by
          rcases X2.at_ with q | ⟨g, q, hb⟩
          · exact .inr (.inr (.inr (.inl (h.trans q))))
          · rw [q] at h; simp only [Option.some.injEq] at h; exact .inr (.inr (.inr (.inr (by omega)))))))
        exact f6.trans (X4.fr.mono (fun b _ h => h.elim .inl (fun h => by
          rcases X3.at_ with q | ⟨g, q, hb⟩
          · rcases X2.at_ with q' | ⟨g, q', hb⟩
            · exact .inr (.inr (.inr (.inl (h.trans (q.trans q')))))
            · rw [q, q'] at h; simp only [Option.some.injEq] at h; exact .inr (.inr (.inr (.inr (by omega))))
          · rw [q] at h; simp only [Option.some.injEq] at h; exact .inr (.inr (.inr (.inr (by omega))))))))
      clear G1 G2 G3 X1 X2 X3 X4 mkl mk1 mk2 mk3 hlsr hls3r hWr hlm hWm hmk hgr hbne hmbn hd hd' o1 sz c5 c6 d0 d1 hx1 hxm
      go_wp2_with (first
        | (at_builtin; refine wpList_append_run rfl _ _ 27 27 rfl (.slice a k cap) (.slice (some ⟨wr.heap.size, 0, none⟩) 1 1) rfl rfl _ _ R1.out ?_)
        | (at_builtin; refine wpList_append_run rfl _ _ 27 27 rfl (.slice a k cap) (.slice (some ⟨wB.heap.size, 0, none⟩) 2 2) rfl rfl _ _ R2.out ?_)
        | (at_builtin; refine wpList_append_run rfl _ _ 27 27 rfl (.slice a k cap) (.slice (some ⟨wC.heap.size, 0, none⟩) 3 3) rfl rfl _ _ R3.out ?_)
        | (at_builtin; refine wpList_append_run rfl _ _ 58 58 rfl (.slice la M lc) (.slice (some ⟨wD.heap.size, 0, none⟩) 1 1) rfl rfl _ _ S1.out ?_)
        | (at_builtin; refine wpList_append_run rfl _ _ 58 58 rfl (.slice ta (3 * M) tc) (.slice (some ⟨wE.heap.size, 0, none⟩) 1 1) rfl rfl _ _ S2.out ?_)
        | (at_builtin; refine wpList_append_run rfl _ _ 58 58 rfl (.slice x1 (3 * M + 1) y1) (.slice (some ⟨wF.heap.size, 0, none⟩) 1 1) rfl rfl _ _ S3.out ?_)
        | (at_builtin; refine wpList_append_run rfl _ _ 58 58 rfl (.slice x2 (3 * M + 1 + 1) y2) (.slice (some ⟨wG.heap.size, 0, none⟩) 1 1) rfl rfl _ _ S4.out ?_))
      go_end0
      rw [HM.out]
      exact ⟨rfl, _, _, _, _, _, fin_row.out, fin_l.out, fin_1.out, fin_2.out, fin_3.out, fin_s.out, fin_o.out, fin_d.out, fin_at.out, fin_fr.out⟩
end Go.Proofs.YtjohkmkgmbihkaaGreatDoor
