/- The document's reading of an answer. -/
import Derived.Test.YtjohkmkgmbihkaaDoorRefD
import Derived.Test.YtjohkmkgmbihkaaDoorAnsPlain
import Derived.Deep.RegionHeld3
import Derived.Deep.DrawnRows
import Derived.Test.YtjohkmkgmbihkaaDoorOverF
namespace Go.Proofs.YtjohkmkgmbihkaaDoor
set_option linter.unusedVariables false
open Go.ChangeShapes Go.WideShapes Go.ChangeAt Go.RowKit
/-- A tree of the list. -/
structure TR where
  kind : Nat
  stub : ByteArray
  it : It
  l : Nat
  r : Nat
  low : ByteArray
  high : ByteArray
def TR.cells (x : TR) : List Value := [.int .u8 x.kind, .string x.stub, .string x.it.key, .string x.it.val, .int .i64 x.it.h, .int .i64 x.l, .int .i64 x.r, .string x.low, .string x.high]
theorem TR.cells_len (x : TR) : x.cells.length = 9 := rfl
def tc (T : List TR) : List Value := T.flatMap TR.cells
theorem tc_cons (x : TR) (T : List TR) : tc (x :: T) = x.cells ++ tc T := by simp [tc]
theorem tc_append (A B : List TR) : tc (A ++ B) = tc A ++ tc B := by simp [tc]
theorem tc_length (T : List TR) : (tc T).length = T.length * 9 := by
  induction T with
  | nil => rfl
  | cons x T ih => rw [tc_cons, List.length_append, ih, TR.cells_len, List.length_cons]; omega
theorem tc_get : ∀ (T : List TR) (i : Nat) (h : i < T.length) (j : Nat), j < 9 → (tc T)[i * 9 + j]? = T[i].cells[j]?
  | x :: T, 0, _, j, hj => by
    rw [tc_cons, Nat.zero_mul, Nat.zero_add, List.getElem?_append_left (by rw [TR.cells_len]; exact hj)]; rfl
  | x :: T, i + 1, h, j, hj => by
    rw [tc_cons, List.getElem?_append_right (by rw [TR.cells_len]; omega), TR.cells_len, show (i + 1) * 9 + j - 9 = i * 9 + j by omega, tc_get T i (by simpa using h) j hj]
    rfl
theorem tc_set : ∀ (T : List TR) (i : Nat) (h : i < T.length) (j : Nat) (u : Value) (x : TR), j < 9 → x.cells = T[i].cells.set j u → (tc T).set (i * 9 + j) u = tc (T.set i x)
  | y :: T, 0, _, j, u, x, hj, hx => by
    rw [List.set_cons_zero, tc_cons, tc_cons, hx, Nat.zero_mul, Nat.zero_add, List.set_append_left _ _ (by rw [TR.cells_len]; exact hj)]; rfl
  | y :: T, i + 1, h, j, u, x, hj, hx => by
    rw [List.set_cons_succ, tc_cons, tc_cons, List.set_append_right _ _ (by rw [TR.cells_len]; omega), TR.cells_len, show (i + 1) * 9 + j - 9 = i * 9 + j by omega, tc_set T i (by simpa using h) j u x hj hx]
theorem oneCell_tc (T : List TR) : ∀ x ∈ tc T, x.oneCell' = true := by
  intro x hx
  simp only [tc, List.mem_flatMap, TR.cells] at hx
  obtain ⟨y, _, hy⟩ := hx
  simp at hy
  rcases hy with rfl | rfl | rfl | rfl | rfl | rfl | rfl | rfl | rfl <;> rfl
/-- A new tree of a kind. -/
def tr0 (k : Nat) : TR := ⟨k, ⟨#[]⟩, ⟨⟨#[]⟩, ⟨#[]⟩, 0⟩, 0, 0, ⟨#[]⟩, ⟨#[]⟩⟩

/-- All blocks but answers and trees stay as they were. -/
def Tf (w w' : World) : Prop := ∀ (k : Nat) (c : Array Value) (t : TypeId) (f : Nat × Nat), w.heap[k]? = some (.cells c t f) → t ≠ 63 → t ≠ 60 → w'.heap[k]? = some (.cells c t f)
theorem Tf.refl (w : World) : Tf w w := fun _ _ _ _ h _ _ => h
theorem Tf.trans {a b c : World} (h : Tf a b) (k : Tf b c) : Tf a c := fun i x t f q h1 h2 => k i x t f (h i x t f q h1 h2) h1 h2
theorem Tf.of {w w' : World} (h : Ext w w') : Tf w w' := fun _ _ _ _ q _ _ => h.row q
theorem Tf.set {w0 w : World} (h : Tf w0 w) {a : Nat} {c : Array Value} {t : TypeId} {f : Nat × Nat} (hr : w.heap[a]? = some (.cells c t f)) (ht : t = 63 ∨ t = 60) (j : Nat) (u : Value) : Tf w0 (w.setCell ⟨a, j, none⟩ u) := by
  intro i x t' f' q h1 h2
  have e := h i x t' f' q h1 h2
  have hne : i ≠ a := by
    intro z
    subst z
    rw [hr] at e
    simp only [Option.some.injEq, Obj.cells.injEq] at e
    obtain ⟨_, rfl, _⟩ := e
    rcases ht with rfl | rfl
    · exact h1 rfl
    · exact h2 rfl
  rw [Below.heap_setCell _ _ _ _ hne]
  exact e
theorem Tf.grown {w0 w w' : World} (h : Tf w0 w) {base size n : Nat} {v : Value} {xs : List Value} (ho : w.ownsRow base 60 size v n xs) (hg : w.grownBy w' v.ownBlock) : Tf w0 w' := by
  intro i x t' f' q h1 h2
  have e := h i x t' f' q h1 h2
  rw [hg.block i (row_lt e) (Ne.symm (rows_ne e ho h2))]
  exact e
/-- The document's answer: a block of four, and its list; all of it new since w0; but it and its like nothing has turned since w1. -/
structure An (w0 w1 w : World) (a : Nat) (v : Value) (T : List TR) (n at_ : Nat) (s : ByteArray) : Prop where
  base : w0.heap.size ≤ a
  row : w.heap[a]? = some (.cells #[v, .int .i64 n, .int .i64 at_, .string s] 63)
  own : w.ownsRow w0.heap.size 60 9 v T.length (tc T)
  ext : Ext w0 w
  tf : Tf w1 w
theorem An.rebase {w0 w1 w : World} {a : Nat} {v : Value} {T : List TR} {n p : Nat} {s : ByteArray} (h : An w0 w1 w a v T n p s) : An w0 w w a v T n p s := ⟨h.base, h.row, h.own, h.ext, Tf.refl _⟩
theorem An.back {w0 w1 w2 w : World} {a : Nat} {v : Value} {T : List TR} {n p : Nat} {s : ByteArray} (h : An w0 w2 w a v T n p s) (ht : Tf w1 w2) : An w0 w1 w a v T n p s := ⟨h.base, h.row, h.own, h.ext, ht.trans h.tf⟩
theorem An.c0 {w0 w1 w : World} {a : Nat} {v : Value} {T : List TR} {n p : Nat} {s : ByteArray} (h : An w0 w1 w a v T n p s) : w.cell? ⟨a, 0, none⟩ = some v := cell_of_row _ a 0 _ _ _ h.row
theorem An.c1 {w0 w1 w : World} {a : Nat} {v : Value} {T : List TR} {n p : Nat} {s : ByteArray} (h : An w0 w1 w a v T n p s) : w.cell? ⟨a, 1, none⟩ = some (.int .i64 n) := cell_of_row _ a 1 _ _ _ h.row
theorem An.c2 {w0 w1 w : World} {a : Nat} {v : Value} {T : List TR} {n p : Nat} {s : ByteArray} (h : An w0 w1 w a v T n p s) : w.cell? ⟨a, 2, none⟩ = some (.int .i64 p) := cell_of_row _ a 2 _ _ _ h.row
theorem An.c3 {w0 w1 w : World} {a : Nat} {v : Value} {T : List TR} {n p : Nat} {s : ByteArray} (h : An w0 w1 w a v T n p s) : w.cell? ⟨a, 3, none⟩ = some (.string s) := cell_of_row _ a 3 _ _ _ h.row
theorem An.f {w0 w1 w : World} {a : Nat} {v : Value} {T : List TR} {n p : Nat} {s : ByteArray} (h : An w0 w1 w a v T n p s) (i : Nat) : w.frozen? ⟨a, i, none⟩ = false := by
  unfold World.frozen?; rw [h.row]; simp
theorem An.lt {w0 w1 w : World} {a : Nat} {v : Value} {T : List TR} {n p : Nat} {s : ByteArray} (h : An w0 w1 w a v T n p s) : a < w.heap.size := row_lt h.row
theorem An.next {w0 w1 w w' : World} {a : Nat} {v : Value} {T : List TR} {n p : Nat} {s : ByteArray} (h : An w0 w1 w a v T n p s) (hx : Ext w w') : An w0 w1 w' a v T n p s :=
  ⟨h.base, hx.row h.row, owns_ext h.own hx, h.ext.trans hx, h.tf.trans (Tf.of hx)⟩
theorem An.shape {w0 w1 w : World} {a : Nat} {v : Value} {T : List TR} {n p : Nat} {s : ByteArray} (h : An w0 w1 w a v T n p s) : ∃ q c, v = .slice q T.length c ∧ T.length ≤ c ∧ c ≤ maxLen := (Seg.own h.own).shape
theorem owns_other {w : World} {a j : Nat} {u : Value} {c : Array Value} {t e : TypeId} {f : Nat × Nat} {base size n : Nat} {v : Value} {xs : List Value} (hb : w.heap[a]? = some (.cells c t f)) (ho : w.ownsRow base e size v n xs) (hne : t ≠ e) : (w.setCell ⟨a, j, none⟩ u).ownsRow base e size v n xs := by
  refine ho.kept (row := some a) ?_ ?_
  · exact ⟨rfl, rfl, rfl, by simp [World.setCell], fun k hk hne => Below.heap_setCell _ _ _ _ (by intro e; exact hne (by rw [e]))⟩
  · exact .inr (rows_ne hb ho hne)
theorem An.set1 {w0 w1 w : World} {a : Nat} {v : Value} {T : List TR} {n p : Nat} {s : ByteArray} (h : An w0 w1 w a v T n p s) {m : Nat} {z : Int} (hz : z = m) : An w0 w1 (w.setCell ⟨a, 1, none⟩ (.int .i64 z)) a v T m p s := by
  subst hz
  exact ⟨h.base, by simpa using heap_setCell_same w a 1 _ _ (.int .i64 m) h.row, owns_other h.row h.own (by decide), h.ext.setCell h.base _, h.tf.set h.row (.inl rfl) _ _⟩
theorem An.set2 {w0 w1 w : World} {a : Nat} {v : Value} {T : List TR} {n p : Nat} {s : ByteArray} (h : An w0 w1 w a v T n p s) {m : Nat} {z : Int} (hz : z = m) : An w0 w1 (w.setCell ⟨a, 2, none⟩ (.int .i64 z)) a v T n m s := by
  subst hz
  exact ⟨h.base, by simpa using heap_setCell_same w a 2 _ _ (.int .i64 m) h.row, owns_other h.row h.own (by decide), h.ext.setCell h.base _, h.tf.set h.row (.inl rfl) _ _⟩
/-- The list has grown elsewhere, and is laid into its place. -/
theorem An.set0 {w0 w1 w w' : World} {a : Nat} {v v' : Value} {T T' : List TR} {n p : Nat} {s : ByteArray} (h : An w0 w1 w a v T n p s) (hg : w.grownBy w' v.ownBlock) (ho : w'.ownsRow w0.heap.size 60 9 v' T'.length (tc T')) :
    An w0 w1 (w'.setCell ⟨a, 0, none⟩ v') a v' T' n p s := by
  have hr : w'.heap[a]? = some (.cells #[v, .int .i64 n, .int .i64 p, .string s] 63) := by
    rw [hg.block a h.lt (Ne.symm (rows_ne h.row h.own (by decide)))]; exact h.row
  have hx : Ext w0 w' := Ext.own_row h.ext h.own (Nat.le_refl _) hg
  exact ⟨h.base, by simpa using heap_setCell_same w' a 0 _ _ v' hr, owns_other hr ho (by decide), hx.setCell h.base _, (h.tf.grown h.own hg).set hr (.inl rfl) _ _⟩
/-- One cell of a tree is written. -/
theorem An.store {w0 w1 w : World} {a g c : Nat} {T : List TR} {n p : Nat} {s : ByteArray} (h : An w0 w1 w a (.slice (some ⟨g, 0, none⟩) T.length c) T n p s) {i j : Nat} (hi : i < T.length) (hj : j < 9) (u : Value) (x : TR) (hx : x.cells = T[i].cells.set j u) :
    An w0 w1 (w.setCell ⟨g, i * 9 + j, none⟩ u) a (.slice (some ⟨g, 0, none⟩) T.length c) (T.set i x) n p s := by
  have hne : a ≠ g := by
    intro q
    subst q
    exact rows_ne h.row h.own (by decide) rfl
  have hb := (h.own.lt g rfl).1
  have ho := (h.own.stored (i * 9 + j) u).1
  rw [tc_set T i hi j u x hj hx] at ho
  obtain ⟨cs, ff, hgr⟩ : ∃ cs ff, w.heap[g]? = some (.cells cs 60 ff) := by
    rcases h.own.2 with ⟨e, _⟩ | ⟨g', c', cur, hv, _, hg, _⟩
    · cases e
    · simp only [Value.slice.injEq, Option.some.injEq, Addr.mk.injEq] at hv
      obtain ⟨⟨rfl, _⟩, _⟩ := hv
      exact ⟨_, _, hg⟩
  refine ⟨h.base, ?_, by simpa using ho, h.ext.setCell hb _, h.tf.set hgr (.inr rfl) _ _⟩
  rw [Below.heap_setCell _ _ _ _ hne]; exact h.row
/-- The nine cells of a tree. -/
theorem An.at9 {w0 w1 w : World} {a g c : Nat} {T : List TR} {n p : Nat} {s : ByteArray} (h : An w0 w1 w a (.slice (some ⟨g, 0, none⟩) T.length c) T n p s) {i : Nat} (hi : i < T.length) {j : Nat} {u : Value} (hj : j < 9) (hu : T[i].cells[j]? = some u) : w.cell? ⟨g, i * 9 + j, none⟩ = some u := by
  have := h.own.cells (g := g) rfl (i * 9 + j) u (by rw [tc_get T i hi j hj]; exact hu)
  have hadd : (⟨g, 0, none⟩ : Addr).add (i * 9 + j) = ⟨g, i * 9 + j, none⟩ := by rw [addr_add, Nat.zero_add]
  rw [hadd] at this
  simpa using this
theorem An.blk {w0 w1 w : World} {a : Nat} {v : Value} {T : List TR} {n p : Nat} {s : ByteArray} (h : An w0 w1 w a v T n p s) (h0 : 0 < T.length) : ∃ g c, v = .slice (some ⟨g, 0, none⟩) T.length c ∧ g < w.heap.size ∧ w.frozen? ⟨g, 0, none⟩ = false ∧ ∀ j, w.frozen? ⟨g, j, none⟩ = false := by
  rcases h.own.2 with ⟨_, h2⟩ | ⟨g, c, cur, hv, hb, hg, h3, h4, h5, h6⟩
  · omega
  · refine ⟨g, c, hv, row_lt hg, ?_, fun j => ?_⟩ <;> (unfold World.frozen?; rw [hg]; simp)
theorem infoTree : ∃ i, Tryd.prog.info? 60 = some i ∧ i.zero = some (.agg #[.int .u8 0, .string ⟨#[]⟩, .string ⟨#[]⟩, .string ⟨#[]⟩, .int .i64 0, .int .i64 0, .int .i64 0, .string ⟨#[]⟩, .string ⟨#[]⟩]) ∧ i.size = 9 ∧ i.bytes = 112 := info_of (by kernel_rfl)
/-- A tree onto the list. -/
theorem app_tree (base : Nat) (w : World) (v u : Value) (T : List TR) (x : TR) (hb0 : base ≤ w.heap.size) (hown : w.ownsRow base 60 9 v T.length (tc T)) (hu : Seg w u 9 1 (tc [x])) (hl : T.length ≤ 1000) :
    ∃ v' w', (Builtin.append_ #[61, 61] 61 #[v, u]).run Tryd.prog w = .ok v' w' ∧
      w'.ownsRow base 60 9 v' (T ++ [x]).length (tc (T ++ [x])) ∧ w.grownBy w' v.ownBlock := by
  obtain ⟨i, hi, hz, hs, hb⟩ := infoTree
  obtain ⟨v', w', hr, ho, hg⟩ := append_seg (P := Tryd.prog) _ base 61 61 60 i _ 9 112 Tryd.underlying61 hi hz hs hb rfl (by decide) v _ _ hown
    u _ (tc [x]) hu (oneCell_tc _) (by unfold maxLen; omega) (by omega) hb0
  refine ⟨v', w', hr, ?_, hg⟩
  rw [tc_append, List.length_append]; exact ho
end Go.Proofs.YtjohkmkgmbihkaaDoor

namespace Go.Proofs.YtjohkmkgmbihkaaDoor
set_option linter.unusedVariables false
open Go.ChangeShapes Go.WideShapes Go.ChangeAt Go.RowKit
/-- The bytes from a place on. -/
def sfx (s : ByteArray) (p : Nat) : ByteArray := s.extract p s.size
theorem sfx_size (s : ByteArray) (p : Nat) : (sfx s p).size = s.size - p := by unfold sfx; rw [ByteArray.size_extract]; omega
theorem sfx_zero (s : ByteArray) : sfx s 0 = s := by
  apply ByteArray.ext
  unfold sfx
  rw [ByteArray.data_extract]
  show s.data.extract 0 s.data.size = s.data
  simp
theorem sfx_sfx (s : ByteArray) (p q : Nat) (hp : p ≤ s.size) : (sfx s p).extract q (sfx s p).size = sfx s (p + q) := by
  rw [sfx_size]
  unfold sfx
  apply ByteArray.ext
  simp only [ByteArray.data_extract, Array.extract_extract]
  congr 1
  omega
theorem sfx_cut (s : ByteArray) (p q : Nat) (h : p + q ≤ s.size) : (sfx s p).extract 0 q = s.extract p (p + q) := by
  unfold sfx
  apply ByteArray.ext
  simp only [ByteArray.data_extract, Array.extract_extract]
  congr 1
  omega
theorem sfx_get (s : ByteArray) (p : Nat) (h : p < s.size) : (sfx s p).data.getD 0 0 = s[p] := by
  unfold sfx
  rw [ByteArray.data_extract, Array.getD, dif_pos (by rw [Array.size_extract]; show 0 < min s.size s.data.size - p; have : s.data.size = s.size := rfl; omega)]
  simp only [Array.getInternal_eq_getElem, Array.getElem_extract]
  rfl
theorem num_at (s : ByteArray) (p : Nat) (h : p < s.size) : num (sfx s p) = some (s[p].toNat, sfx s (p + 1)) := by
  unfold num
  rw [if_neg (by rw [sfx_size]; omega), sfx_get s p h, sfx_sfx s p 1 (by omega)]
theorem num_end (s : ByteArray) (p : Nat) (h : ¬ p < s.size) : num (sfx s p) = none := by
  unfold num
  rw [if_pos (by rw [sfx_size]; omega)]
theorem tk_at (s : ByteArray) (p n : Nat) (h : p + n ≤ s.size) : tk (sfx s p) n = some (s.extract p (p + n), sfx s (p + n)) := by
  unfold tk
  rw [if_neg (by rw [sfx_size]; omega), sfx_cut s p n h, sfx_sfx s p n (by omega)]
theorem tk_end (s : ByteArray) (p n : Nat) (hp : p ≤ s.size) (h : ¬ p + n ≤ s.size) : tk (sfx s p) n = none := by
  unfold tk
  rw [if_pos (by rw [sfx_size]; omega)]
/-- X of a text of at most so many bytes: the text, and the place behind. -/
def shortO (most : Nat) (s : ByteArray) (p : Nat) : Option (ByteArray × Nat) :=
  if h : p < s.size then if s[p].toNat ≤ most ∧ p + 1 + s[p].toNat ≤ s.size then some (s.extract (p + 1) (p + 1 + s[p].toNat), p + 1 + s[p].toNat) else none else none
theorem shortO_size {most : Nat} {s t : ByteArray} {p q : Nat} (h : shortO most s p = some (t, q)) : t.size ≤ most ∧ q ≤ s.size ∧ p < q := by
  unfold shortO at h
  split at h
  · split at h
    next h1 =>
      simp only [Option.some.injEq, Prod.mk.injEq] at h
      obtain ⟨rfl, rfl⟩ := h
      rw [ByteArray.size_extract]
      omega
    · cases h
  · cases h
def lim (most : Nat) : Option (ByteArray × ByteArray) → Option (ByteArray × ByteArray)
  | none => none
  | some (t, r) => if t.size ≤ most then some (t, r) else none
theorem meas_short (most : Nat) (s : ByteArray) (p : Nat) : lim most (meas (sfx s p)) = (shortO most s p).map fun x => (x.1, sfx s x.2) := by
  unfold shortO meas
  by_cases h : p < s.size
  · rw [dif_pos h, num_at s p h]
    simp only
    by_cases h2 : p + 1 + s[p].toNat ≤ s.size
    · rw [tk_at s (p + 1) _ h2]
      simp only [h2, and_true]
      have e : (s.extract (p + 1) (p + 1 + s[p].toNat)).size = s[p].toNat := by rw [ByteArray.size_extract]; omega
      simp only [lim, e]
      split <;> rfl
    · rw [tk_end s (p + 1) _ (by omega) h2]
      simp [h2, lim]
  · rw [dif_neg h, num_end s p h]
    rfl

theorem An.dn {w0 w1 w : World} {a : Nat} {v : Value} {T : List TR} {n p k : Nat} {s : ByteArray} (h : An w0 w1 w a v T n p s) : An w0 w1 (w.drewN k) a v T n p s := h.next ((Ext.refl _).drewN _)
theorem An.d1 {w0 w1 w : World} {a : Nat} {v : Value} {T : List TR} {n p : Nat} {s : ByteArray} (h : An w0 w1 w a v T n p s) : An w0 w1 w.drew a v T n p s := h.next (Ext.refl _).drew
set_option maxHeartbeats 1000000 in
set_option maxRecDepth 100000 in
theorem rshort_any (w0 w1 w : World) (a : Nat) (v : Value) (T : List TR) (n p most : Nat) (s : ByteArray) (h : An w0 w1 w a v T n p s) (hp : p ≤ s.size) (hs : s.size ≤ 140737488351232) (hm : most ≤ 1000) :
    Calls Tryd.prog 56 #[.pointer (some ⟨a, 0, none⟩), .int .i64 most] w fun e w' => match shortO most s p with
      | none => e = .returned (.tuple #[.string ⟨#[]⟩, .bool false]) ∧ An w0 w1 w' a v T n p s
      | some (t, q) => e = .returned (.tuple #[.string t, .bool true]) ∧ An w0 w1 w' a v T n q s := by
  have c2 := h.c2
  have c3 := h.c3
  have f2 := h.f 2
  have HA := hid h
  unfold shortO
  clear h
  by_cases h1 : p < s.size
  · rw [dif_pos h1]
    have hb : s[p].toNat < 256 := UInt8.toNat_lt _
    have g2 : IntKind.i64.wrap ((p : Int) + 1) = (p : Int) + 1 := by rw [IntKind.wrap_i64]; omega
    have g3 : IntKind.i64.wrap ((p : Int) + 1 + (s[p].toNat : Int)) = (p : Int) + 1 + (s[p].toNat : Int) := by rw [IntKind.wrap_i64]; omega
    by_cases h2 : s[p].toNat ≤ most
    · have g1 : decide (most < s[p].toNat) = false := by simp; omega
      by_cases h3 : p + 1 + s[p].toNat ≤ s.size
      · rw [if_pos ⟨h2, h3⟩]
        simp only
        have g4 : decide ((s.size : Int) < (p : Int) + 1 + (s[p].toNat : Int)) = false := by simp; omega
        have r1 : ∀ w, (Instr.slice 9 (.string s) (some (.int .i64 ((p : Int) + 1))) (some (.int .i64 ((p : Int) + 1 + (s[p].toNat : Int)))) none).run Tryd.prog w = .ok (.string (s.extract (p + 1) (p + 1 + s[p].toNat))) w := by
          intro w
          rw [run_slice_string w 9 _ _ _ _ _ Tryd.underlying9 (by omega) (by omega) (by omega)]
          congr 3 <;> omega
        obtain ⟨t, ht⟩ : ∃ z, s.extract (p + 1) (p + 1 + s[p].toNat) = z := ⟨_, rfl⟩
        rw [ht] at r1 ⊢
        clear ht
        go_enter Tryd.func56, Tryd.ntmps56
        go_wp2_with fail
        go_quiet (fail)
        go_wp2_with fail
        go_quiet (fail)
        go_wp2_with fail
        go_quiet (fail)
        go_wp2_with fail
        go_quiet (fail)
        go_wp2_with fail
        go_ret2
        refine ⟨rfl, An.set2 (p := p) ?_ (by omega)⟩
        repeat (first | exact HA.out | apply An.dn | apply An.d1)
      · rw [if_neg (fun q => h3 q.2)]
        simp only
        have g4 : decide ((s.size : Int) < (p : Int) + 1 + (s[p].toNat : Int)) = true := by simp; omega
        go_enter Tryd.func56, Tryd.ntmps56
        go_wp2_with fail
        go_quiet (fail)
        go_wp2_with fail
        go_quiet (fail)
        go_wp2_with fail
        go_quiet (fail)
        go_wp2_with fail
        go_ret2
        exact ⟨rfl, by repeat (first | exact HA.out | apply An.dn | apply An.d1)⟩
    · have g1 : decide (most < s[p].toNat) = true := by simp; omega
      rw [if_neg (fun q => h2 q.1)]
      simp only
      go_enter Tryd.func56, Tryd.ntmps56
      go_wp2_with fail
      go_quiet (fail)
      go_wp2_with fail
      go_quiet (fail)
      go_wp2_with fail
      go_quiet (fail)
      go_wp2_with fail
      go_ret2
      exact ⟨rfl, by repeat (first | exact HA.out | apply An.dn | apply An.d1)⟩
  · rw [dif_neg h1]
    simp only
    go_enter Tryd.func56, Tryd.ntmps56
    go_wp2_with fail
    go_quiet (fail)
    go_wp2_with fail
    go_ret2
    exact ⟨rfl, by repeat (first | exact HA.out | apply An.dn | apply An.d1)⟩
end Go.Proofs.YtjohkmkgmbihkaaDoor

namespace Go.Proofs.YtjohkmkgmbihkaaDoor
set_option linter.unusedVariables false
open Go.ChangeShapes Go.WideShapes Go.ChangeAt Go.RowKit
/-- Three digits at a place. -/
def stubB (s : ByteArray) (p : Nat) : Prop := p + 3 ≤ s.size ∧ ∀ q (h : q < s.size), p ≤ q → q < p + 3 → hexB s[q] = true
theorem all_ext (s : ByteArray) (p : Nat) (h : p + 3 ≤ s.size) : isDig (s.extract p (p + 3)) = true ↔ ∀ q (h : q < s.size), p ≤ q → q < p + 3 → hexB s[q] = true := by
  have hz : (s.extract p (p + 3)).size = 3 := by rw [ByteArray.size_extract]; omega
  unfold isDig
  rw [hz]
  simp only [decide_true, Bool.and_true, List.all_eq_true]
  have hd : s.data.size = s.size := rfl
  have hds : (s.extract p (p + 3)).data.size = 3 := hz
  constructor
  · intro hall q hq h1 h2
    refine hall _ ?_
    rw [Array.mem_toList_iff, Array.mem_iff_getElem]
    refine ⟨q - p, by omega, ?_⟩
    simp only [ByteArray.data_extract, Array.getElem_extract]
    show s.data[p + (q - p)] = s.data[q]
    congr 1
    omega
  · intro hq x hx
    rw [Array.mem_toList_iff, Array.mem_iff_getElem] at hx
    obtain ⟨i, hi, rfl⟩ := hx
    simp only [ByteArray.data_extract, Array.getElem_extract]
    exact hq (p + i) (by omega) (by omega) (by omega)
theorem rdS_yes {s : ByteArray} {p : Nat} (n : Nat) (h : stubB s p) : rdS (sfx s p) n = some (.alone (s.extract p (p + 3)), sfx s (p + 3), n) := by
  unfold rdS
  rw [tk_at s p 3 h.1]
  simp only
  rw [if_pos ((all_ext s p h.1).2 h.2)]
theorem rdS_no {s : ByteArray} {p : Nat} (n : Nat) (hp : p ≤ s.size) (h : ¬ stubB s p) : rdS (sfx s p) n = none := by
  unfold rdS
  by_cases h3 : p + 3 ≤ s.size
  · rw [tk_at s p 3 h3]
    simp only
    rw [if_neg (fun q => h ⟨h3, (all_ext s p h3).1 q⟩)]
  · rw [tk_end s p 3 hp h3]

set_option maxHeartbeats 4000000 in
set_option maxRecDepth 100000 in
theorem rstub_any (w0 w1 w : World) (a : Nat) (v : Value) (T : List TR) (n p i : Nat) (s : ByteArray) (h : An w0 w1 w a v T n p s) (hp : p ≤ s.size) (hs : s.size ≤ 140737488351232) (hi : i < T.length) (hT : T.length ≤ 1000) :
    Calls Tryd.prog 55 #[.pointer (some ⟨a, 0, none⟩), .int .i64 i] w fun e w' =>
      (stubB s p ∧ e = .returned (.bool true) ∧ An w0 w1 w' a v (T.set i { T[i] with stub := s.extract p (p + 3) }) n (p + 3) s) ∨
      (¬ stubB s p ∧ e = .returned (.bool false) ∧ An w0 w1 w' a v T n p s) := by
  have HA := hid h
  obtain ⟨g, c, ev, hg, fz0, fz⟩ := h.blk (by omega)
  subst ev
  obtain ⟨_, _, ee, hc1, hc2⟩ := h.shape
  simp only [Value.slice.injEq] at ee
  obtain ⟨-, -, rfl⟩ := ee
  have g2 : IntKind.i64.wrap ((p : Int) + 3) = (p : Int) + 3 := by rw [IntKind.wrap_i64]; omega
  have c0 := h.c0
  have c2 := h.c2
  have c3 := h.c3
  have f2 := h.f 2
  have hst := h.at9 hi (j := 1) (u := .string T[i].stub) (by omega) rfl
  have fz1 := fz (i * 9 + 1)
  have hne : a ≠ g := by
    intro q
    subst q
    exact rows_ne h.row h.own (by decide) rfl
  have hne' := Ne.symm hne
  clear h fz
  by_cases h3 : p + 3 ≤ s.size
  · have g4 : decide ((s.size : Int) < (p : Int) + 3) = false := by simp; omega
    have r1 : ∀ w, (Instr.slice 9 (.string s) (some (.int .i64 (p : Int))) (some (.int .i64 ((p : Int) + 3))) none).run Tryd.prog w = .ok (.string (s.extract p (p + 3))) w := by
      intro w
      rw [run_slice_string w 9 _ _ _ _ _ Tryd.underlying9 (by omega) (by omega) (by omega)]
      congr 3 <;> omega
    go_enter Tryd.func55, Tryd.ntmps55
    go_wp2_with fail
    go_quiet (fail)
    go_wp2_with fail
    go_loopw [5, 6] (fun i _ wr => ∃ k : Nat, p ≤ k ∧ k ≤ p + 3 ∧ i = .int .i64 k ∧ (∀ q (h : q < s.size), p ≤ q → q < k → hexB s[q] = true) ∧ ∃ m, wr = w.drewN m) (fun i _ _ => p + 3 - (intOf i).toNat)
    case atStart => exact ⟨p, Nat.le_refl _, by omega, rfl, fun q h h1 h2 => by omega, _, rfl⟩
    case round =>
      obtain ⟨k, hk1, hk2, rfl, hall, m, rfl⟩ := hrel
      have HALL := hid hall
      clear hall
      by_cases hlt : k < p + 3
      · have hks : k < s.size := by omega
        have hb : s[k].toNat < 256 := UInt8.toNat_lt _
        have hi1 : (k : Int) < (p : Int) + 3 := by omega
        have hi2 : (k : Int) < (s.size : Int) := by omega
        have hex : hexB s[k] = decide (48 ≤ s[k].toNat ∧ s[k].toNat ≤ 57 ∨ 97 ≤ s[k].toNat ∧ s[k].toNat ≤ 102) := rfl
        have HEX := hid hex
        clear hex
        have hcase : s[k].toNat < 48 ∨ (48 ≤ s[k].toNat ∧ s[k].toNat ≤ 57) ∨ (57 < s[k].toNat ∧ s[k].toNat < 97) ∨ (97 ≤ s[k].toNat ∧ s[k].toNat ≤ 102) ∨ 102 < s[k].toNat := by omega
        rcases hcase with hc | hc | hc | hc | hc
        · have e1 : decide ((s[k].toNat : Int) < 48) = true := by simp; omega
          have e2 : decide (57 < (s[k].toNat : Int)) = false := by simp; omega
          have e3 : decide ((s[k].toNat : Int) < 97) = true := by simp; omega
          have e4 : decide (102 < (s[k].toNat : Int)) = false := by simp; omega
          go_wp2_with fail
          go_ret
          refine .inr ⟨fun q => ?_, rfl, ?_⟩
          · have := q.2 k hks hk1 hlt
            rw [HEX.out] at this
            simp at this
            omega
          · repeat (first | exact HA.out | apply An.dn | apply An.d1)
        · have e1 : decide ((s[k].toNat : Int) < 48) = false := by simp; omega
          have e2 : decide (57 < (s[k].toNat : Int)) = false := by simp; omega
          have e3 : decide ((s[k].toNat : Int) < 97) = true := by simp; omega
          have e4 : decide (102 < (s[k].toNat : Int)) = false := by simp; omega
          go_wp2_with fail
          go_roundw
          case rel =>
            refine ⟨k + 1, by omega, by omega, by go_num, ?_, _, rfl⟩
            intro q hq h1 h2
            by_cases hqk : q < k
            · exact HALL.out q hq h1 hqk
            · obtain rfl : q = k := by omega
              rw [HEX.out]; simp; omega
          case measure => simp [intOf]; omega
        · have e1 : decide ((s[k].toNat : Int) < 48) = false := by simp; omega
          have e2 : decide (57 < (s[k].toNat : Int)) = true := by simp; omega
          have e3 : decide ((s[k].toNat : Int) < 97) = true := by simp; omega
          have e4 : decide (102 < (s[k].toNat : Int)) = false := by simp; omega
          go_wp2_with fail
          go_ret
          refine .inr ⟨fun q => ?_, rfl, ?_⟩
          · have := q.2 k hks hk1 hlt
            rw [HEX.out] at this
            simp at this
            omega
          · repeat (first | exact HA.out | apply An.dn | apply An.d1)
        · have e1 : decide ((s[k].toNat : Int) < 48) = false := by simp; omega
          have e2 : decide (57 < (s[k].toNat : Int)) = true := by simp; omega
          have e3 : decide ((s[k].toNat : Int) < 97) = false := by simp; omega
          have e4 : decide (102 < (s[k].toNat : Int)) = false := by simp; omega
          go_wp2_with fail
          go_roundw
          case rel =>
            refine ⟨k + 1, by omega, by omega, by go_num, ?_, _, rfl⟩
            intro q hq h1 h2
            by_cases hqk : q < k
            · exact HALL.out q hq h1 hqk
            · obtain rfl : q = k := by omega
              rw [HEX.out]; simp; omega
          case measure => simp [intOf]; omega
        · have e1 : decide ((s[k].toNat : Int) < 48) = false := by simp; omega
          have e2 : decide (57 < (s[k].toNat : Int)) = true := by simp; omega
          have e3 : decide ((s[k].toNat : Int) < 97) = false := by simp; omega
          have e4 : decide (102 < (s[k].toNat : Int)) = true := by simp; omega
          go_wp2_with fail
          go_ret
          refine .inr ⟨fun q => ?_, rfl, ?_⟩
          · have := q.2 k hks hk1 hlt
            rw [HEX.out] at this
            simp at this
            omega
          · repeat (first | exact HA.out | apply An.dn | apply An.d1)
      · obtain rfl : k = p + 3 := by omega
        have hB : stubB s p := ⟨h3, fun q h h1 h2 => HALL.out q h h1 h2⟩
        have HB := hid hB
        clear hB
        have hi1 : ¬ ((p : Int) + 3) < (p : Int) + 3 := by omega
        go_wp2_with fail
        go_region_held3 (fun w' => w'.cell? ⟨a, 0, none⟩ = some (.slice (some ⟨g, 0, none⟩) T.length c) ∧ w'.cell? ⟨a, 2, none⟩ = some (.int .i64 p) ∧ w'.cell? ⟨a, 3, none⟩ = some (.string s)) (go_keep) (fail)
        all_goals (try go_wp2_with fail)
        go_ret
        refine .inl ⟨HB.out, rfl, An.set2 (p := p) (An.store ?_ hi (by omega) _ _ rfl) (by omega)⟩
        repeat (first | exact HA.out | apply An.dn | apply An.d1)
  · have g4 : decide ((s.size : Int) < (p : Int) + 3) = true := by simp; omega
    go_enter Tryd.func55, Tryd.ntmps55
    go_wp2_with fail
    go_quiet (fail)
    go_wp2_with fail
    go_ret
    refine .inr ⟨fun q => h3 q.1, rfl, ?_⟩
    repeat (first | exact HA.out | apply An.dn | apply An.d1)
end Go.Proofs.YtjohkmkgmbihkaaDoor

namespace Go.Proofs.YtjohkmkgmbihkaaDoor
set_option linter.unusedVariables false
open Go.ChangeShapes Go.WideShapes Go.ChangeAt Go.RowKit
/-- How many trees. -/
def szT : AT → Nat
  | .empty => 1
  | .alone _ => 1
  | .node _ l r => 1 + szT l + szT r
/-- How many nodes. -/
def cntT : AT → Nat
  | .empty => 0
  | .alone _ => 0
  | .node _ l r => 1 + cntT l + cntT r
theorem szT_cnt : ∀ t : AT, szT t = 2 * cntT t + 1
  | .empty => rfl
  | .alone _ => rfl
  | .node _ l r => by simp only [szT, cntT]; rw [szT_cnt l, szT_cnt r]; omega
/-- A tree in the list, from a place on. -/
def lay : AT → Nat → List TR
  | .empty, _ => [tr0 69]
  | .alone d, _ => [{ tr0 83 with stub := d }]
  | .node x l r, i => { tr0 78 with it := x, l := i + 1, r := i + 1 + szT l } :: (lay l (i + 1) ++ lay r (i + 1 + szT l))
theorem lay_len : ∀ (t : AT) (i : Nat), (lay t i).length = szT t
  | .empty, _ => rfl
  | .alone _, _ => rfl
  | .node _ l r, i => by simp only [lay, szT, List.length_cons, List.length_append]; rw [lay_len l, lay_len r]; omega
theorem sfx_one (s : ByteArray) (p : Nat) (h : p < s.size) : s.extract p (p + 1) = ⟨#[s[p]]⟩ := by
  apply ByteArray.ext
  apply Array.ext
  · simp only [ByteArray.data_extract, Array.size_extract]
    have : s.data.size = s.size := rfl
    show min (p + 1) s.data.size - p = 1
    omega
  · intro i h1 h2
    have : i = 0 := by
      have : i < 1 := h2
      omega
    subst this
    simp only [ByteArray.data_extract, Array.getElem_extract]
    rfl
theorem one_eq (c d : UInt8) : beq ⟨#[c]⟩ ⟨#[d]⟩ = decide (c.toNat = d.toNat) := by
  by_cases h : c = d
  · subst h; simp [beq]
  · have h1 : (⟨#[c]⟩ : ByteArray) ≠ ⟨#[d]⟩ := by
      intro e
      injection e with e
      simp at e
      exact h e
    rw [beq_false.2 h1]
    have h2 : ¬ c.toNat = d.toNat := fun e => h (UInt8.toNat_inj.1 e)
    simp [h2]
theorem rdW_end (g : Rdr) {s : ByteArray} {p : Nat} (n : Nat) (h : ¬ p < s.size) : rdW g (sfx s p) n = none := by
  unfold rdW tk
  rw [if_pos (by rw [sfx_size]; omega)]
theorem rdW_at (g : Rdr) {s : ByteArray} {p : Nat} (n : Nat) (h : p < s.size) : rdW g (sfx s p) n =
    if s[p].toNat = 78 then rdN g (sfx s (p + 1)) n else if s[p].toNat = 69 then some (.empty, sfx s (p + 1), n) else if s[p].toNat = 83 then rdS (sfx s (p + 1)) n else none := by
  unfold rdW
  rw [tk_at s p 1 (by omega), sfx_one s p h]
  simp only [one_eq, decide_eq_true_eq]
  rfl
/-- The document's tree, of at most f nodes more. -/
def rTreeSaid (w0 : World) (s : ByteArray) (f : Nat) : Prop := ∀ (w1 w : World) (a : Nat) (v : Value) (T : List TR) (n p : Nat), An w0 w1 w a v T n p s → p ≤ s.size → n ≤ 50 → 50 ≤ n + f → T.length ≤ 2 * n →
  Calls Tryd.prog 38 #[.pointer (some ⟨a, 0, none⟩)] w fun e w' => match rd f (sfx s p) n with
    | none => e = .returned (.int .i64 (-1)) ∧ Ext w0 w'
    | some (t, r, m) => e = .returned (.int .i64 T.length) ∧ ∃ v' q, r = sfx s q ∧ q ≤ s.size ∧ An w0 w1 w' a v' (T ++ lay t T.length) m q s
set_option maxHeartbeats 4000000 in
set_option maxRecDepth 100000 in
theorem rtree_end (w0 w1 w : World) (a : Nat) (v : Value) (T : List TR) (n p : Nat) (s : ByteArray) (h : An w0 w1 w a v T n p s) (hs : s.size ≤ 140737488351232) (h1 : ¬ p < s.size) :
    Calls Tryd.prog 38 #[.pointer (some ⟨a, 0, none⟩)] w fun e w' => e = .returned (.int .i64 (-1)) ∧ Ext w0 w' := by
  have HA := hid h
  obtain ⟨q, c, ev, hc1, hc2⟩ := h.shape
  subst ev
  have c0 := h.c0
  have c2 := h.c2
  have c3 := h.c3
  have f2 := h.f 2
  clear h
  go_enter Tryd.func38, Tryd.ntmps38
  go_wp2_with fail
  go_quiet (fail)
  go_wp2_with fail
  go_ret
  exact ⟨rfl, (An.dn HA.out).ext⟩
/-- A tree of a kind goes onto the list. -/
theorem An.grow {w0 w1 w : World} {a : Nat} {v : Value} {T : List TR} {n p : Nat} {s : ByteArray} (h : An w0 w1 w a v T n p s) (k : Nat) (hT : T.length ≤ 200) (z : Int) (hz : z = (k : Int)) (b : Nat) (hb : b = w.heap.size) :
    ∃ g c w', (Builtin.append_ #[61, 61] 61 #[v, .slice (some ⟨b, 0, none⟩) 1 1]).run Tryd.prog (w.alloc (.cells #[.int .u8 z, .string ⟨#[]⟩, .string ⟨#[]⟩, .string ⟨#[]⟩, .int .i64 0, .int .i64 0, .int .i64 0, .string ⟨#[]⟩, .string ⟨#[]⟩] 60)) = .ok (.slice (some ⟨g, 0, none⟩) (T.length + 1) c) w' ∧
      w'.cell? ⟨a, 0, none⟩ = some v ∧ w'.cell? ⟨a, 1, none⟩ = some (.int .i64 n) ∧ (∀ i, w'.frozen? ⟨a, i, none⟩ = false) ∧ An w0 w1 (w'.setCell ⟨a, 0, none⟩ (.slice (some ⟨g, 0, none⟩) (T.length + 1) c)) a (.slice (some ⟨g, 0, none⟩) (T.length + 1) c) (T ++ [tr0 k]) n p s := by
  subst hz hb
  have hx := (Ext.refl w).alloc (.cells #[.int .u8 k, .string ⟨#[]⟩, .string ⟨#[]⟩, .string ⟨#[]⟩, .int .i64 0, .int .i64 0, .int .i64 0, .string ⟨#[]⟩, .string ⟨#[]⟩] 60)
  have h' := h.next hx
  have hn := heap_alloc_new w (.cells #[.int .u8 k, .string ⟨#[]⟩, .string ⟨#[]⟩, .string ⟨#[]⟩, .int .i64 0, .int .i64 0, .int .i64 0, .string ⟨#[]⟩, .string ⟨#[]⟩] 60)
  have hu : Seg (w.alloc (.cells #[.int .u8 k, .string ⟨#[]⟩, .string ⟨#[]⟩, .string ⟨#[]⟩, .int .i64 0, .int .i64 0, .int .i64 0, .string ⟨#[]⟩, .string ⟨#[]⟩] 60)) (.slice (some ⟨w.heap.size, 0, none⟩) 1 1) 9 1 (tc [tr0 k]) := by
    refine ⟨rfl, .inr ⟨_, 0, 1, rfl, Nat.le_refl _, by decide, row_lt hn, fun j u hu => ?_⟩⟩
    have hj : j < 9 := by
      have := (List.getElem?_eq_some_iff.1 hu).1
      simpa [tc_length] using this
    rw [Nat.zero_add, cell_of_row _ _ j _ _ _ hn]
    have e : (tc [tr0 k]) = [.int .u8 k, .string ⟨#[]⟩, .string ⟨#[]⟩, .string ⟨#[]⟩, .int .i64 0, .int .i64 0, .int .i64 0, .string ⟨#[]⟩, .string ⟨#[]⟩] := rfl
    rw [e] at hu
    rw [← hu]
    simp only [List.getElem?_toArray]
  obtain ⟨v', w', hr, ho, hg⟩ := app_tree w0.heap.size _ v _ T (tr0 k) h'.ext.size h'.own hu (by omega)
  have hA := h'.set0 hg ho
  obtain ⟨g, c, ev, _⟩ := hA.blk (by simp)
  subst ev
  have hlen : (T ++ [tr0 k]).length = T.length + 1 := by simp
  rw [hlen] at hr hA
  have hrow : w'.heap[a]? = some (.cells #[v, .int .i64 n, .int .i64 p, .string s] 63) := by
    rw [hg.block a h'.lt (Ne.symm (rows_ne h'.row h'.own (by decide)))]; exact h'.row
  refine ⟨g, c, w', hr, cell_of_row _ a 0 _ _ _ hrow, cell_of_row _ a 1 _ _ _ hrow, fun i => ?_, hA⟩
  unfold World.frozen?; rw [hrow]; simp
set_option maxHeartbeats 8000000 in
set_option maxRecDepth 100000 in
theorem rtree_E (w0 w1 w : World) (a : Nat) (v : Value) (T : List TR) (n p : Nat) (s : ByteArray) (h : An w0 w1 w a v T n p s) (hs : s.size ≤ 140737488351232) (h1 : p < s.size) (hT : T.length ≤ 200) (hk : s[p].toNat = 69) :
    Calls Tryd.prog 38 #[.pointer (some ⟨a, 0, none⟩)] w fun e w' => e = .returned (.int .i64 T.length) ∧ ∃ v', An w0 w1 w' a v' (T ++ [tr0 69]) n (p + 1) s := by
  have HA := hid h
  obtain ⟨q, c, ev, hc1, hc2⟩ := h.shape
  subst ev
  have c0 := h.c0
  have c2 := h.c2
  have c3 := h.c3
  have f2 := h.f 2
  have g2 : IntKind.i64.wrap ((p : Int) + 1) = (p : Int) + 1 := by rw [IntKind.wrap_i64]; omega
  clear h
  go_enter Tryd.func38, Tryd.ntmps38
  go_wp2_with fail
  go_quiet (fail)
  obtain ⟨m1, rfl⟩ : ∃ z, z = nq := ⟨_, rfl⟩
  go_wp2_with fail
  go_quiet (fail)
  obtain ⟨m2, rfl⟩ : ∃ z, z = nq := ⟨_, rfl⟩
  obtain ⟨g, cg, w', hr, d0, d1, e0', hA'⟩ := (An.set2 (p := p) (z := (p : Int) + 1) (m := p + 1) (HA.out.dn (k := m1 + m2)) (by omega)).grow 69 (by omega) 69 rfl w.heap.size (by simp [World.setCell, World.drewN])
  have d2 := e0' 0
  have d3 := e0' 1
  have HR := hid hr
  have HA' := hid hA'
  clear hr hA' e0'
  go_wp2_with (at_builtin; refine wpList_append_run rfl _ _ 61 61 rfl (.slice q T.length c) (.slice (some ⟨w.heap.size, 0, none⟩) 1 1) rfl rfl _ _ HR.out ?_)
  go_ret
  exact ⟨rfl, _, HA'.out⟩
set_option maxHeartbeats 8000000 in
set_option maxRecDepth 100000 in
theorem rtree_bad (w0 w1 w : World) (a : Nat) (v : Value) (T : List TR) (n p : Nat) (s : ByteArray) (h : An w0 w1 w a v T n p s) (hs : s.size ≤ 140737488351232) (h1 : p < s.size) (hT : T.length ≤ 200) (hk : s[p].toNat ≠ 69 ∧ s[p].toNat ≠ 83 ∧ s[p].toNat ≠ 78) :
    Calls Tryd.prog 38 #[.pointer (some ⟨a, 0, none⟩)] w fun e w' => e = .returned (.int .i64 (-1)) ∧ Ext w0 w' := by
  have kb : s[p].toNat < 256 := UInt8.toNat_lt _
  have k1 : ¬ ((s[p].toNat : Int) = 69) := by omega
  have k2 : ¬ ((s[p].toNat : Int) = 83) := by omega
  have k3 : ¬ ((s[p].toNat : Int) = 78) := by omega
  obtain ⟨k4, k5, k6⟩ := hk
  have HA := hid h
  obtain ⟨q, c, ev, hc1, hc2⟩ := h.shape
  subst ev
  have c0 := h.c0
  have c2 := h.c2
  have c3 := h.c3
  have f2 := h.f 2
  have g2 : IntKind.i64.wrap ((p : Int) + 1) = (p : Int) + 1 := by rw [IntKind.wrap_i64]; omega
  clear h
  go_enter Tryd.func38, Tryd.ntmps38
  go_wp2_with fail
  go_quiet (fail)
  obtain ⟨m1, rfl⟩ : ∃ z, z = nq := ⟨_, rfl⟩
  go_wp2_with fail
  go_quiet (fail)
  obtain ⟨m2, rfl⟩ : ∃ z, z = nq := ⟨_, rfl⟩
  obtain ⟨g, cg, w', hr, d0, d1, e0', hA'⟩ := (An.set2 (p := p) (z := (p : Int) + 1) (m := p + 1) (HA.out.dn (k := m1 + m2)) (by omega)).grow s[p].toNat (by omega) (s[p].toNat : Int) rfl w.heap.size (by simp [World.setCell, World.drewN])
  have d2 := e0' 0
  have d3 := e0' 1
  have HR := hid hr
  have HA' := hid hA'
  clear hr hA' e0'
  go_wp2_with (at_builtin; refine wpList_append_run rfl _ _ 61 61 rfl (.slice q T.length c) (.slice (some ⟨w.heap.size, 0, none⟩) 1 1) rfl rfl _ _ HR.out ?_)
  go_ret
  exact ⟨rfl, HA'.out.ext⟩
set_option maxHeartbeats 8000000 in
set_option maxRecDepth 100000 in
theorem rtree_S (w0 w1 w : World) (a : Nat) (v : Value) (T : List TR) (n p : Nat) (s : ByteArray) (h : An w0 w1 w a v T n p s) (hs : s.size ≤ 140737488351232) (h1 : p < s.size) (hT : T.length ≤ 200) (hk : s[p].toNat = 83) :
    Calls Tryd.prog 38 #[.pointer (some ⟨a, 0, none⟩)] w fun e w' => (stubB s (p + 1) ∧ e = .returned (.int .i64 T.length) ∧ ∃ v', An w0 w1 w' a v' (T ++ [{ tr0 83 with stub := s.extract (p + 1) (p + 1 + 3) }]) n (p + 1 + 3) s) ∨
      (¬ stubB s (p + 1) ∧ e = .returned (.int .i64 (-1)) ∧ Ext w0 w') := by
  have HA := hid h
  obtain ⟨q, c, ev, hc1, hc2⟩ := h.shape
  subst ev
  have c0 := h.c0
  have c2 := h.c2
  have c3 := h.c3
  have f2 := h.f 2
  have g2 : IntKind.i64.wrap ((p : Int) + 1) = (p : Int) + 1 := by rw [IntKind.wrap_i64]; omega
  clear h
  go_enter Tryd.func38, Tryd.ntmps38
  go_wp2_with fail
  go_quiet (fail)
  obtain ⟨m1, rfl⟩ : ∃ z, z = nq := ⟨_, rfl⟩
  go_wp2_with fail
  go_quiet (fail)
  obtain ⟨m2, rfl⟩ : ∃ z, z = nq := ⟨_, rfl⟩
  obtain ⟨g, cg, w', hr, d0, d1, e0', hA'⟩ := (An.set2 (p := p) (z := (p : Int) + 1) (m := p + 1) (HA.out.dn (k := m1 + m2)) (by omega)).grow 83 (by omega) 83 rfl w.heap.size (by simp [World.setCell, World.drewN])
  have d2 := e0' 0
  have d3 := e0' 1
  have HR := hid hr
  have HA' := hid hA'
  clear hr hA' e0'
  go_wp2_with (at_builtin; refine wpList_append_run rfl _ _ 61 61 rfl (.slice q T.length c) (.slice (some ⟨w.heap.size, 0, none⟩) 1 1) rfl rfl _ _ HR.out ?_)
  have hlen : (T ++ [tr0 83]).length = T.length + 1 := by simp
  have hget : (T ++ [tr0 83])[T.length]'(by omega) = tr0 83 := by simp
  refine (rstub_any w0 w1 _ a _ (T ++ [tr0 83]) n (p + 1) T.length s HA'.out (by omega) hs (by omega) (by omega)).mono ?_
  rintro e w4 (⟨hb, rfl, h4⟩ | ⟨hb, rfl, h4⟩)
  · have HB := hid hb
    have H4 := hid h4
    clear hb h4
    go_wp2_with fail
    go_ret
    refine .inl ⟨HB.out, rfl, .slice (some ⟨g, 0, none⟩) (T.length + 1) cg, ?_⟩
    have := H4.out
    rw [hget] at this
    simpa using this
  · have HB := hid hb
    have H4 := hid h4
    clear hb h4
    go_wp2_with fail
    go_ret
    exact .inr ⟨HB.out, rfl, H4.out.ext⟩
set_option maxHeartbeats 8000000 in
set_option maxRecDepth 100000 in
theorem rtree_50 (w0 w1 w : World) (a : Nat) (v : Value) (T : List TR) (n p : Nat) (s : ByteArray) (h : An w0 w1 w a v T n p s) (hs : s.size ≤ 140737488351232) (h1 : p < s.size) (hT : T.length ≤ 200) (hk : s[p].toNat = 78) (hn : n = 50) :
    Calls Tryd.prog 38 #[.pointer (some ⟨a, 0, none⟩)] w fun e w' => e = .returned (.int .i64 (-1)) ∧ Ext w0 w' := by
  subst hn
  have HA := hid h
  obtain ⟨q, c, ev, hc1, hc2⟩ := h.shape
  subst ev
  have c0 := h.c0
  have c2 := h.c2
  have c3 := h.c3
  have f2 := h.f 2
  have g2 : IntKind.i64.wrap ((p : Int) + 1) = (p : Int) + 1 := by rw [IntKind.wrap_i64]; omega
  clear h
  go_enter Tryd.func38, Tryd.ntmps38
  go_wp2_with fail
  go_quiet (fail)
  obtain ⟨m1, rfl⟩ : ∃ z, z = nq := ⟨_, rfl⟩
  go_wp2_with fail
  go_quiet (fail)
  obtain ⟨m2, rfl⟩ : ∃ z, z = nq := ⟨_, rfl⟩
  obtain ⟨g, cg, w', hr, d0, d1, e0', hA'⟩ := (An.set2 (p := p) (z := (p : Int) + 1) (m := p + 1) (HA.out.dn (k := m1 + m2)) (by omega)).grow 78 (by omega) 78 rfl w.heap.size (by simp [World.setCell, World.drewN])
  have d2 := e0' 0
  have d3 := e0' 1
  have HR := hid hr
  have HA' := hid hA'
  clear hr hA' e0'
  go_wp2_with (at_builtin; refine wpList_append_run rfl _ _ 61 61 rfl (.slice q T.length c) (.slice (some ⟨w.heap.size, 0, none⟩) 1 1) rfl rfl _ _ HR.out ?_)
  go_ret
  exact ⟨rfl, (HA'.out.set1 (m := 51) (by rfl)).ext⟩
end Go.Proofs.YtjohkmkgmbihkaaDoor

namespace Go.Proofs.YtjohkmkgmbihkaaDoor
set_option linter.unusedVariables false
open Go.ChangeShapes Go.WideShapes Go.ChangeAt Go.RowKit
/-- An entry at a place, and the place behind. -/
def entO (s : ByteArray) (p : Nat) : Option (It × Nat) := match shortO 8 s p with
  | none => none
  | some (k, p1) => match shortO 20 s p1 with
    | none => none
    | some (v, p2) => if h : p2 < s.size then if k.size ≠ 0 ∧ s[p2].toNat ≤ 15 then some (⟨k, v, s[p2].toNat⟩, p2 + 1) else none else none
theorem lim_none {most : Nat} {s : ByteArray} {p : Nat} (h : meas (sfx s p) = none) : shortO most s p = none := by
  have := meas_short most s p
  rw [h] at this
  cases hq : shortO most s p with
  | none => rfl
  | some x => rw [hq] at this; cases this
theorem lim_some {most : Nat} {s k r : ByteArray} {p : Nat} (h : meas (sfx s p) = some (k, r)) (hk : k.size ≤ most) : ∃ q, shortO most s p = some (k, q) ∧ r = sfx s q := by
  have := meas_short most s p
  rw [h] at this
  simp only [lim, if_pos hk] at this
  cases hq : shortO most s p with
  | none => rw [hq] at this; cases this
  | some x =>
    rw [hq] at this
    simp only [Option.map_some, Option.some.injEq, Prod.mk.injEq] at this
    exact ⟨x.2, by rw [this.1], this.2⟩
theorem lim_big {most : Nat} {s k r : ByteArray} {p : Nat} (h : meas (sfx s p) = some (k, r)) (hk : ¬ k.size ≤ most) : shortO most s p = none := by
  have := meas_short most s p
  rw [h] at this
  simp only [lim, if_neg hk] at this
  cases hq : shortO most s p with
  | none => rfl
  | some x => rw [hq] at this; cases this
theorem ent_at (s : ByteArray) (p : Nat) : ent (sfx s p) = (entO s p).map fun x => (x.1, sfx s x.2) := by
  unfold ent entO
  cases h1 : meas (sfx s p) with
  | none => rw [lim_none h1]; rfl
  | some x =>
    obtain ⟨k, r⟩ := x
    simp only
    by_cases hk : k.size ≤ 8
    · obtain ⟨p1, e1, rfl⟩ := lim_some h1 hk
      rw [e1]
      simp only
      cases h2 : meas (sfx s p1) with
      | none => rw [lim_none h2]; rfl
      | some y =>
        obtain ⟨v, r2⟩ := y
        simp only
        by_cases hv : v.size ≤ 20
        · obtain ⟨p2, e2, rfl⟩ := lim_some h2 hv
          rw [e2]
          simp only
          by_cases hp : p2 < s.size
          · rw [num_at s p2 hp, dif_pos hp]
            simp only
            by_cases hc : k.size ≠ 0 ∧ s[p2].toNat ≤ 15
            · have hf : fault k v (s[p2].toNat : Int) = 0 := by
                have a1 : keyB k = true := decide_eq_true ⟨by omega, hk⟩
                have a2 : valB v = true := decide_eq_true hv
                have a3 : hgtB (s[p2].toNat : Int) = true := decide_eq_true ⟨by omega, by omega⟩
                simp [fault, a1, a2, a3]
              rw [if_pos hc, if_pos hf]
              rfl
            · have hf : ¬ fault k v (s[p2].toNat : Int) = 0 := by
                intro e
                have := fault_small e
                obtain ⟨b1, b2, b3⟩ := this
                have hkb : keyB k = true := by
                  cases hq : keyB k with
                  | true => rfl
                  | false => simp [fault, hq] at e
                have := of_decide_eq_true hkb
                omega
              rw [if_neg hc, if_neg hf]
              rfl
          · rw [num_end s p2 hp, dif_neg hp]
            rfl
        · rw [lim_big h2 hv]
          simp only
          have hf : ∀ h : Nat, ¬ fault k v (h : Int) = 0 := fun h e => hv (fault_small e).2.1
          cases num r2 with
          | none => rfl
          | some z => simp only [if_neg (hf z.1)]; rfl
    · rw [lim_big h1 hk]
      simp only
      have hf : ∀ (v : ByteArray) (h : Nat), ¬ fault k v (h : Int) = 0 := fun v h e => hk (fault_small e).1
      cases meas r with
      | none => rfl
      | some y =>
        simp only
        cases num y.2 with
        | none => rfl
        | some z => simp only [if_neg (hf y.1 z.1)]; rfl
theorem entO_le {s : ByteArray} {p q : Nat} {x : It} (h : entO s p = some (x, q)) : q ≤ s.size := by
  unfold entO at h
  split at h
  · cases h
  · split at h
    · cases h
    · split at h
      · split at h
        · simp only [Option.some.injEq, Prod.mk.injEq] at h
          omega
        · cases h
      · cases h
set_option maxHeartbeats 8000000 in
set_option maxRecDepth 100000 in
theorem rtree_N0 (w0 w1 w : World) (a : Nat) (v : Value) (T : List TR) (n p : Nat) (s : ByteArray) (h : An w0 w1 w a v T n p s) (hs : s.size ≤ 140737488351232) (h1 : p < s.size) (hT : T.length ≤ 200) (hk : s[p].toNat = 78) (hn : n < 50) (he : shortO 8 s (p + 1) = none) :
    Calls Tryd.prog 38 #[.pointer (some ⟨a, 0, none⟩)] w fun e w' => e = .returned (.int .i64 (-1)) ∧ Ext w0 w' := by
  have HE := hid he
  clear he
  have hn1 : ((n : Int) + 1) ≤ 50 := by omega
  have hn2 : IntKind.i64.wrap ((n : Int) + 1) = (n : Int) + 1 := by rw [IntKind.wrap_i64]; omega
  have HA := hid h
  obtain ⟨q, c, ev, hc1, hc2⟩ := h.shape
  subst ev
  have c0 := h.c0
  have c2 := h.c2
  have c3 := h.c3
  have f2 := h.f 2
  have g2 : IntKind.i64.wrap ((p : Int) + 1) = (p : Int) + 1 := by rw [IntKind.wrap_i64]; omega
  clear h
  go_enter Tryd.func38, Tryd.ntmps38
  go_wp2_with fail
  go_quiet (fail)
  obtain ⟨m1, rfl⟩ : ∃ z, z = nq := ⟨_, rfl⟩
  go_wp2_with fail
  go_quiet (fail)
  obtain ⟨m2, rfl⟩ : ∃ z, z = nq := ⟨_, rfl⟩
  obtain ⟨g, cg, w', hr, d0, d1, e0', hA'⟩ := (An.set2 (p := p) (z := (p : Int) + 1) (m := p + 1) (HA.out.dn (k := m1 + m2)) (by omega)).grow 78 (by omega) 78 rfl w.heap.size (by simp [World.setCell, World.drewN])
  have d2 := e0' 0
  have d3 := e0' 1
  have HR := hid hr
  have HA' := hid hA'
  clear hr hA' e0'
  go_wp2_with (at_builtin; refine wpList_append_run rfl _ _ 61 61 rfl (.slice q T.length c) (.slice (some ⟨w.heap.size, 0, none⟩) 1 1) rfl rfl _ _ HR.out ?_)
  refine (rshort_any w0 w1 _ a _ (T ++ [tr0 78]) (n + 1) (p + 1) 8 s (HA'.out.set1 (by omega)) (by omega) hs (by omega)).mono ?_
  intro e w4 h4
  rw [HE.out] at h4
  obtain ⟨rfl, h4⟩ := h4
  have H4 := hid h4
  clear h4
  go_wp2_with fail
  refine (rshort_any w0 w1 _ a _ (T ++ [tr0 78]) (n + 1) (p + 1) 20 s H4.out (by omega) hs (by omega)).mono ?_
  intro e w5 h5
  cases h20 : shortO 20 s (p + 1) with
  | none =>
    rw [h20] at h5
    obtain ⟨rfl, h5⟩ := h5
    have H5 := hid h5
    have c2' := h5.c2
    have c3' := h5.c3
    clear h5 h20
    go_wp2_with fail
    go_quiet (fail)
    go_wp2_with fail
    go_ret
    exact ⟨rfl, (An.dn H5.out).ext⟩
  | some y =>
    rw [h20] at h5
    obtain ⟨rfl, h5⟩ := h5
    have H5 := hid h5
    have c2' := h5.c2
    have c3' := h5.c3
    clear h5 h20
    go_wp2_with fail
    go_quiet (fail)
    go_wp2_with fail
    go_ret
    exact ⟨rfl, (An.dn H5.out).ext⟩
set_option maxHeartbeats 8000000 in
set_option maxRecDepth 100000 in
theorem rtree_N1 (w0 w1 w : World) (a : Nat) (v : Value) (T : List TR) (n p : Nat) (s : ByteArray) (h : An w0 w1 w a v T n p s) (hs : s.size ≤ 140737488351232) (h1 : p < s.size) (hT : T.length ≤ 200) (hk : s[p].toNat = 78) (hn : n < 50) (key : ByteArray) (p1 : Nat) (he : shortO 8 s (p + 1) = some (key, p1)) (he2 : shortO 20 s p1 = none) :
    Calls Tryd.prog 38 #[.pointer (some ⟨a, 0, none⟩)] w fun e w' => e = .returned (.int .i64 (-1)) ∧ Ext w0 w' := by
  have hp1 := (shortO_size he).2.1
  have HE := hid he
  have HE2 := hid he2
  clear he he2
  have hn1 : ((n : Int) + 1) ≤ 50 := by omega
  have hn2 : IntKind.i64.wrap ((n : Int) + 1) = (n : Int) + 1 := by rw [IntKind.wrap_i64]; omega
  have HA := hid h
  obtain ⟨q, c, ev, hc1, hc2⟩ := h.shape
  subst ev
  have c0 := h.c0
  have c2 := h.c2
  have c3 := h.c3
  have f2 := h.f 2
  have g2 : IntKind.i64.wrap ((p : Int) + 1) = (p : Int) + 1 := by rw [IntKind.wrap_i64]; omega
  clear h
  go_enter Tryd.func38, Tryd.ntmps38
  go_wp2_with fail
  go_quiet (fail)
  obtain ⟨m1, rfl⟩ : ∃ z, z = nq := ⟨_, rfl⟩
  go_wp2_with fail
  go_quiet (fail)
  obtain ⟨m2, rfl⟩ : ∃ z, z = nq := ⟨_, rfl⟩
  obtain ⟨g, cg, w', hr, d0, d1, e0', hA'⟩ := (An.set2 (p := p) (z := (p : Int) + 1) (m := p + 1) (HA.out.dn (k := m1 + m2)) (by omega)).grow 78 (by omega) 78 rfl w.heap.size (by simp [World.setCell, World.drewN])
  have d2 := e0' 0
  have d3 := e0' 1
  have HR := hid hr
  have HA' := hid hA'
  clear hr hA' e0'
  go_wp2_with (at_builtin; refine wpList_append_run rfl _ _ 61 61 rfl (.slice q T.length c) (.slice (some ⟨w.heap.size, 0, none⟩) 1 1) rfl rfl _ _ HR.out ?_)
  refine (rshort_any w0 w1 _ a _ (T ++ [tr0 78]) (n + 1) (p + 1) 8 s (HA'.out.set1 (by omega)) (by omega) hs (by omega)).mono ?_
  intro e w4 h4
  rw [HE.out] at h4
  obtain ⟨rfl, h4⟩ := h4
  have H4 := hid h4
  clear h4
  go_wp2_with fail
  refine (rshort_any w0 w1 _ a _ (T ++ [tr0 78]) (n + 1) p1 20 s H4.out (by omega) hs (by omega)).mono ?_
  intro e w5 h5
  rw [HE2.out] at h5
  obtain ⟨rfl, h5⟩ := h5
  have H5 := hid h5
  have c2' := h5.c2
  have c3' := h5.c3
  clear h5
  go_wp2_with fail
  go_quiet (fail)
  go_wp2_with fail
  go_ret
  exact ⟨rfl, (An.dn H5.out).ext⟩
set_option maxHeartbeats 8000000 in
set_option maxRecDepth 100000 in
theorem rtree_N2 (w0 w1 w : World) (a : Nat) (v : Value) (T : List TR) (n p : Nat) (s : ByteArray) (h : An w0 w1 w a v T n p s) (hs : s.size ≤ 140737488351232) (h1 : p < s.size) (hT : T.length ≤ 200) (hk : s[p].toNat = 78) (hn : n < 50) (key val : ByteArray) (p1 p2 : Nat) (he : shortO 8 s (p + 1) = some (key, p1)) (he2 : shortO 20 s p1 = some (val, p2)) (hz : key.size = 0) :
    Calls Tryd.prog 38 #[.pointer (some ⟨a, 0, none⟩)] w fun e w' => e = .returned (.int .i64 (-1)) ∧ Ext w0 w' := by
  have hp1 := (shortO_size he).2.1
  have hp2 := (shortO_size he2).2.1
  have HE := hid he
  have HE2 := hid he2
  clear he he2
  have hke : (key.toList == []) = true := by
    have : key = ⟨#[]⟩ := ByteArray.ext (Array.eq_empty_of_size_eq_zero hz)
    rw [this, ByteArray.toList_eq]; rfl
  have hn1 : ((n : Int) + 1) ≤ 50 := by omega
  have hn2 : IntKind.i64.wrap ((n : Int) + 1) = (n : Int) + 1 := by rw [IntKind.wrap_i64]; omega
  have HA := hid h
  obtain ⟨q, c, ev, hc1, hc2⟩ := h.shape
  subst ev
  have c0 := h.c0
  have c2 := h.c2
  have c3 := h.c3
  have f2 := h.f 2
  have g2 : IntKind.i64.wrap ((p : Int) + 1) = (p : Int) + 1 := by rw [IntKind.wrap_i64]; omega
  clear h
  go_enter Tryd.func38, Tryd.ntmps38
  go_wp2_with fail
  go_quiet (fail)
  obtain ⟨m1, rfl⟩ : ∃ z, z = nq := ⟨_, rfl⟩
  go_wp2_with fail
  go_quiet (fail)
  obtain ⟨m2, rfl⟩ : ∃ z, z = nq := ⟨_, rfl⟩
  obtain ⟨g, cg, w', hr, d0, d1, e0', hA'⟩ := (An.set2 (p := p) (z := (p : Int) + 1) (m := p + 1) (HA.out.dn (k := m1 + m2)) (by omega)).grow 78 (by omega) 78 rfl w.heap.size (by simp [World.setCell, World.drewN])
  have d2 := e0' 0
  have d3 := e0' 1
  have HR := hid hr
  have HA' := hid hA'
  clear hr hA' e0'
  go_wp2_with (at_builtin; refine wpList_append_run rfl _ _ 61 61 rfl (.slice q T.length c) (.slice (some ⟨w.heap.size, 0, none⟩) 1 1) rfl rfl _ _ HR.out ?_)
  refine (rshort_any w0 w1 _ a _ (T ++ [tr0 78]) (n + 1) (p + 1) 8 s (HA'.out.set1 (by omega)) (by omega) hs (by omega)).mono ?_
  intro e w4 h4
  rw [HE.out] at h4
  obtain ⟨rfl, h4⟩ := h4
  have H4 := hid h4
  clear h4
  go_wp2_with fail
  refine (rshort_any w0 w1 _ a _ (T ++ [tr0 78]) (n + 1) p1 20 s H4.out (by omega) hs (by omega)).mono ?_
  intro e w5 h5
  rw [HE2.out] at h5
  obtain ⟨rfl, h5⟩ := h5
  have H5 := hid h5
  have c2' := h5.c2
  have c3' := h5.c3
  have f2' := h5.f 2
  clear h5
  go_wp2_with fail
  go_quiet (fail)
  go_wp2_with fail
  go_ret
  exact ⟨rfl, (An.dn H5.out).ext⟩
set_option maxHeartbeats 8000000 in
set_option maxRecDepth 100000 in
theorem rtree_N3 (w0 w1 w : World) (a : Nat) (v : Value) (T : List TR) (n p : Nat) (s : ByteArray) (h : An w0 w1 w a v T n p s) (hs : s.size ≤ 140737488351232) (h1 : p < s.size) (hT : T.length ≤ 200) (hk : s[p].toNat = 78) (hn : n < 50) (key val : ByteArray) (p1 p2 : Nat) (he : shortO 8 s (p + 1) = some (key, p1)) (he2 : shortO 20 s p1 = some (val, p2)) (hz : key.size ≠ 0) (hq : ¬ p2 < s.size) :
    Calls Tryd.prog 38 #[.pointer (some ⟨a, 0, none⟩)] w fun e w' => e = .returned (.int .i64 (-1)) ∧ Ext w0 w' := by
  have hp1 := (shortO_size he).2.1
  have hp2 := (shortO_size he2).2.1
  have HE := hid he
  have HE2 := hid he2
  clear he he2
  have hke : (key.toList == []) = false := by
    rw [ByteArray.toList_eq]
    simp only [beq_eq_false_iff_ne, ne_eq, Array.toList_eq_nil_iff]
    intro e
    have : key.data.size = 0 := by rw [e]; rfl
    exact hz this
  have hq1 : decide (s.size ≤ p2) = true := by simp; omega
  have hn1 : ((n : Int) + 1) ≤ 50 := by omega
  have hn2 : IntKind.i64.wrap ((n : Int) + 1) = (n : Int) + 1 := by rw [IntKind.wrap_i64]; omega
  have HA := hid h
  obtain ⟨q, c, ev, hc1, hc2⟩ := h.shape
  subst ev
  have c0 := h.c0
  have c2 := h.c2
  have c3 := h.c3
  have f2 := h.f 2
  have g2 : IntKind.i64.wrap ((p : Int) + 1) = (p : Int) + 1 := by rw [IntKind.wrap_i64]; omega
  clear h
  go_enter Tryd.func38, Tryd.ntmps38
  go_wp2_with fail
  go_quiet (fail)
  obtain ⟨m1, rfl⟩ : ∃ z, z = nq := ⟨_, rfl⟩
  go_wp2_with fail
  go_quiet (fail)
  obtain ⟨m2, rfl⟩ : ∃ z, z = nq := ⟨_, rfl⟩
  obtain ⟨g, cg, w', hr, d0, d1, e0', hA'⟩ := (An.set2 (p := p) (z := (p : Int) + 1) (m := p + 1) (HA.out.dn (k := m1 + m2)) (by omega)).grow 78 (by omega) 78 rfl w.heap.size (by simp [World.setCell, World.drewN])
  have d2 := e0' 0
  have d3 := e0' 1
  have HR := hid hr
  have HA' := hid hA'
  clear hr hA' e0'
  go_wp2_with (at_builtin; refine wpList_append_run rfl _ _ 61 61 rfl (.slice q T.length c) (.slice (some ⟨w.heap.size, 0, none⟩) 1 1) rfl rfl _ _ HR.out ?_)
  refine (rshort_any w0 w1 _ a _ (T ++ [tr0 78]) (n + 1) (p + 1) 8 s (HA'.out.set1 (by omega)) (by omega) hs (by omega)).mono ?_
  intro e w4 h4
  rw [HE.out] at h4
  obtain ⟨rfl, h4⟩ := h4
  have H4 := hid h4
  clear h4
  go_wp2_with fail
  refine (rshort_any w0 w1 _ a _ (T ++ [tr0 78]) (n + 1) p1 20 s H4.out (by omega) hs (by omega)).mono ?_
  intro e w5 h5
  rw [HE2.out] at h5
  obtain ⟨rfl, h5⟩ := h5
  have H5 := hid h5
  have c2' := h5.c2
  have c3' := h5.c3
  have f2' := h5.f 2
  clear h5
  go_wp2_with fail
  go_quiet (fail)
  go_wp2_with fail
  go_ret
  exact ⟨rfl, (An.dn H5.out).ext⟩
set_option maxHeartbeats 8000000 in
set_option maxRecDepth 100000 in
theorem rtree_N4 (w0 w1 w : World) (a : Nat) (v : Value) (T : List TR) (n p : Nat) (s : ByteArray) (h : An w0 w1 w a v T n p s) (hs : s.size ≤ 140737488351232) (h1 : p < s.size) (hT : T.length ≤ 200) (hk : s[p].toNat = 78) (hn : n < 50) (key val : ByteArray) (p1 p2 : Nat) (he : shortO 8 s (p + 1) = some (key, p1)) (he2 : shortO 20 s p1 = some (val, p2)) (hz : key.size ≠ 0) (hq : p2 < s.size) (hh : 15 < s[p2].toNat) :
    Calls Tryd.prog 38 #[.pointer (some ⟨a, 0, none⟩)] w fun e w' => e = .returned (.int .i64 (-1)) ∧ Ext w0 w' := by
  have hp1 := (shortO_size he).2.1
  have hp2 := (shortO_size he2).2.1
  have HE := hid he
  have HE2 := hid he2
  clear he he2
  have hke : (key.toList == []) = false := by
    rw [ByteArray.toList_eq]
    simp only [beq_eq_false_iff_ne, ne_eq, Array.toList_eq_nil_iff]
    intro e
    have : key.data.size = 0 := by rw [e]; rfl
    exact hz this
  have hq1 : decide (s.size ≤ p2) = false := by simp; omega
  have hq2 : decide ((15 : Int) < (s[p2].toNat : Int)) = true := by simp; omega
  have hn1 : ((n : Int) + 1) ≤ 50 := by omega
  have hn2 : IntKind.i64.wrap ((n : Int) + 1) = (n : Int) + 1 := by rw [IntKind.wrap_i64]; omega
  have HA := hid h
  obtain ⟨q, c, ev, hc1, hc2⟩ := h.shape
  subst ev
  have c0 := h.c0
  have c2 := h.c2
  have c3 := h.c3
  have f2 := h.f 2
  have g2 : IntKind.i64.wrap ((p : Int) + 1) = (p : Int) + 1 := by rw [IntKind.wrap_i64]; omega
  clear h
  go_enter Tryd.func38, Tryd.ntmps38
  go_wp2_with fail
  go_quiet (fail)
  obtain ⟨m1, rfl⟩ : ∃ z, z = nq := ⟨_, rfl⟩
  go_wp2_with fail
  go_quiet (fail)
  obtain ⟨m2, rfl⟩ : ∃ z, z = nq := ⟨_, rfl⟩
  obtain ⟨g, cg, w', hr, d0, d1, e0', hA'⟩ := (An.set2 (p := p) (z := (p : Int) + 1) (m := p + 1) (HA.out.dn (k := m1 + m2)) (by omega)).grow 78 (by omega) 78 rfl w.heap.size (by simp [World.setCell, World.drewN])
  have d2 := e0' 0
  have d3 := e0' 1
  have HR := hid hr
  have HA' := hid hA'
  clear hr hA' e0'
  go_wp2_with (at_builtin; refine wpList_append_run rfl _ _ 61 61 rfl (.slice q T.length c) (.slice (some ⟨w.heap.size, 0, none⟩) 1 1) rfl rfl _ _ HR.out ?_)
  refine (rshort_any w0 w1 _ a _ (T ++ [tr0 78]) (n + 1) (p + 1) 8 s (HA'.out.set1 (by omega)) (by omega) hs (by omega)).mono ?_
  intro e w4 h4
  rw [HE.out] at h4
  obtain ⟨rfl, h4⟩ := h4
  have H4 := hid h4
  clear h4
  go_wp2_with fail
  refine (rshort_any w0 w1 _ a _ (T ++ [tr0 78]) (n + 1) p1 20 s H4.out (by omega) hs (by omega)).mono ?_
  intro e w5 h5
  rw [HE2.out] at h5
  obtain ⟨rfl, h5⟩ := h5
  have H5 := hid h5
  have c2' := h5.c2
  have c3' := h5.c3
  have f2' := h5.f 2
  clear h5
  go_wp2_with fail
  go_quiet (fail)
  go_wp2_with fail
  go_ret
  exact ⟨rfl, (An.dn H5.out).ext⟩
end Go.Proofs.YtjohkmkgmbihkaaDoor

namespace Go.Proofs.YtjohkmkgmbihkaaDoor
set_option linter.unusedVariables false
open Go.ChangeShapes Go.WideShapes Go.ChangeAt Go.RowKit
theorem rdN_cnt {g : Rdr} (hg : ∀ s n t r m, g s n = some (t, r, m) → m = n + cntT t) {s r : ByteArray} {n m : Nat} {t : AT} (h : rdN g s n = some (t, r, m)) : m = n + cntT t := by
  unfold rdN at h
  split at h
  · cases h
  split at h
  · cases h
  split at h
  · cases h
  next l s2 n2 h2 =>
  split at h
  · cases h
  next q s3 n3 h3 =>
  simp only [Option.some.injEq, Prod.mk.injEq] at h
  obtain ⟨rfl, rfl, rfl⟩ := h
  have b := hg _ _ _ _ _ h2
  have c := hg _ _ _ _ _ h3
  simp only [cntT]
  omega
theorem rdW_cnt {g : Rdr} (hg : ∀ s n t r m, g s n = some (t, r, m) → m = n + cntT t) : ∀ s n t r m, rdW g s n = some (t, r, m) → m = n + cntT t := by
  intro s n t r m h
  unfold rdW at h
  split at h
  · cases h
  split at h
  · exact rdN_cnt hg h
  split at h
  · simp only [Option.some.injEq, Prod.mk.injEq] at h
    obtain ⟨rfl, rfl, rfl⟩ := h
    rfl
  split at h
  · unfold rdS at h
    split at h
    · cases h
    split at h
    · simp only [Option.some.injEq, Prod.mk.injEq] at h
      obtain ⟨rfl, rfl, rfl⟩ := h
      rfl
    · cases h
  · cases h
theorem rd_cnt : ∀ f s n t r m, rd f s n = some (t, r, m) → m = n + cntT t
  | 0 => rdW_cnt (fun s n t r m h => by cases h)
  | f + 1 => rdW_cnt (rd_cnt f)
theorem set_mid (T : List TR) (x y : TR) (B : List TR) : (T ++ [x] ++ B).set T.length y = T ++ [y] ++ B := by
  rw [List.append_assoc, List.append_assoc, List.set_append_right _ _ (Nat.le_refl _), Nat.sub_self]
  rfl
theorem get_mid (T : List TR) (x : TR) (B : List TR) (h : T.length < (T ++ [x] ++ B).length) : (T ++ [x] ++ B)[T.length] = x := by
  simp
theorem An.cast {w0 w1 w : World} {a : Nat} {v : Value} {T T' : List TR} {n p : Nat} {s : ByteArray} (h : An w0 w1 w a v T n p s) (e : T = T') : An w0 w1 w a v T' n p s := e ▸ h
/-- The three parts of a node are written. -/
theorem An.fill {w0 w1 w : World} {a g c : Nat} {T B : List TR} {n p L : Nat} {s : ByteArray} (x : It) (h : An w0 w1 w a (.slice (some ⟨g, 0, none⟩) L c) (T ++ [tr0 78] ++ B) n p s) (hL : L = (T ++ [tr0 78] ++ B).length) (l r : Nat) {zl zr : Int} (hzl : zl = (l : Int)) (hzr : zr = (r : Int)) :
    An w0 w1 (((((w.setCell ⟨g, T.length * 9 + 2, none⟩ (.string x.key)).setCell ⟨g, T.length * 9 + 2 + 1, none⟩ (.string x.val)).setCell ⟨g, T.length * 9 + 2 + 2, none⟩ (.int .i64 x.h)).setCell ⟨g, T.length * 9 + 5, none⟩ (.int .i64 zl)).setCell ⟨g, T.length * 9 + 6, none⟩ (.int .i64 zr)) a (.slice (some ⟨g, 0, none⟩) L c) (T ++ [{ tr0 78 with it := x, l := l, r := r }] ++ B) n p s := by
  subst hL hzl hzr
  have hlen : ∀ y : TR, (T ++ [y] ++ B).length = (T ++ [tr0 78] ++ B).length := by intro y; simp
  have hlt : ∀ y : TR, T.length < (T ++ [y] ++ B).length := by intro y; simp
  have s1 := (h.store (hlt _) (j := 2) (by omega) (.string x.key) { tr0 78 with it := ⟨x.key, ⟨#[]⟩, 0⟩ } (by rw [get_mid]; rfl)).cast (set_mid _ _ _ _)
  rw [← hlen { tr0 78 with it := ⟨x.key, ⟨#[]⟩, 0⟩ }] at s1
  have s2 := (s1.store (hlt _) (j := 3) (by omega) (.string x.val) { tr0 78 with it := ⟨x.key, x.val, 0⟩ } (by rw [get_mid]; rfl)).cast (set_mid _ _ _ _)
  rw [hlen, ← hlen { tr0 78 with it := ⟨x.key, x.val, 0⟩ }] at s2
  have s3 := (s2.store (hlt _) (j := 4) (by omega) (.int .i64 x.h) { tr0 78 with it := x } (by rw [get_mid]; rfl)).cast (set_mid _ _ _ _)
  rw [hlen, ← hlen { tr0 78 with it := x }] at s3
  have s4 := (s3.store (hlt _) (j := 5) (by omega) (.int .i64 l) { tr0 78 with it := x, l := l } (by rw [get_mid]; rfl)).cast (set_mid _ _ _ _)
  rw [hlen, ← hlen { tr0 78 with it := x, l := l }] at s4
  have s5 := (s4.store (hlt _) (j := 6) (by omega) (.int .i64 r) { tr0 78 with it := x, l := l, r := r } (by rw [get_mid]; rfl)).cast (set_mid _ _ _ _)
  rw [hlen] at s5
  exact s5
/-- What a node's reading comes to, behind its entry. -/
def NPost (f : Nat) (w0 w1 : World) (s : ByteArray) (a : Nat) (T : List TR) (x : It) (p n : Nat) (e : Ending) (w' : World) : Prop := match rd f (sfx s p) n with
  | none => e = .returned (.int .i64 (-1)) ∧ Ext w0 w'
  | some (l, s2, n2) => match rd f s2 n2 with
    | none => e = .returned (.int .i64 (-1)) ∧ Ext w0 w'
    | some (r, s3, n3) => e = .returned (.int .i64 T.length) ∧ ∃ v' q, s3 = sfx s q ∧ q ≤ s.size ∧ An w0 w1 w' a v' (T ++ lay (.node x l r) T.length) n3 q s
set_option maxHeartbeats 8000000 in
set_option maxRecDepth 100000 in
theorem rtree_N5 (w0 w1 w : World) (a : Nat) (v : Value) (T : List TR) (n p : Nat) (s : ByteArray) (h : An w0 w1 w a v T n p s) (hs : s.size ≤ 140737488351232) (h1 : p < s.size) (hT : T.length ≤ 200) (hk : s[p].toNat = 78) (hn : n < 50) (key val : ByteArray) (p1 p2 : Nat) (he : shortO 8 s (p + 1) = some (key, p1)) (he2 : shortO 20 s p1 = some (val, p2)) (hz : key.size ≠ 0) (hq : p2 < s.size) (hh : ¬ 15 < s[p2].toNat) (f : Nat) (ih : rTreeSaid w0 s f) (hf : 50 ≤ n + 1 + f) (hT2 : T.length ≤ 2 * n) :
    Calls Tryd.prog 38 #[.pointer (some ⟨a, 0, none⟩)] w fun e w' => NPost f w0 w1 s a T ⟨key, val, s[p2].toNat⟩ (p2 + 1) (n + 1) e w' := by
  have hp1 := (shortO_size he).2.1
  have hp2 := (shortO_size he2).2.1
  have HE := hid he
  have HE2 := hid he2
  clear he he2
  have hke : (key.toList == []) = false := by
    rw [ByteArray.toList_eq]
    simp only [beq_eq_false_iff_ne, ne_eq, Array.toList_eq_nil_iff]
    intro e
    have : key.data.size = 0 := by rw [e]; rfl
    exact hz this
  have hq1 : decide (s.size ≤ p2) = false := by simp; omega
  have hq2 : decide ((15 : Int) < (s[p2].toNat : Int)) = false := by simp; omega
  have hb2 : s[p2].toNat < 256 := UInt8.toNat_lt _
  have g3 : IntKind.i64.wrap ((p2 : Int) + 1) = (p2 : Int) + 1 := by rw [IntKind.wrap_i64]; omega
  have IH := hid ih
  clear ih
  have hn1 : ((n : Int) + 1) ≤ 50 := by omega
  have hn2 : IntKind.i64.wrap ((n : Int) + 1) = (n : Int) + 1 := by rw [IntKind.wrap_i64]; omega
  have HA := hid h
  obtain ⟨q, c, ev, hc1, hc2⟩ := h.shape
  subst ev
  have c0 := h.c0
  have c2 := h.c2
  have c3 := h.c3
  have f2 := h.f 2
  have g2 : IntKind.i64.wrap ((p : Int) + 1) = (p : Int) + 1 := by rw [IntKind.wrap_i64]; omega
  clear h
  go_enter Tryd.func38, Tryd.ntmps38
  go_wp2_with fail
  go_quiet (fail)
  obtain ⟨m1, rfl⟩ : ∃ z, z = nq := ⟨_, rfl⟩
  go_wp2_with fail
  go_quiet (fail)
  obtain ⟨m2, rfl⟩ : ∃ z, z = nq := ⟨_, rfl⟩
  obtain ⟨g, cg, w', hr, d0, d1, e0', hA'⟩ := (An.set2 (p := p) (z := (p : Int) + 1) (m := p + 1) (HA.out.dn (k := m1 + m2)) (by omega)).grow 78 (by omega) 78 rfl w.heap.size (by simp [World.setCell, World.drewN])
  have d2 := e0' 0
  have d3 := e0' 1
  have HR := hid hr
  have HA' := hid hA'
  clear hr hA' e0'
  go_wp2_with (at_builtin; refine wpList_append_run rfl _ _ 61 61 rfl (.slice q T.length c) (.slice (some ⟨w.heap.size, 0, none⟩) 1 1) rfl rfl _ _ HR.out ?_)
  refine (rshort_any w0 w1 _ a _ (T ++ [tr0 78]) (n + 1) (p + 1) 8 s (HA'.out.set1 (by omega)) (by omega) hs (by omega)).mono ?_
  intro e w4 h4
  rw [HE.out] at h4
  obtain ⟨rfl, h4⟩ := h4
  have H4 := hid h4
  clear h4
  go_wp2_with fail
  refine (rshort_any w0 w1 _ a _ (T ++ [tr0 78]) (n + 1) p1 20 s H4.out (by omega) hs (by omega)).mono ?_
  intro e w5 h5
  rw [HE2.out] at h5
  obtain ⟨rfl, h5⟩ := h5
  have H5 := hid h5
  have c2' := h5.c2
  have c3' := h5.c3
  have f2' := h5.f 2
  clear h5
  go_wp2_with fail
  go_quiet (fail)
  obtain ⟨m3, rfl⟩ : ∃ z, z = nq := ⟨_, rfl⟩
  go_wp2_with fail
  obtain ⟨W5, hW5⟩ : ∃ z, z = w5.drewN m3 := ⟨_, rfl⟩
  rw [← hW5]
  have h5 : An w0 w1 W5 a (.slice (some ⟨g, 0, none⟩) (T.length + 1) cg) (T ++ [tr0 78]) (n + 1) p2 s := by rw [hW5]; exact H5.out.dn
  have HA5 := hid h5
  have C2 := h5.c2
  have C3 := h5.c3
  have F2 := h5.f 2
  have halt : a < W5.heap.size := h5.lt
  clear c2' c3' f2' hW5 h5
  have y2 := fun ob => ((Ext.refl W5).alloc ob).keep1 C2
  have y3 := fun ob => ((Ext.refl W5).alloc ob).keep1 C3
  go_region
  all_goals (try go_wp2_with fail)
  have hA6 := ((HA5.out.set2 (m := p2 + 1) (z := (p2 : Int) + 1) (by omega)).next ((Ext.refl _).alloc (.cells #[.string key, .string val, .int .i64 s[p2].toNat] 58))).d1
  have hX6 := heap_alloc_new (W5.setCell ⟨a, 2, none⟩ (.int .i64 ((p2 : Int) + 1))) (.cells #[.string key, .string val, .int .i64 s[p2].toNat] 58)
  rw [show (W5.setCell ⟨a, 2, none⟩ (.int .i64 ((p2 : Int) + 1))).heap.size = W5.heap.size by simp [World.setCell]] at hX6
  obtain ⟨W6, hW6⟩ : ∃ z, z = ((W5.setCell ⟨a, 2, none⟩ (.int .i64 ((p2 : Int) + 1))).alloc (.cells #[.string key, .string val, .int .i64 s[p2].toNat] 58)).drew := ⟨_, rfl⟩
  rw [← hW6] at hA6 ⊢
  replace hX6 : W6.heap[W5.heap.size]? = some (.cells #[.string key, .string val, .int .i64 s[p2].toNat] 58) := by rw [hW6]; exact hX6
  generalize W5.heap.size = XB at *
  have HA6 := hid hA6
  have HX6 := hid hX6
  clear hA6 hX6 hW6 y2 y3 C2 C3 F2 halt HA5
  have hlen : (T ++ [tr0 78]).length = T.length + 1 := by simp
  refine (IH.out W6 W6 a _ (T ++ [tr0 78]) (n + 1) (p2 + 1) HA6.out.rebase (by omega) (by omega) hf (by omega)).mono ?_
  intro e w7 h7
  cases hrd : rd f (sfx s (p2 + 1)) (n + 1) with
  | none =>
    rw [hrd] at h7
    obtain ⟨rfl, h7⟩ := h7
    have H7 := hid h7
    have HRD := hid hrd
    clear h7 hrd
    go_wp2_with fail
    go_ret
    unfold NPost
    rw [HRD.out]
    exact ⟨rfl, H7.out⟩
  | some y =>
    obtain ⟨l, s2, n2⟩ := y
    rw [hrd] at h7
    obtain ⟨rfl, v7, q7, rfl, hq7, h7⟩ := h7
    have hcl := rd_cnt _ _ _ _ _ _ hrd
    have hls := (rd_less f _ _ _ _ _ hrd (by omega))
    have hsl := szT_cnt l
    have hll := lay_len l (T.length + 1)
    rw [hlen] at h7 ⊢
    have hlen2 : (T ++ [tr0 78] ++ lay l (T.length + 1)).length = T.length + 1 + szT l := by rw [List.length_append, hlen, hll]
    have H7 := hid h7
    have HRD := hid hrd
    clear h7 hrd
    have hneg : ¬ ((T.length : Int) + 1 < 0) := by omega
    go_wp2_with fail
    refine (IH.out W6 w7 a _ _ n2 q7 H7.out hq7 hls.2.1 (by omega) (by rw [hlen2]; omega)).mono ?_
    intro e w8 h8
    cases hrd2 : rd f (sfx s q7) n2 with
    | none =>
      rw [hrd2] at h8
      obtain ⟨rfl, h8⟩ := h8
      have H8 := hid h8
      have HRD2 := hid hrd2
      clear h8 hrd2
      go_wp2_with fail
      go_ret
      unfold NPost
      rw [HRD.out]
      simp only
      rw [HRD2.out]
      exact ⟨rfl, H8.out⟩
    | some y =>
      obtain ⟨r, s3, n3⟩ := y
      rw [hrd2] at h8
      obtain ⟨rfl, v8, q8, rfl, hq8, h8⟩ := h8
      rw [hlen2] at h8 ⊢
      have HRD2 := hid hrd2
      have hneg2 : ¬ ((T.length : Int) + 1 + (szT l : Int) < 0) := by omega
      have hxr := h8.tf _ _ _ _ HX6.out (by decide) (by decide)
      have x0 : w8.cell? ⟨XB, 0, none⟩ = some (.string key) := cell_of_row _ _ 0 _ _ _ hxr
      have x1 : w8.cell? ⟨XB, 1, none⟩ = some (.string val) := cell_of_row _ _ 1 _ _ _ hxr
      have x2 : w8.cell? ⟨XB, 2, none⟩ = some (.int .i64 s[p2].toNat) := cell_of_row _ _ 2 _ _ _ hxr
      rw [List.append_assoc (T ++ [tr0 78])] at h8
      generalize hB : lay l (T.length + 1) ++ lay r (T.length + 1 + szT l) = B at *
      have HBB := hid hB
      obtain ⟨N8, hN8⟩ : ∃ z, z = (T ++ [tr0 78] ++ B).length := ⟨_, rfl⟩
      have hlt8 : T.length < N8 := by rw [hN8]; simp
      obtain ⟨g8, c8, ev8, hg8, _, hfz⟩ := h8.blk (by omega)
      subst ev8
      obtain ⟨_, _, ee, hc8, hc8'⟩ := h8.shape
      simp only [Value.slice.injEq] at ee
      obtain ⟨-, -, rfl⟩ := ee
      have hget : (T ++ [tr0 78] ++ B)[T.length]'(by rw [← hN8]; exact hlt8) = tr0 78 := get_mid _ _ _ _
      have t2 := h8.at9 (i := T.length) (by omega) (j := 2) (u := .string ⟨#[]⟩) (by omega) (by rw [hget]; rfl)
      have t3 := h8.at9 (i := T.length) (by omega) (j := 3) (u := .string ⟨#[]⟩) (by omega) (by rw [hget]; rfl)
      have t4 := h8.at9 (i := T.length) (by omega) (j := 4) (u := .int .i64 0) (by omega) (by rw [hget]; rfl)
      have t5 := h8.at9 (i := T.length) (by omega) (j := 5) (u := .int .i64 0) (by omega) (by rw [hget]; rfl)
      have t6 := h8.at9 (i := T.length) (by omega) (j := 6) (u := .int .i64 0) (by omega) (by rw [hget]; rfl)
      have z2 := hfz (T.length * 9 + 2)
      have z3 := hfz (T.length * 9 + 3)
      have z4 := hfz (T.length * 9 + 4)
      have z5 := hfz (T.length * 9 + 5)
      have z6 := hfz (T.length * 9 + 6)
      have c0' := h8.c0
      have n8a : a ≠ g8 := by
        intro q
        subst q
        exact rows_ne h8.row h8.own (by decide) rfl
      have n8x : XB ≠ g8 := by
        intro q
        subst q
        exact rows_ne hxr h8.own (by decide) rfl
      rw [← hN8] at c0' h8 hc8
      have H8 := hid h8
      have HN8 := hid hN8
      clear h8 hrd2 hfz hxr hget hB hN8
      go_wp2_with fail
      go_region
      all_goals (try go_wp2_with fail)
      go_ret
      unfold NPost
      rw [HRD.out]
      simp only
      rw [HRD2.out]
      refine ⟨rfl, .slice (some ⟨g8, 0, none⟩) N8 c8, q8, rfl, hq8, ?_⟩
      have hz := An.fill ⟨key, val, s[p2].toNat⟩ H8.out HN8.out (T.length + 1) (T.length + 1 + szT l) (zl := (T.length : Int) + 1) (zr := (T.length : Int) + 1 + (2 * (cntT l : Int) + 1)) (by omega) (by omega)
      refine ((hz.back HA6.out.tf).cast ?_).d1
      rw [← HBB.out]
      simp [lay]
theorem rtree_N (w0 w1 w : World) (a : Nat) (v : Value) (T : List TR) (n p : Nat) (s : ByteArray) (h : An w0 w1 w a v T n p s) (hs : s.size ≤ 140737488351232) (h1 : p < s.size) (hk : s[p].toNat = 78) (hn : n < 50) (f : Nat) (ih : rTreeSaid w0 s f) (hf : 50 ≤ n + 1 + f) (hT2 : T.length ≤ 2 * n) :
    Calls Tryd.prog 38 #[.pointer (some ⟨a, 0, none⟩)] w fun e w' => match rdN (rd f) (sfx s (p + 1)) n with
      | none => e = .returned (.int .i64 (-1)) ∧ Ext w0 w'
      | some (t, r, m) => e = .returned (.int .i64 T.length) ∧ ∃ v' q, r = sfx s q ∧ q ≤ s.size ∧ An w0 w1 w' a v' (T ++ lay t T.length) m q s := by
  have hr : rdN (rd f) (sfx s (p + 1)) n = match (entO s (p + 1)) with
      | none => none
      | some (x, p3) => match rd f (sfx s p3) (n + 1) with
        | none => none
        | some (l, s2, n2) => match rd f s2 n2 with
          | none => none
          | some (r, s3, n3) => some (.node x l r, s3, n3) := by
    unfold rdN
    rw [if_neg (by omega), ent_at]
    cases entO s (p + 1) with
    | none => rfl
    | some y => rfl
  rw [hr]
  unfold entO
  cases e1 : shortO 8 s (p + 1) with
  | none => exact rtree_N0 w0 w1 w a v T n p s h hs h1 (by omega) hk hn e1
  | some y =>
    obtain ⟨key, p1⟩ := y
    simp only
    cases e2 : shortO 20 s p1 with
    | none => exact rtree_N1 w0 w1 w a v T n p s h hs h1 (by omega) hk hn key p1 e1 e2
    | some y2 =>
      obtain ⟨val, p2⟩ := y2
      simp only
      by_cases hq : p2 < s.size
      · rw [dif_pos hq]
        by_cases hz : key.size = 0
        · rw [if_neg (by omega)]
          exact rtree_N2 w0 w1 w a v T n p s h hs h1 (by omega) hk hn key val p1 p2 e1 e2 hz
        · by_cases hh : 15 < s[p2].toNat
          · rw [if_neg (by omega)]
            exact rtree_N4 w0 w1 w a v T n p s h hs h1 (by omega) hk hn key val p1 p2 e1 e2 hz hq hh
          · rw [if_pos ⟨hz, by omega⟩]
            refine (rtree_N5 w0 w1 w a v T n p s h hs h1 (by omega) hk hn key val p1 p2 e1 e2 hz hq hh f ih hf hT2).mono ?_
            intro e w' hp
            unfold NPost at hp
            simp only
            cases e3 : rd f (sfx s (p2 + 1)) (n + 1) with
            | none => rw [e3] at hp; exact hp
            | some y3 =>
              obtain ⟨l, s2, n2⟩ := y3
              rw [e3] at hp
              simp only at hp ⊢
              cases e4 : rd f s2 n2 with
              | none => rw [e4] at hp; exact hp
              | some y4 => rw [e4] at hp; exact hp
      · rw [dif_neg hq]
        by_cases hz : key.size = 0
        · exact rtree_N2 w0 w1 w a v T n p s h hs h1 (by omega) hk hn key val p1 p2 e1 e2 hz
        · exact rtree_N3 w0 w1 w a v T n p s h hs h1 (by omega) hk hn key val p1 p2 e1 e2 hz hq
theorem rdN_50 (g : Rdr) (s : ByteArray) : rdN g s 50 = none := by unfold rdN; rw [if_pos rfl]
theorem rtree_step (w0 : World) (s : ByteArray) (hs : s.size ≤ 140737488351232) (g : Rdr) (w1 w : World) (a : Nat) (v : Value) (T : List TR) (n p : Nat) (h : An w0 w1 w a v T n p s) (hp : p ≤ s.size) (hn : n ≤ 50) (hT : T.length ≤ 2 * n)
    (hN : ∀ h1 : p < s.size, s[p].toNat = 78 → n < 50 → Calls Tryd.prog 38 #[.pointer (some ⟨a, 0, none⟩)] w fun e w' => match rdN g (sfx s (p + 1)) n with
      | none => e = .returned (.int .i64 (-1)) ∧ Ext w0 w'
      | some (t, r, m) => e = .returned (.int .i64 T.length) ∧ ∃ v' q, r = sfx s q ∧ q ≤ s.size ∧ An w0 w1 w' a v' (T ++ lay t T.length) m q s) :
    Calls Tryd.prog 38 #[.pointer (some ⟨a, 0, none⟩)] w fun e w' => match rdW g (sfx s p) n with
    | none => e = .returned (.int .i64 (-1)) ∧ Ext w0 w'
    | some (t, r, m) => e = .returned (.int .i64 T.length) ∧ ∃ v' q, r = sfx s q ∧ q ≤ s.size ∧ An w0 w1 w' a v' (T ++ lay t T.length) m q s := by
  by_cases h1 : p < s.size
  · rw [rdW_at g n h1]
    by_cases k1 : s[p].toNat = 78
    · rw [if_pos k1]
      by_cases h50 : n = 50
      · subst h50
        rw [rdN_50]
        exact rtree_50 w0 w1 w a v T 50 p s h hs h1 (by omega) k1 rfl
      · exact hN h1 k1 (by omega)
    · rw [if_neg k1]
      by_cases k2 : s[p].toNat = 69
      · rw [if_pos k2]
        refine (rtree_E w0 w1 w a v T n p s h hs h1 (by omega) k2).mono ?_
        rintro e w' ⟨he, v', h'⟩
        exact ⟨he, v', p + 1, rfl, by omega, h'⟩
      · rw [if_neg k2]
        by_cases k3 : s[p].toNat = 83
        · rw [if_pos k3]
          refine (rtree_S w0 w1 w a v T n p s h hs h1 (by omega) k3).mono ?_
          rintro e w' (⟨hb, he, v', h'⟩ | ⟨hb, he, h'⟩)
          · rw [rdS_yes n hb]
            exact ⟨he, v', p + 1 + 3, rfl, hb.1, h'⟩
          · rw [rdS_no n (by omega) hb]
            exact ⟨he, h'⟩
        · rw [if_neg k3]
          exact rtree_bad w0 w1 w a v T n p s h hs h1 (by omega) ⟨k2, k3, k1⟩
  · rw [rdW_end g n h1]
    exact rtree_end w0 w1 w a v T n p s h hs h1
theorem rtree_all (w0 : World) (s : ByteArray) (hs : s.size ≤ 140737488351232) : ∀ f, rTreeSaid w0 s f
  | 0 => fun w1 w a v T n p h hp hn hf hT => rtree_step w0 s hs _ w1 w a v T n p h hp hn hT (fun _ _ hlt => by omega)
  | f + 1 => fun w1 w a v T n p h hp hn hf hT => rtree_step w0 s hs _ w1 w a v T n p h hp hn hT (fun h1 hk hlt => rtree_N w0 w1 w a v T n p s h hs h1 hk hlt f (rtree_all w0 s hs f) (by omega) hT)
end Go.Proofs.YtjohkmkgmbihkaaDoor
