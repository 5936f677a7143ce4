/- Memory: slices that are read, rows that are owned, what stays as it was: no program is named here. -/
import Derived.WalkKit
import Derived.ProofKit
import Derived.Laws.OwnMore
import Derived.Deep.QuietTactic
import Derived.BigQuiet
import Derived.Test.YtjohkmkgmbihkaaDoorItems
namespace Go.Proofs.YtjohkmkgmbihkaaDoor
open Go.RowKit
theorem hid {p : Prop} (h : p) : Hid p := h
/-- All that lay in w lies in w' as it was. -/
abbrev Ext (w w' : World) : Prop := Below w.heap.size w w'
theorem Ext.refl (w : World) : Ext w w := Below.refl _ _
theorem Ext.trans {a b c : World} (h : Ext a b) (k : Ext b c) : Ext a c := Below.trans h (Below.mono k h.size)
theorem Ext.alloc {a w : World} (h : Ext a w) (o : Obj) : Ext a (w.alloc o) := Below.alloc h h.size o
theorem Ext.drew {a w : World} (h : Ext a w) : Ext a w.drew := Below.drew h
theorem Ext.drewN {a w : World} (h : Ext a w) (n : Nat) : Ext a (w.drewN n) := ⟨h.os, h.tape, h.output, h.size, h.block⟩
theorem Ext.setCell {a w : World} (h : Ext a w) {p : Addr} (hp : a.heap.size ≤ p.block) (u : Value) : Ext a (w.setCell p u) := Below.setCell h hp u
theorem Ext.row {w w' : World} (h : Ext w w') {k : Nat} {o : Obj} (hk : w.heap[k]? = some o) : w'.heap[k]? = some o := by
  rw [h.block k (Array.getElem?_eq_some_iff.1 hk).1, hk]
theorem row_lt {w : World} {k : Nat} {o : Obj} (hk : w.heap[k]? = some o) : k < w.heap.size := (Array.getElem?_eq_some_iff.1 hk).1
/-- A slice of n elements of k cells each that reads as the cells cs. -/
def Seg (w : World) (v : Value) (k n : Nat) (cs : List Value) : Prop :=
  cs.length = n * k ∧ ((v = .slice none 0 0 ∧ n = 0) ∨
    ∃ b o cap, v = .slice (some ⟨b, o, none⟩) n cap ∧ n ≤ cap ∧ cap ≤ maxLen ∧ b < w.heap.size ∧ ∀ j u, cs[j]? = some u → w.cell? ⟨b, o + j, none⟩ = some u)
theorem Seg.ext {w w' : World} {v : Value} {k n : Nat} {cs : List Value} (h : Seg w v k n cs) (e : Ext w w') : Seg w' v k n cs := by
  refine ⟨h.1, ?_⟩
  rcases h.2 with h2 | ⟨b, o, cap, hv, h3, h4, h5, h6⟩
  · exact .inl h2
  · exact .inr ⟨b, o, cap, hv, h3, h4, Nat.lt_of_lt_of_le h5 e.size, fun j u hu => (e.cell (p := ⟨b, o + j, none⟩) h5).trans (h6 j u hu)⟩
theorem Seg.own {w : World} {base : Nat} {e : TypeId} {k n : Nat} {v : Value} {cs : List Value} (h : w.ownsRow base e k v n cs) : Seg w v k n cs := by
  refine ⟨h.1, ?_⟩
  rcases h.2 with h2 | ⟨g, cap, cur, hv, hb, hg, h3, h4, h5, h6⟩
  · exact .inl h2
  · refine .inr ⟨g, 0, cap, hv, h3, h4, row_lt hg, fun j u hu => ?_⟩
    have := h.cells (g := g) (by rw [hv]; rfl) j u hu
    have hadd : (⟨g, 0, none⟩ : Addr).add j = ⟨g, j, none⟩ := by unfold Addr.add; split <;> simp_all
    rw [hadd] at this
    simpa using this
theorem Seg.nil (w : World) (k : Nat) : Seg w (.slice none 0 0) k 0 [] := ⟨by simp, .inl ⟨rfl, rfl⟩⟩
theorem Seg.shape {w : World} {v : Value} {k n : Nat} {cs : List Value} (h : Seg w v k n cs) : ∃ a cap, v = .slice a n cap ∧ n ≤ cap ∧ cap ≤ maxLen := by
  rcases h.2 with ⟨rfl, rfl⟩ | ⟨b, o, cap, hv, h3, h4, _⟩
  · exact ⟨none, 0, rfl, Nat.le_refl _, by simp [maxLen]⟩
  · exact ⟨_, cap, hv, h3, h4⟩
theorem addr_add (b o j : Nat) : (⟨b, o, none⟩ : Addr).add j = ⟨b, o + j, none⟩ := by unfold Addr.add; split <;> simp_all
/-- A slice of a slice. -/
theorem Seg.cut {w : World} {a : Option Addr} {k n cap : Nat} {cs : List Value} (h : Seg w (.slice a n cap) k n cs) {lo hi : Nat} (h1 : lo ≤ hi) (h2 : hi ≤ n) :
    Seg w (sliced a lo hi cap k) k (hi - lo) ((cs.drop (lo * k)).take ((hi - lo) * k)) := by
  have e1 : hi * k ≤ n * k := Nat.mul_le_mul_right k h2
  have e2 : (hi - lo) * k = hi * k - lo * k := Nat.sub_mul hi lo k
  refine ⟨by rw [List.length_take, List.length_drop, h.1]; omega, ?_⟩
  rcases h.2 with ⟨hv, rfl⟩ | ⟨b, o, cap', hv, h3, h4, h5, h6⟩
  · obtain rfl : hi = 0 := by omega
    obtain rfl : lo = 0 := by omega
    simp only [Value.slice.injEq] at hv
    obtain ⟨rfl, _, rfl⟩ := hv
    exact .inl ⟨by simp [sliced], rfl⟩
  · simp only [Value.slice.injEq] at hv
    obtain ⟨rfl, _, rfl⟩ := hv
    by_cases hc : cap = lo
    · refine .inr ⟨b, o, cap - lo, by simp [sliced, hc], by omega, by omega, h5, ?_⟩
      intro j u hu
      have : hi - lo = 0 := by omega
      rw [this] at hu; simp at hu
    · refine .inr ⟨b, o + lo * k, cap - lo, by simp [sliced, hc, addr_add], by omega, by omega, h5, ?_⟩
      intro j u hu
      rw [List.getElem?_take] at hu
      split at hu
      · rw [List.getElem?_drop] at hu
        rw [Nat.add_assoc]
        exact h6 _ _ hu
      · cases hu
/-- A slice of items. -/
def Its (w : World) (v : Value) (L : List It) : Prop := Seg w v 3 L.length (cellsOf L)
theorem Its.ext {w w' : World} {v : Value} {L : List It} (h : Its w v L) (e : Ext w w') : Its w' v L := Seg.ext h e
theorem Its.shape {w : World} {v : Value} {L : List It} (h : Its w v L) : ∃ a cap, v = .slice a L.length cap ∧ L.length ≤ cap ∧ cap ≤ maxLen := Seg.shape h
theorem Its.nil (w : World) : Its w (.slice none 0 0) [] := Seg.nil w 3
theorem Its.own {w : World} {base : Nat} {e : TypeId} {v : Value} {L : List It} (h : w.ownsRow base e 3 v L.length (cellsOf L)) : Its w v L := Seg.own h
/-- Of items: the first ones, those behind. -/
theorem Its.take {w : World} {a : Option Addr} {n cap : Nat} {L : List It} (h : Its w (.slice a n cap) L) {i : Nat} (hi : i ≤ L.length) : Its w (sliced a 0 i cap 3) (L.take i) := by
  obtain ⟨_, _, e, _⟩ := h.shape
  simp only [Value.slice.injEq] at e
  obtain ⟨_, rfl, _⟩ := e
  have := Seg.cut h (Nat.zero_le i) hi
  unfold Its
  rw [cellsOf_take, List.length_take, Nat.min_eq_left hi]
  simpa using this
theorem Its.drop {w : World} {a : Option Addr} {n cap : Nat} {L : List It} (h : Its w (.slice a n cap) L) {i : Nat} (hi : i ≤ L.length) : Its w (sliced a i L.length cap 3) (L.drop i) := by
  obtain ⟨_, _, e, _⟩ := h.shape
  simp only [Value.slice.injEq] at e
  obtain ⟨_, rfl, _⟩ := e
  have := Seg.cut h hi (Nat.le_refl _)
  unfold Its
  rw [cellsOf_drop, List.length_drop]
  rwa [List.take_of_length_le (by rw [List.length_drop, cellsOf_length]; omega)] at this
theorem Its.cases {w : World} {v : Value} {L : List It} (h : Its w v L) : (v = .slice none 0 0 ∧ L = []) ∨
    ∃ b o cap, v = .slice (some ⟨b, o, none⟩) L.length cap ∧ L.length ≤ cap ∧ cap ≤ maxLen ∧ b < w.heap.size ∧ ∀ j u, (cellsOf L)[j]? = some u → w.cell? ⟨b, o + j, none⟩ = some u := by
  rcases h.2 with ⟨h1, h2⟩ | h
  · exact .inl ⟨h1, List.eq_nil_of_length_eq_zero h2⟩
  · exact .inr h
/-- The three cells of the i-th item behind an address. -/
theorem item_cells {w : World} {b o : Nat} {L : List It} (hc : ∀ j u, (cellsOf L)[j]? = some u → w.cell? ⟨b, o + j, none⟩ = some u) {i : Nat} (h : i < L.length) :
    w.cell? ⟨b, o + i * 3, none⟩ = some (.string L[i].key) ∧ w.cell? ⟨b, o + i * 3 + 1, none⟩ = some (.string L[i].val) ∧ w.cell? ⟨b, o + i * 3 + 2, none⟩ = some (.int .i64 L[i].h) := by
  obtain ⟨h1, h2, h3⟩ := cellsOf_get L i h
  exact ⟨hc _ _ h1, hc _ _ h2, hc _ _ h3⟩
/-- What a slice's cells read, laid once for every later world. -/
theorem cells_ext {w w' : World} {b o : Nat} {cs : List Value} (e : Ext w w') (hb : b < w.heap.size) (hc : ∀ j u, cs[j]? = some u → w.cell? ⟨b, o + j, none⟩ = some u) :
    ∀ j u, cs[j]? = some u → w'.cell? ⟨b, o + j, none⟩ = some u := fun j u hu => (e.cell (p := ⟨b, o + j, none⟩) hb).trans (hc j u hu)
end Go.Proofs.YtjohkmkgmbihkaaDoor
