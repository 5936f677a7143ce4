/- The laws without the document's answer: keys, cuts, lists of pairs. -/
import Derived.Test.YtjohkmkgmbihkaaDoorKeepA
import Derived.Laws.StructEq
namespace Go.Proofs.YtjohkmkgmbihkaaDoor
set_option linter.unusedVariables false
open Go.ChangeShapes Go.WideShapes Go.ChangeAt Go.RowKit

/-- One of thirty keys. -/
def keyN (v : Nat) : ByteArray := if v < 5 then byte (97 + v % 5) else byte (97 + v % 5) ++ byte (97 + v / 5)
def keyC (c : Int) : ByteArray := keyN (pickN c 30).toNat
theorem byte_str' (n : Int) (m : Nat) (h0 : n = m) : strOfNums [n] = byte m := by subst h0; simp [strOfNums, byte]

/-- A text's first bytes. -/
def cutB (s : ByteArray) (n : Nat) : ByteArray := if n < s.size then s.extract 0 n else s
theorem cutB_size (s : ByteArray) (n : Nat) : (cutB s n).size ≤ n := by
  unfold cutB
  split
  · simp; omega
  · omega

/-- Pairs. -/
abbrev Pr := ByteArray × ByteArray
def It.pr (x : It) : Pr := (x.key, x.val)
def pc (A : List Pr) : List Value := A.flatMap fun p => [.string p.1, .string p.2]
theorem pc_length (A : List Pr) : (pc A).length = A.length * 2 := by
  induction A with
  | nil => rfl
  | cons x L ih => simp [pc, List.flatMap_cons] at ih ⊢; omega
theorem pc_append (A B : List Pr) : pc (A ++ B) = pc A ++ pc B := by simp [pc]
theorem pc_cons (x : Pr) (A : List Pr) : pc (x :: A) = .string x.1 :: .string x.2 :: pc A := by simp [pc]
theorem pairs_pc (L : List It) : pairsOf L = pc (L.map It.pr) := by
  induction L with
  | nil => rfl
  | cons x L ih => rw [pairsOf_cons, ih, List.map_cons, pc_cons]; rfl
theorem pc_get (A : List Pr) (i : Nat) (h : i < A.length) : (pc A)[i * 2]? = some (.string A[i].1) ∧ (pc A)[i * 2 + 1]? = some (.string A[i].2) := by
  induction A generalizing i with
  | nil => simp at h
  | cons x A ih =>
    cases i with
    | zero => simp [pc_cons]
    | succ i =>
      have := ih i (by simpa using h)
      rw [pc_cons]
      have e : (i + 1) * 2 = i * 2 + 1 + 1 := by omega
      rw [e]
      simpa using this
theorem pc_take (A : List Pr) (n : Nat) : pc (A.take n) = (pc A).take (n * 2) := by
  induction A generalizing n with
  | nil => simp [pc]
  | cons x A ih =>
    cases n with
    | zero => simp [pc]
    | succ n => rw [List.take_succ_cons, pc_cons, pc_cons, ih]; have : (n + 1) * 2 = n * 2 + 1 + 1 := by omega
                rw [this]; simp
theorem pc_drop (A : List Pr) (n : Nat) : pc (A.drop n) = (pc A).drop (n * 2) := by
  induction A generalizing n with
  | nil => simp [pc]
  | cons x A ih =>
    cases n with
    | zero => simp [pc]
    | succ n => rw [List.drop_succ_cons, pc_cons, ih]; have : (n + 1) * 2 = n * 2 + 1 + 1 := by omega
                rw [this]; simp
theorem oneCell_pc (A : List Pr) : ∀ x ∈ pc A, x.oneCell' = true := by
  intro x hx
  simp only [pc, List.mem_flatMap] at hx
  obtain ⟨y, _, hy⟩ := hx
  simp at hy
  rcases hy with rfl | rfl <;> rfl
/-- A slice of pairs. -/
def Prs (w : World) (v : Value) (A : List Pr) : Prop := Seg w v 2 A.length (pc A)
theorem Prs.ext {w w' : World} {v : Value} {A : List Pr} (h : Prs w v A) (e : Ext w w') : Prs w' v A := Seg.ext h e
theorem Prs.shape {w : World} {v : Value} {A : List Pr} (h : Prs w v A) : ∃ a cap, v = .slice a A.length cap ∧ A.length ≤ cap ∧ cap ≤ maxLen := Seg.shape h
theorem Prs.own {w : World} {base : Nat} {e : TypeId} {v : Value} {A : List Pr} (h : w.ownsRow base e 2 v A.length (pc A)) : Prs w v A := Seg.own h
theorem Prs.cases {w : World} {v : Value} {A : List Pr} (h : Prs w v A) : (v = .slice none 0 0 ∧ A = []) ∨
    ∃ b o cap, v = .slice (some ⟨b, o, none⟩) A.length cap ∧ A.length ≤ cap ∧ cap ≤ maxLen ∧ b < w.heap.size ∧ ∀ j u, (pc A)[j]? = some u → w.cell? ⟨b, o + j, none⟩ = some u := by
  rcases h.2 with ⟨h1, h2⟩ | h
  · exact .inl ⟨h1, List.eq_nil_of_length_eq_zero h2⟩
  · exact .inr h
theorem Prs.take {w : World} {a : Option Addr} {n cap : Nat} {L : List Pr} (h : Prs w (.slice a n cap) L) {i : Nat} (hi : i ≤ L.length) : Prs w (sliced a 0 i cap 2) (L.take i) := by
  obtain ⟨_, _, e, _⟩ := h.shape
  simp only [Value.slice.injEq] at e
  obtain ⟨_, rfl, _⟩ := e
  have := Seg.cut h (Nat.zero_le i) hi
  unfold Prs
  rw [pc_take, List.length_take, Nat.min_eq_left hi]
  simpa using this
theorem Prs.drop {w : World} {a : Option Addr} {n cap : Nat} {L : List Pr} (h : Prs w (.slice a n cap) L) {i : Nat} (hi : i ≤ L.length) : Prs w (sliced a i L.length cap 2) (L.drop i) := by
  obtain ⟨_, _, e, _⟩ := h.shape
  simp only [Value.slice.injEq] at e
  obtain ⟨_, rfl, _⟩ := e
  have := Seg.cut h hi (Nat.le_refl _)
  unfold Prs
  rw [pc_drop, List.length_drop]
  rwa [List.take_of_length_le (by rw [List.length_drop, pc_length]; omega)] at this
theorem pair_cells {w : World} {b o : Nat} {A : List Pr} (hc : ∀ j u, (pc A)[j]? = some u → w.cell? ⟨b, o + j, none⟩ = some u) {i : Nat} (h : i < A.length) :
    w.cell? ⟨b, o + i * 2, none⟩ = some (.string A[i].1) ∧ w.cell? ⟨b, o + i * 2 + 1, none⟩ = some (.string A[i].2) := by
  obtain ⟨h1, h2⟩ := pc_get A i h
  exact ⟨hc _ _ h1, hc _ _ h2⟩

end Go.Proofs.YtjohkmkgmbihkaaDoor
