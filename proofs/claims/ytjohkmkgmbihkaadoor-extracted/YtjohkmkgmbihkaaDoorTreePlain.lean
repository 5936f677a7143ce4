/- The tree of some items, its digest, its answers: plain mathematics; no program is named here. -/
import Derived.Test.YtjohkmkgmbihkaaDoorHeap2
namespace Go.Proofs.YtjohkmkgmbihkaaDoor
/-- The first of the highest among the first n. -/
def topTo (L : List It) : Nat → Nat
  | 0 => 0
  | n + 1 => if (L[topTo L n]?.map It.h).getD 0 < (L[n]?.map It.h).getD 0 then n else topTo L n
def top (L : List It) : Nat := topTo L L.length
theorem topTo_le (L : List It) (n : Nat) : topTo L n ≤ n := by
  induction n with
  | zero => exact Nat.le_refl _
  | succ n ih => unfold topTo; split <;> omega
theorem topTo_lt (L : List It) (n : Nat) (h : 0 < n) : topTo L n < n := by
  match n, h with
  | n + 1, _ => have := topTo_le L n; unfold topTo; split <;> omega
theorem top_lt {L : List It} (h : L ≠ []) : top L < L.length := topTo_lt L _ (List.length_pos_iff.2 h)
theorem topTo_one (L : List It) : topTo L 1 = 0 := by unfold topTo; split <;> simp [topTo]
theorem topTo_succ (L : List It) (n : Nat) (h : n < L.length) (hp : topTo L n < L.length) :
    topTo L (n + 1) = if L[topTo L n].h < L[n].h then n else topTo L n := by
  rw [topTo]; simp [h, hp]
/-- One byte. -/
def byte (n : Nat) : ByteArray := ⟨#[UInt8.ofNat n]⟩
theorem byte_size (n : Nat) : (byte n).size = 1 := rfl
/-- What stands of an item in texts and answers. -/
def head (x : It) : ByteArray := ⟨#[78]⟩ ++ byte x.key.size ++ x.key ++ byte x.val.size ++ x.val ++ byte x.h
theorem head_size (x : It) : (head x).size = 4 + x.key.size + x.val.size := by
  simp only [head, ByteArray.size_append, byte_size]
  have : (⟨#[78]⟩ : ByteArray).size = 1 := rfl
  omega
/-- The text of an empty tree. -/
def tE : ByteArray := ⟨#[69]⟩
def tS : ByteArray := ⟨#[83]⟩
/-- The digest, with n steps to go. -/
def digF : Nat → List It → ByteArray
  | 0, _ => Sm.sum tE
  | n + 1, L => match L[top L]? with
    | none => Sm.sum tE
    | some x => Sm.sum (head x ++ digF n (L.take (top L)) ++ digF n (L.drop (top L + 1)))
def dig (L : List It) : ByteArray := digF L.length L
theorem digF_eq : ∀ (n m : Nat) (L : List It), L.length ≤ n → L.length ≤ m → digF n L = digF m L
  | 0, 0, _, _, _ => rfl
  | 0, m + 1, L, h, _ => by
    obtain rfl : L = [] := List.eq_nil_of_length_eq_zero (by omega)
    simp [digF]
  | n + 1, 0, L, _, h => by
    obtain rfl : L = [] := List.eq_nil_of_length_eq_zero (by omega)
    simp [digF]
  | n + 1, m + 1, L, h1, h2 => by
    by_cases h0 : L = []
    · subst h0; simp [digF]
    · have ht := top_lt h0
      simp only [digF, List.getElem?_eq_getElem ht]
      rw [digF_eq n m (L.take (top L)) (by simp; omega) (by simp; omega), digF_eq n m (L.drop (top L + 1)) (by simp; omega) (by simp; omega)]
theorem dig_nil : dig [] = Sm.sum tE := rfl
theorem dig_node {L : List It} (h0 : L ≠ []) : dig L = Sm.sum (head (L[top L]'(top_lt h0)) ++ dig (L.take (top L)) ++ dig (L.drop (top L + 1))) := by
  have ht := top_lt h0
  have e : dig L = digF (L.length - 1 + 1) L := digF_eq _ _ _ (by omega) (by omega)
  rw [e, digF]
  simp only [List.getElem?_eq_getElem ht]
  rw [digF_eq (L.length - 1) _ (L.take (top L)) (by simp; omega) (Nat.le_refl _), digF_eq (L.length - 1) _ (L.drop (top L + 1)) (by simp; omega) (Nat.le_refl _)]
  rfl
theorem sum_size (s : ByteArray) : (Sm.sum s).size = 3 := rfl
theorem dig_size (L : List It) : (dig L).size = 3 := by
  by_cases h : L = []
  · subst h; rfl
  · rw [dig_node h]; rfl
/-- Does a tree between two bounds matter to a question? (The empty text: no bound.) -/
def mat (lo hi low high : ByteArray) : Bool := (beq low ⟨#[]⟩ || lt low hi) && (beq high ⟨#[]⟩ || lt lo high)
/-- The answer, with n steps to go. -/
def ansF (lo hi : ByteArray) : Nat → List It → ByteArray → ByteArray → ByteArray
  | 0, L, low, high => if mat lo hi low high then tE else tS ++ dig L
  | n + 1, L, low, high => if mat lo hi low high then match L[top L]? with
      | none => tE
      | some x => head x ++ ansF lo hi n (L.take (top L)) low x.key ++ ansF lo hi n (L.drop (top L + 1)) x.key high
    else tS ++ dig L
def ans (lo hi : ByteArray) (L : List It) (low high : ByteArray) : ByteArray := ansF lo hi L.length L low high
theorem ansF_eq (lo hi : ByteArray) : ∀ (n m : Nat) (L : List It) (low high : ByteArray), L.length ≤ n → L.length ≤ m → ansF lo hi n L low high = ansF lo hi m L low high
  | 0, 0, _, _, _, _, _ => rfl
  | 0, m + 1, L, low, high, h, _ => by
    obtain rfl : L = [] := List.eq_nil_of_length_eq_zero (by omega)
    simp [ansF]
  | n + 1, 0, L, low, high, _, h => by
    obtain rfl : L = [] := List.eq_nil_of_length_eq_zero (by omega)
    simp [ansF]
  | n + 1, m + 1, L, low, high, h1, h2 => by
    by_cases h0 : L = []
    · subst h0; simp [ansF]
    · have ht := top_lt h0
      simp only [ansF, List.getElem?_eq_getElem ht]
      rw [ansF_eq lo hi n m (L.take (top L)) _ _ (by simp; omega) (by simp; omega), ansF_eq lo hi n m (L.drop (top L + 1)) _ _ (by simp; omega) (by simp; omega)]
theorem ans_not {lo hi low high : ByteArray} (h : mat lo hi low high = false) (L : List It) : ans lo hi L low high = tS ++ dig L := by
  unfold ans
  cases L.length <;> simp [ansF, h]
theorem ans_nil {lo hi low high : ByteArray} (h : mat lo hi low high = true) : ans lo hi [] low high = tE := by simp [ans, ansF, h]
theorem ans_node {lo hi low high : ByteArray} (h : mat lo hi low high = true) {L : List It} (h0 : L ≠ []) :
    ans lo hi L low high = head (L[top L]'(top_lt h0)) ++ ans lo hi (L.take (top L)) low (L[top L]'(top_lt h0)).key ++ ans lo hi (L.drop (top L + 1)) (L[top L]'(top_lt h0)).key high := by
  have ht := top_lt h0
  have e : ans lo hi L low high = ansF lo hi (L.length - 1 + 1) L low high := ansF_eq _ _ _ _ _ _ _ (by omega) (by omega)
  rw [e, ansF, if_pos h]
  simp only [List.getElem?_eq_getElem ht]
  rw [ansF_eq lo hi (L.length - 1) _ (L.take (top L)) _ _ (by simp; omega) (Nat.le_refl _), ansF_eq lo hi (L.length - 1) _ (L.drop (top L + 1)) _ _ (by simp; omega) (Nat.le_refl _)]
  rfl
/-- Small keys and values. -/
def Small (L : List It) : Prop := ∀ x ∈ L, x.key.size ≤ 8 ∧ x.val.size ≤ 20 ∧ x.h ≤ 15
theorem Small.take {L : List It} (h : Small L) (n : Nat) : Small (L.take n) := fun x hx => h x (List.mem_of_mem_take hx)
theorem Small.drop {L : List It} (h : Small L) (n : Nat) : Small (L.drop n) := fun x hx => h x (List.mem_of_mem_drop hx)
theorem Small.get {L : List It} (h : Small L) {i : Nat} (hi : i < L.length) : L[i].key.size ≤ 8 ∧ L[i].val.size ≤ 20 ∧ L[i].h ≤ 15 := h _ (List.getElem_mem hi)
theorem ans_size (lo hi : ByteArray) : ∀ (n : Nat) (L : List It) (low high : ByteArray), L.length ≤ n → Small L → (ans lo hi L low high).size ≤ 36 * L.length + 4 := by
  intro n
  induction n with
  | zero =>
    intro L low high h _
    obtain rfl : L = [] := List.eq_nil_of_length_eq_zero (by omega)
    cases hm : mat lo hi low high with
    | true => rw [ans_nil hm]; decide
    | false => rw [ans_not hm]; simp [dig_size, tS]; decide
  | succ n ih =>
    intro L low high h hs
    cases hm : mat lo hi low high with
    | false => rw [ans_not hm, ByteArray.size_append, dig_size]; have : tS.size = 1 := rfl; omega
    | true =>
      by_cases h0 : L = []
      · subst h0; rw [ans_nil hm]; decide
      · have ht := top_lt h0
        rw [ans_node hm h0, ByteArray.size_append, ByteArray.size_append, head_size]
        have h1 := ih (L.take (top L)) low (L[top L]).key (by simp; omega) (hs.take _)
        have h2 := ih (L.drop (top L + 1)) (L[top L]).key high (by simp; omega) (hs.drop _)
        have h3 := hs.get ht
        simp at h1 h2
        rw [Nat.min_eq_left (by omega)] at h1
        omega
end Go.Proofs.YtjohkmkgmbihkaaDoor
