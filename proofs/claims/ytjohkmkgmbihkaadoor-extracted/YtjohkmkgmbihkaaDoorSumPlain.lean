/- The plain arithmetic of the sum of a text: no program is named here. -/
import Derived.WalkKit
import Derived.ProofKit
namespace Go.Proofs.YtjohkmkgmbihkaaDoor
namespace Sm
/-- One byte more. -/
def step (n : Int) (b : UInt8) : Int := (n * 263 + b.toNat + 1) % 4093
/-- The number of a text. -/
def num (l : List UInt8) : Int := l.foldl step 1
/-- A digit of base 16. -/
def hex (n : Nat) : UInt8 := UInt8.ofNat (if n < 10 then 48 + n else 87 + n)
/-- Three digits. -/
def three (n : Int) : ByteArray := ⟨#[hex (n.toNat / 256), hex (n.toNat / 16 % 16), hex (n.toNat % 16)]⟩
/-- The sum of a text. -/
def sum (s : ByteArray) : ByteArray := three (num s.data.toList)

theorem step_bd (n : Int) (b : UInt8) : 0 ≤ step n b ∧ step n b < 4093 := by unfold step; omega
theorem foldl_bd (l : List UInt8) (n : Int) (h : 0 ≤ n ∧ n < 4093) : 0 ≤ l.foldl step n ∧ l.foldl step n < 4093 := by
  induction l generalizing n with
  | nil => exact h
  | cons b l ih => exact ih _ (step_bd n b)
theorem num_bd (l : List UInt8) : 0 ≤ num l ∧ num l < 4093 := foldl_bd l 1 (by omega)
theorem take_snoc (s : ByteArray) (k : Nat) (h : k < s.size) : s.data.toList.take (k + 1) = s.data.toList.take k ++ [s[k]] := by
  rw [List.take_succ_eq_append_getElem (by simpa using h)]; rfl
theorem num_snoc (l : List UInt8) (b : UInt8) : num (l ++ [b]) = step (num l) b := by simp [num]
theorem num_take (s : ByteArray) (k : Nat) (h : k < s.size) : num (s.data.toList.take (k + 1)) = (num (s.data.toList.take k) * 263 + s[k].toNat + 1) % 4093 := by
  rw [take_snoc s k h, num_snoc]; rfl
theorem num_all (s : ByteArray) (k : Nat) (h : ¬ k < s.size) : num (s.data.toList.take k) = num s.data.toList := by
  rw [List.take_of_length_le (by simpa using h)]
/-- The sixteen digits. -/
abbrev D : ByteArray := ⟨#[48, 49, 50, 51, 52, 53, 54, 55, 56, 57, 97, 98, 99, 100, 101, 102]⟩
theorem hex_at : ∀ (i : Nat) (h : i < D.size), D[i] = hex i := by
  intro i h
  have h' : ∀ k : Fin 16, D[k.val]'k.isLt = hex k.val := by decide
  exact h' ⟨i, h⟩
/-- One digit, as a text. -/
def one (i : Nat) : ByteArray := ⟨#[hex i]⟩
theorem cut_at (i : Nat) (h : i < 16) : D.extract i (i + 1) = one i := by
  have h' : ∀ k : Fin 16, D.extract k.val (k.val + 1) = one k.val := by decide
  exact h' ⟨i, h⟩
theorem three_cut (n : Int) (h0 : 0 ≤ n) (h1 : n < 4096) : one (n / 256).toNat ++ one (n / 16 % 16).toNat ++ one (n % 16).toNat = three n := by
  have e1 : (n / 256).toNat = n.toNat / 256 := by omega
  have e2 : (n / 16 % 16).toNat = n.toNat / 16 % 16 := by omega
  have e3 : (n % 16).toNat = n.toNat % 16 := by omega
  rw [e1, e2, e3]
  apply ByteArray.ext
  simp [one, three]
theorem ofNat_toNat (b : UInt8) : UInt8.ofNat ((b.toNat : Int)).toNat = b := by simp
theorem three_at (n : Int) (h0 : 0 ≤ n) (h1 : n < 4096) (p : (n / 256 % 16).toNat < D.size) (q : (n / 16 % 16).toNat < D.size) (r : (n % 16).toNat < D.size) :
    strOfNums [(D[(n / 256 % 16).toNat].toNat : Int), (D[(n / 16 % 16).toNat].toNat : Int), (D[(n % 16).toNat].toNat : Int)] = three n := by
  rw [hex_at, hex_at, hex_at]
  simp only [strOfNums, three, List.map_cons, List.map_nil, ofNat_toNat]
  have e1 : (n / 256 % 16).toNat = n.toNat / 256 := by omega
  have e2 : (n / 16 % 16).toNat = n.toNat / 16 % 16 := by omega
  have e3 : (n % 16).toNat = n.toNat % 16 := by omega
  rw [e1, e2, e3]
end Sm
end Go.Proofs.YtjohkmkgmbihkaaDoor
