/- Items by rising keys: plain mathematics; no program is named here. -/
import Derived.WalkKit
import Derived.ProofKit
import Derived.Lib.Bytealg
import Derived.Test.YtjohkmkgmbihkaaDoorSumPlain
namespace Go.Proofs.YtjohkmkgmbihkaaDoor
/-- A key, its value, its height. -/
structure It where
  key : ByteArray
  val : ByteArray
  h : Nat

/-- Byte by byte: below. -/
def lt (a b : ByteArray) : Bool := Op.bytesLess a.toList b.toList
/-- The same bytes. -/
def beq (a b : ByteArray) : Bool := a.toList == b.toList

theorem bl_irrefl : ∀ l : List UInt8, Op.bytesLess l l = false
  | [] => rfl
  | a :: l => by simp [Op.bytesLess, bl_irrefl l]
theorem bl_trans : ∀ a b c : List UInt8, Op.bytesLess a b = true → Op.bytesLess b c = true → Op.bytesLess a c = true
  | _, [], c, h, _ => by simp [Op.bytesLess] at h
  | _, _ :: _, [], _, h => by simp [Op.bytesLess] at h
  | [], _ :: _, _ :: _, _, _ => rfl
  | x :: a, y :: b, z :: c, h, k => by
    simp only [Op.bytesLess, Bool.or_eq_true, Bool.and_eq_true, beq_iff_eq, decide_eq_true_eq] at h k ⊢
    rcases h with h | ⟨rfl, h⟩ <;> rcases k with k | ⟨rfl, k⟩
    · exact .inl (UInt8.lt_trans h k)
    · exact .inl h
    · exact .inl k
    · exact .inr ⟨rfl, bl_trans a b c h k⟩
theorem bl_tri : ∀ a b : List UInt8, Op.bytesLess a b = false → Op.bytesLess b a = false → a = b
  | [], [], _, _ => rfl
  | [], _ :: _, h, _ => by simp [Op.bytesLess] at h
  | _ :: _, [], _, h => by simp [Op.bytesLess] at h
  | x :: a, y :: b, h, k => by
    simp only [Op.bytesLess, Bool.or_eq_false_iff, Bool.and_eq_false_iff, decide_eq_false_iff_not, beq_eq_false_iff_ne] at h k
    have e : x = y := by
      have h1 : ¬ x.toNat < y.toNat := by simpa [UInt8.lt_iff_toNat_lt] using h.1
      have k1 : ¬ y.toNat < x.toNat := by simpa [UInt8.lt_iff_toNat_lt] using k.1
      exact UInt8.toNat_inj.1 (by omega)
    subst e
    rw [bl_tri a b (by rcases h.2 with h | h; exact absurd rfl h; exact h) (by rcases k.2 with h | h; exact absurd rfl h; exact h)]
theorem lt_irrefl (a : ByteArray) : lt a a = false := bl_irrefl _
theorem lt_trans {a b c : ByteArray} (h : lt a b = true) (k : lt b c = true) : lt a c = true := bl_trans _ _ _ h k
theorem toList_inj {a b : ByteArray} (h : a.toList = b.toList) : a = b := by
  rw [ByteArray.toList_eq, ByteArray.toList_eq] at h
  exact ByteArray.ext (Array.toList_inj.1 h)
theorem lt_tri {a b : ByteArray} (h : lt a b = false) (k : lt b a = false) : a = b := toList_inj (bl_tri _ _ h k)
theorem lt_asymm {a b : ByteArray} (h : lt a b = true) : lt b a = false := by
  cases k : lt b a with
  | false => rfl
  | true => have := lt_trans h k; rw [lt_irrefl] at this; cases this
theorem beq_iff {a b : ByteArray} : beq a b = true ↔ a = b := ⟨fun h => toList_inj (by simpa [beq] using h), fun h => by simp [beq, h]⟩
theorem beq_false {a b : ByteArray} : beq a b = false ↔ a ≠ b := by
  have h := beq_iff (a := a) (b := b)
  cases e : beq a b <;> rw [e] at h <;> simp at h ⊢ <;> exact h
theorem beq_self (a : ByteArray) : beq a a = true := beq_iff.2 rfl
theorem not_lt_trans {a b c : ByteArray} (h : lt a b = false) (k : lt b c = false) : lt a c = false := by
  cases q : lt a c with
  | false => rfl
  | true =>
    cases r : lt b a with
    | true => rw [lt_trans r q] at k; cases k
    | false => rw [lt_tri h r] at q; rw [q] at k; cases k

/-- Where a key is, or would be. -/
def plc : List It → ByteArray → Nat
  | [], _ => 0
  | x :: L, k => if lt x.key k then plc L k + 1 else 0
/-- Is there an item with this key at its place? -/
def has (L : List It) (k : ByteArray) : Bool := match L[plc L k]? with | some x => beq x.key k | none => false
/-- By rising keys, each once. -/
def Sorted (L : List It) : Prop := L.Pairwise fun a b => lt a.key b.key = true

theorem plc_cons (x : It) (L : List It) (k : ByteArray) : plc (x :: L) k = if lt x.key k then plc L k + 1 else 0 := rfl
theorem plc_le (L : List It) (k : ByteArray) : plc L k ≤ L.length := by
  induction L with
  | nil => exact Nat.le_refl _
  | cons x L ih => unfold plc; split <;> simp; omega
theorem plc_below {L : List It} {k : ByteArray} {j : Nat} (hj : j < plc L k) (hl : j < L.length) : lt L[j].key k = true := by
  induction L generalizing j with
  | nil => simp at hl
  | cons x L ih =>
    unfold plc at hj
    split at hj
    · cases j with
      | zero => simpa
      | succ j => simpa using ih (by omega) (by simpa using hl)
    · omega
theorem plc_at {L : List It} {k : ByteArray} (hl : plc L k < L.length) : lt (L[plc L k]'hl).key k = false := by
  induction L with
  | nil => simp at hl
  | cons x L ih =>
    by_cases h : lt x.key k = true
    · have e : plc (x :: L) k = plc L k + 1 := by rw [plc_cons, if_pos h]
      simp only [e, List.getElem_cons_succ]
      exact ih (by rw [e] at hl; simpa using hl)
    · have e : plc (x :: L) k = 0 := by rw [plc_cons, if_neg h]
      simp only [e, List.getElem_cons_zero]
      simpa using h
theorem sorted_get {L : List It} (hs : Sorted L) {i j : Nat} (hij : i < j) (hj : j < L.length) : lt (L[i]'(by omega)).key L[j].key = true :=
  List.pairwise_iff_getElem.1 hs i j (by omega) hj hij
/-- In a rising list what lies from the place on is not below. -/
theorem plc_above {L : List It} (hs : Sorted L) {k : ByteArray} {j : Nat} (hj : plc L k ≤ j) (hl : j < L.length) : lt L[j].key k = false := by
  have h0 := plc_at (L := L) (k := k) (by omega)
  by_cases e : plc L k = j
  · subst e; exact h0
  · have h1 := sorted_get hs (show plc L k < j by omega) hl
    exact not_lt_trans (lt_asymm h1) h0
theorem plc_iff {L : List It} (hs : Sorted L) {k : ByteArray} {j : Nat} (hl : j < L.length) : lt L[j].key k = true ↔ j < plc L k := by
  constructor
  · intro h
    by_cases e : j < plc L k
    · exact e
    · rw [plc_above hs (by omega) hl] at h; cases h
  · intro h; exact plc_below h hl
theorem has_iff {L : List It} {k : ByteArray} : has L k = true ↔ ∃ h : plc L k < L.length, (L[plc L k]'h).key = k := by
  unfold has
  by_cases h : plc L k < L.length
  · rw [List.getElem?_eq_getElem h]; simp [h, beq_iff]
  · rw [List.getElem?_eq_none (by omega)]; simp; intro q; omega

/-- A key's item, put. -/
def put (L : List It) (x : It) : List It := L.take (plc L x.key) ++ x :: L.drop (if has L x.key then plc L x.key + 1 else plc L x.key)
/-- A key's item, taken out. -/
def del (L : List It) (k : ByteArray) : List It := L.take (plc L k) ++ L.drop (plc L k + 1)

theorem put_set {L : List It} {x : It} (h : has L x.key = true) : put L x = L.set (plc L x.key) x := by
  obtain ⟨q, _⟩ := has_iff.1 h
  unfold put
  rw [if_pos h, List.set_eq_take_append_cons_drop, if_pos q]
theorem put_new {L : List It} {x : It} (h : has L x.key = false) : put L x = L.take (plc L x.key) ++ x :: L.drop (plc L x.key) := by
  unfold put
  rw [if_neg (by simp [h])]
theorem put_length (L : List It) (x : It) : (put L x).length = if has L x.key then L.length else L.length + 1 := by
  by_cases h : has L x.key = true
  · rw [put_set h, if_pos h]; simp
  · rw [put_new (by simpa using h), if_neg h]; have := plc_le L x.key; simp; omega
theorem del_length {L : List It} {k : ByteArray} (h : has L k = true) : (del L k).length = L.length - 1 := by
  obtain ⟨q, _⟩ := has_iff.1 h
  simp [del]; omega

theorem take_sorted {L : List It} (hs : Sorted L) (n : Nat) : Sorted (L.take n) := List.Pairwise.sublist (List.take_sublist _ _) hs
theorem drop_sorted {L : List It} (hs : Sorted L) (n : Nat) : Sorted (L.drop n) := List.Pairwise.sublist (List.drop_sublist _ _) hs
theorem del_sorted {L : List It} (hs : Sorted L) (k : ByteArray) : Sorted (del L k) := by
  refine List.Pairwise.sublist ?_ hs
  have h : (L.drop (plc L k + 1)).Sublist (L.drop (plc L k)) := by rw [← List.drop_drop]; exact List.drop_sublist _ _
  have := List.Sublist.append (List.Sublist.refl (L.take (plc L k))) h
  rwa [List.take_append_drop] at this
theorem put_sorted {L : List It} (hs : Sorted L) (x : It) : Sorted (put L x) := by
  have hlow : ∀ a ∈ L.take (plc L x.key), lt a.key x.key = true := by
    intro a ha
    obtain ⟨i, hi, rfl⟩ := List.mem_iff_getElem.1 ha
    rw [List.length_take] at hi
    rw [List.getElem_take]
    exact plc_below (by omega) _
  have hhigh : ∀ a ∈ L.drop (if has L x.key then plc L x.key + 1 else plc L x.key), lt x.key a.key = true := by
    intro a ha
    obtain ⟨i, hi, rfl⟩ := List.mem_iff_getElem.1 ha
    rw [List.getElem_drop]
    rw [List.length_drop] at hi
    by_cases h : has L x.key = true
    · simp only [h, if_true] at hi ⊢
      obtain ⟨q, e⟩ := has_iff.1 h
      have := sorted_get hs (show plc L x.key < plc L x.key + 1 + i by omega) (by omega)
      rwa [e] at this
    · simp only [h] at hi ⊢
      have h1 := plc_above hs (k := x.key) (j := plc L x.key + i) (by omega) (by simpa using (by simp at hi; omega))
      cases q : lt x.key (L[plc L x.key + i]'(by simp at hi; omega)).key with
      | true => simpa using q
      | false =>
        exfalso
        have e := lt_tri h1 q
        have i0 : i = 0 := by
          refine Classical.byContradiction fun hn => ?_
          have := sorted_get hs (show plc L x.key < plc L x.key + i by omega) (by simp at hi; omega)
          have h2 := plc_at (L := L) (k := x.key) (by simp at hi; omega)
          rw [e, h2] at this; cases this
        subst i0
        exact h (has_iff.2 ⟨by simp at hi; omega, e⟩)
  unfold put Sorted
  rw [List.pairwise_append]
  refine ⟨take_sorted hs _, ?_, ?_⟩
  · rw [List.pairwise_cons]
    exact ⟨hhigh, drop_sorted hs _⟩
  · intro a ha b hb
    rcases List.mem_cons.1 hb with rfl | hb
    · exact hlow a ha
    · exact lt_trans (hlow a ha) (hhigh b hb)

/-- What the program's three-way comparison says. -/
def cmp (a b : ByteArray) : Int := Lib.compareBytes a.data.toList b.data.toList
theorem cb_lt : ∀ a b : List UInt8, Lib.compareBytes a b < 0 ↔ Op.bytesLess a b = true
  | [], [] => by simp [Lib.compareBytes, Op.bytesLess]
  | [], _ :: _ => by simp [Lib.compareBytes, Op.bytesLess]
  | _ :: _, [] => by simp [Lib.compareBytes, Op.bytesLess]
  | x :: a, y :: b => by
    unfold Lib.compareBytes Op.bytesLess
    by_cases h : x < y
    · simp [h]
    · by_cases k : y < x
      · have : ¬ x = y := by rintro rfl; exact h k
        simp [h, k, this]
      · have : x = y := UInt8.toNat_inj.1 (by rw [UInt8.lt_iff_toNat_lt] at h k; omega)
        subst this
        simp [h, cb_lt a b]
theorem cb_eq : ∀ a b : List UInt8, Lib.compareBytes a b = 0 ↔ a = b
  | [], [] => by simp [Lib.compareBytes]
  | [], _ :: _ => by simp [Lib.compareBytes]
  | _ :: _, [] => by simp [Lib.compareBytes]
  | x :: a, y :: b => by
    unfold Lib.compareBytes
    by_cases h : x < y
    · have : ¬ x = y := by rintro rfl; exact UInt8.lt_irrefl _ h
      simp [h, this]
    · by_cases k : y < x
      · have : ¬ x = y := by rintro rfl; exact h k
        simp [h, k, this]
      · have : x = y := UInt8.toNat_inj.1 (by rw [UInt8.lt_iff_toNat_lt] at h k; omega)
        subst this
        simp [h, cb_eq a b]
theorem cmp_lt {a b : ByteArray} : cmp a b < 0 ↔ lt a b = true := by
  unfold cmp lt; rw [cb_lt, ByteArray.toList_eq, ByteArray.toList_eq]
theorem cmp_eq {a b : ByteArray} : cmp a b = 0 ↔ a = b := by
  unfold cmp; rw [cb_eq]; exact ⟨fun h => ByteArray.ext (Array.toList_inj.1 h), fun h => by rw [h]⟩

/-- An item's cells. -/
def It.cells (x : It) : List Value := [.string x.key, .string x.val, .int .i64 x.h]
/-- A list's cells. -/
def cellsOf (L : List It) : List Value := L.flatMap It.cells
theorem cellsOf_length (L : List It) : (cellsOf L).length = L.length * 3 := by
  induction L with
  | nil => rfl
  | cons x L ih => simp [cellsOf, List.flatMap_cons, It.cells] at ih ⊢; omega
theorem cellsOf_append (A B : List It) : cellsOf (A ++ B) = cellsOf A ++ cellsOf B := by simp [cellsOf]
theorem cellsOf_cons (x : It) (B : List It) : cellsOf (x :: B) = x.cells ++ cellsOf B := by simp [cellsOf]
theorem cellsOf_get (L : List It) (i : Nat) (h : i < L.length) : (cellsOf L)[i * 3]? = some (.string L[i].key) ∧ (cellsOf L)[i * 3 + 1]? = some (.string L[i].val) ∧ (cellsOf L)[i * 3 + 2]? = some (.int .i64 L[i].h) := by
  induction L generalizing i with
  | nil => simp at h
  | cons x L ih =>
    cases i with
    | zero => simp [cellsOf, It.cells]
    | succ i =>
      have := ih i (by simpa using h)
      have e : ∀ j, (cellsOf (x :: L))[(i + 1) * 3 + j]? = (cellsOf L)[i * 3 + j]? := by
        intro j
        rw [cellsOf_cons, List.getElem?_append_right (by simp [It.cells]; omega)]
        congr 1
        simp [It.cells]; omega
      refine ⟨?_, ?_, ?_⟩
      · have := e 0; simp only [Nat.add_zero] at this; rw [this]; simpa using (ih i (by simpa using h)).1
      · rw [e 1]; simpa using (ih i (by simpa using h)).2.1
      · rw [e 2]; simpa using (ih i (by simpa using h)).2.2
theorem cellsOf_take (L : List It) (n : Nat) : cellsOf (L.take n) = (cellsOf L).take (n * 3) := by
  induction L generalizing n with
  | nil => simp [cellsOf]
  | cons x L ih =>
    cases n with
    | zero => simp [cellsOf]
    | succ n =>
      rw [List.take_succ_cons, cellsOf_cons, cellsOf_cons, ih]
      have e : (n + 1) * 3 = x.cells.length + n * 3 := by simp [It.cells]; omega
      rw [e, List.take_length_add_append]
theorem cellsOf_drop (L : List It) (n : Nat) : cellsOf (L.drop n) = (cellsOf L).drop (n * 3) := by
  induction L generalizing n with
  | nil => simp [cellsOf]
  | cons x L ih =>
    cases n with
    | zero => simp [cellsOf]
    | succ n =>
      rw [List.drop_succ_cons, cellsOf_cons, ih]
      have e : (n + 1) * 3 = x.cells.length + n * 3 := by simp [It.cells]; omega
      rw [e, List.drop_length_add_append]
/-- A pair's cells. -/
def It.pair (x : It) : List Value := [.string x.key, .string x.val]
/-- A list's pairs. -/
def pairsOf (L : List It) : List Value := L.flatMap It.pair
theorem pairsOf_length (L : List It) : (pairsOf L).length = L.length * 2 := by
  induction L with
  | nil => rfl
  | cons x L ih => simp [pairsOf, List.flatMap_cons, It.pair] at ih ⊢; omega
theorem pairsOf_append (A B : List It) : pairsOf (A ++ B) = pairsOf A ++ pairsOf B := by simp [pairsOf]
theorem pairsOf_cons (x : It) (B : List It) : pairsOf (x :: B) = x.pair ++ pairsOf B := by simp [pairsOf]
end Go.Proofs.YtjohkmkgmbihkaaDoor
