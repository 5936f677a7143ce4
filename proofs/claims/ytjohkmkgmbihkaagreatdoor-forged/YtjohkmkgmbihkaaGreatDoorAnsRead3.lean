/- What a book's own answer reads as: plain mathematics. -/
import Derived.Test.YtjohkmkgmbihkaaGreatDoorOverI
namespace Go.Proofs.YtjohkmkgmbihkaaGreatDoor
set_option linter.unusedVariables false
theorem ext_left (a r : ByteArray) : (a ++ r).extract 0 a.size = a := by
  apply ByteArray.ext
  rw [ByteArray.data_extract, ByteArray.data_append]
  show (a.data ++ r.data).extract 0 a.data.size = a.data
  simp
theorem ext_right (a r : ByteArray) : (a ++ r).extract a.size (a ++ r).size = r := by
  apply ByteArray.ext
  rw [ByteArray.data_extract, ByteArray.size_append, ByteArray.data_append]
  show (a.data ++ r.data).extract a.data.size (a.data.size + r.data.size) = r.data
  rw [Array.extract_append]
  rw [Array.extract_empty_of_size_le_start (by exact Nat.le_refl _)]
  simp
theorem tk_app (a r : ByteArray) (n : Nat) (h : a.size = n) : tk (a ++ r) n = some (a, r) := by
  subst h
  unfold tk
  rw [if_neg (by rw [ByteArray.size_append]; omega), ext_left, ext_right]
theorem num_app (n : Nat) (r : ByteArray) (h : n < 256) : num (byte n ++ r) = some (n, r) := by
  unfold num
  rw [if_neg (by rw [ByteArray.size_append, byte_size]; omega)]
  have e1 : (byte n ++ r).extract 1 (byte n ++ r).size = r := ext_right (byte n) r
  have e2 : (byte n ++ r).data.getD 0 0 = UInt8.ofNat n := by
    rw [ByteArray.data_append]
    show (#[UInt8.ofNat n] ++ r.data).getD 0 0 = _
    simp [Array.getD]
  rw [e1, e2]
  congr 2
  simp
  omega
theorem meas_app (k r : ByteArray) (h : k.size < 256) : meas (byte k.size ++ (k ++ r)) = some (k, r) := by
  unfold meas
  rw [num_app _ _ h]
  exact tk_app k r _ rfl
theorem ent_app (x : It) (r : ByteArray) (hf : fault x.key x.val x.h = 0) :
    ent (byte x.key.size ++ (x.key ++ (byte x.val.size ++ (x.val ++ (byte x.h ++ r))))) = some (x, r) := by
  obtain ⟨h1, h2, h3⟩ := fault_small hf
  unfold ent
  rw [meas_app _ _ (by omega)]
  simp only
  rw [meas_app _ _ (by omega)]
  simp only
  rw [num_app _ _ (by omega)]
  simp only
  rw [if_pos hf]
theorem head_app (x : It) (r : ByteArray) : head x ++ r = ⟨#[78]⟩ ++ (byte x.key.size ++ (x.key ++ (byte x.val.size ++ (x.val ++ (byte x.h ++ r))))) := by
  unfold head
  simp only [ByteArray.append_assoc]
/-- The tree that a book's answer tells. -/
def ofF (lo hi : ByteArray) : Nat → List It → ByteArray → ByteArray → AT
  | 0, L, low, high => if mat lo hi low high then .empty else .alone (dig L)
  | n + 1, L, low, high => if mat lo hi low high then match L[top L]? with
      | none => .empty
      | some x => .node x (ofF lo hi n (L.take (top L)) low x.key) (ofF lo hi n (L.drop (top L + 1)) x.key high)
    else .alone (dig L)
theorem ofF_cnt (lo hi : ByteArray) : ∀ (n : Nat) (L : List It) (low high : ByteArray), L.length ≤ n → cnt (ofF lo hi n L low high) ≤ L.length
  | 0, L, low, high, h => by unfold ofF; split <;> simp [cnt]
  | n + 1, L, low, high, h => by
    unfold ofF
    split
    · by_cases h0 : L = []
      · subst h0; simp [cnt]
      · have ht := top_lt h0
        rw [List.getElem?_eq_getElem ht]
        have h1 := ofF_cnt lo hi n (L.take (top L)) low (L[top L]).key (by simp; omega)
        have h2 := ofF_cnt lo hi n (L.drop (top L + 1)) (L[top L]).key high (by simp; omega)
        simp only [List.length_take, List.length_drop] at h1 h2
        simp only [cnt]
        omega
    · simp [cnt]
theorem rdW_E (g : Rdr) (r : ByteArray) (k : Nat) : rdW g (tE ++ r) k = some (.empty, r, k) := by
  unfold rdW
  rw [tk_app tE r 1 rfl]
  have h1 : beq tE ⟨#[78]⟩ = false := by decide +kernel
  have h2 : beq tE ⟨#[69]⟩ = true := by decide +kernel
  simp [h1, h2]
theorem rdW_S (g : Rdr) (d r : ByteArray) (k : Nat) (hd : isDig d = true) (h3 : d.size = 3) : rdW g (tS ++ d ++ r) k = some (.alone d, r, k) := by
  unfold rdW
  rw [ByteArray.append_assoc, tk_app tS _ 1 rfl]
  have h1 : beq tS ⟨#[78]⟩ = false := by decide +kernel
  have h2 : beq tS ⟨#[69]⟩ = false := by decide +kernel
  have h4 : beq tS ⟨#[83]⟩ = true := by decide +kernel
  simp only [h1, h2, h4, if_true, Bool.false_eq_true, if_false]
  unfold rdS
  rw [tk_app d r 3 h3]
  simp [hd]
theorem rdW_N (g : Rdr) (x : It) (r : ByteArray) (k : Nat) (hk : k ≠ 50) (hf : fault x.key x.val x.h = 0) (l q : AT) (s2 s3 : ByteArray) (n2 n3 : Nat) (h1 : g r (k + 1) = some (l, s2, n2)) (h2 : g s2 n2 = some (q, s3, n3)) :
    rdW g (head x ++ r) k = some (.node x l q, s3, n3) := by
  unfold rdW
  rw [head_app, tk_app ⟨#[78]⟩ _ 1 rfl]
  have h0 : beq (⟨#[78]⟩ : ByteArray) ⟨#[78]⟩ = true := by decide +kernel
  simp only [h0, if_true]
  unfold rdN
  rw [if_neg hk, ent_app x r hf]
  simp only [h1, h2]
end Go.Proofs.YtjohkmkgmbihkaaGreatDoor

namespace Go.Proofs.YtjohkmkgmbihkaaGreatDoor
set_option linter.unusedVariables false
theorem hexB_fin : ∀ k : Fin 16, hexB (Sm.hex k.val) = true := by decide +kernel
theorem isDig_sum (s : ByteArray) : isDig (Sm.sum s) = true := by
  obtain ⟨h0, h1⟩ := Sm.num_bd s.data.toList
  unfold Sm.sum
  generalize Sm.num s.data.toList = n at *
  have a := hexB_fin ⟨n.toNat / 256, by omega⟩
  have b := hexB_fin ⟨n.toNat / 16 % 16, by omega⟩
  have c := hexB_fin ⟨n.toNat % 16, by omega⟩
  simp only at a b c
  unfold isDig Sm.three
  simp [a, b, c]
  rfl
theorem isDig_dig (L : List It) : isDig (dig L) = true := by
  by_cases h : L = []
  · subst h; exact isDig_sum _
  · rw [dig_node h]; exact isDig_sum _
theorem rd_ans (lo hi : ByteArray) : ∀ (n : Nat) (L : List It) (low high : ByteArray) (f k : Nat) (rest : ByteArray), L.length ≤ n → (∀ x ∈ L, fault x.key x.val x.h = 0) → cnt (ofF lo hi n L low high) ≤ f → k + cnt (ofF lo hi n L low high) ≤ 50 →
    rd f (ansF lo hi n L low high ++ rest) k = some (ofF lo hi n L low high, rest, k + cnt (ofF lo hi n L low high))
  | 0, L, low, high, f, k, rest, hn, hf, h1, h2 => by
    unfold ansF ofF
    split
    · cases f <;> exact rdW_E _ _ _
    · cases f <;> exact rdW_S _ _ _ _ (isDig_dig L) (dig_size L)
  | n + 1, L, low, high, f, k, rest, hn, hf, h1, h2 => by
    unfold ansF ofF
    unfold ofF at h1 h2
    cases hm : mat lo hi low high with
    | false =>
      simp only [Bool.false_eq_true, if_false]
      cases f <;> exact rdW_S _ _ _ _ (isDig_dig L) (dig_size L)
    | true =>
      rw [hm] at h1 h2
      simp only [if_true] at h1 h2 ⊢
      by_cases h0 : L = []
      · subst h0
        simp only [List.getElem?_nil]
        cases f <;> exact rdW_E _ _ _
      · have ht := top_lt h0
        rw [List.getElem?_eq_getElem ht] at h1 h2 ⊢
        simp only [cnt] at h1 h2 ⊢
        cases f with
        | zero => omega
        | succ f =>
          have i1 := rd_ans lo hi n (L.take (top L)) low (L[top L]).key f (k + 1) (ansF lo hi n (L.drop (top L + 1)) (L[top L]).key high ++ rest) (by simp; omega) (fun x hx => hf x (List.mem_of_mem_take hx)) (by omega) (by omega)
          have i2 := rd_ans lo hi n (L.drop (top L + 1)) (L[top L]).key high f (k + 1 + cnt (ofF lo hi n (L.take (top L)) low (L[top L]).key)) rest (by simp; omega) (fun x hx => hf x (List.mem_of_mem_drop hx)) (by omega) (by omega)
          have := rdW_N (rd f) (L[top L]) _ k (by omega) (hf _ (List.getElem_mem ht)) _ _ _ _ _ _ i1 i2
          rw [ByteArray.append_assoc, ByteArray.append_assoc]
          rw [show rd (f + 1) = rdW (rd f) from rfl, this]
          congr 3
          omega
theorem digT_of (lo hi : ByteArray) : ∀ (n : Nat) (L : List It) (low high : ByteArray), L.length ≤ n → digT (ofF lo hi n L low high) = dig L
  | 0, L, low, high, hn => by
    obtain rfl : L = [] := List.eq_nil_of_length_eq_zero (by omega)
    unfold ofF
    split <;> rfl
  | n + 1, L, low, high, hn => by
    unfold ofF
    split
    · by_cases h0 : L = []
      · subst h0; rfl
      · have ht := top_lt h0
        rw [List.getElem?_eq_getElem ht]
        simp only [digT]
        rw [digT_of lo hi n (L.take (top L)) low _ (by simp; omega), digT_of lo hi n (L.drop (top L + 1)) _ high (by simp; omega), ← dig_node h0]
    · rfl
/-- What a book's answer reads as. -/
def ofL (lo hi : ByteArray) (L : List It) : AT := ofF lo hi L.length L e0 e0
theorem rdA_ans (lo hi : ByteArray) (L : List It) (hf : ∀ x ∈ L, fault x.key x.val x.h = 0) (hn : L.length ≤ 50) : rdA (ans lo hi L e0 e0) = some (ofL lo hi L) := by
  have hc := ofF_cnt lo hi L.length L e0 e0 (Nat.le_refl _)
  have h := rd_ans lo hi L.length L e0 e0 50 0 ⟨#[]⟩ (Nat.le_refl _) hf (by omega) (by omega)
  have e : ansF lo hi L.length L e0 e0 ++ ⟨#[]⟩ = ans lo hi L e0 e0 := by
    apply ByteArray.ext
    rw [ByteArray.data_append]
    simp [ans]
  rw [e] at h
  unfold rdA
  rw [h]
  have hb : beq (⟨#[]⟩ : ByteArray) ⟨#[]⟩ = true := beq_iff.2 rfl
  simp [hb, ofL]
theorem digT_ofL (lo hi : ByteArray) (L : List It) : digT (ofL lo hi L) = dig L := digT_of lo hi _ L _ _ (Nat.le_refl _)
end Go.Proofs.YtjohkmkgmbihkaaGreatDoor

namespace Go.Proofs.YtjohkmkgmbihkaaGreatDoor
set_option linter.unusedVariables false
theorem ask_beq (lo hi k : ByteArray) : askB lo hi k = ((lt lo k || beq lo k) && (lt k hi || beq k hi)) := rfl
theorem not_asked {lo hi low high k : ByteArray} (hm : mat lo hi low high = false) (hh : holdB low high k = true) : askB lo hi k = false := by
  rw [ask_beq]
  unfold holdB at hh
  unfold mat at hm
  rw [Bool.and_eq_true, Bool.or_eq_true, Bool.or_eq_true] at hh
  cases hq : ((lt lo k || beq lo k) && (lt k hi || beq k hi)) with
  | false => rfl
  | true =>
    exfalso
    rw [Bool.and_eq_true, Bool.or_eq_true, Bool.or_eq_true] at hq
    have g1 : (beq low ⟨#[]⟩ || lt low hi) = true := by
      rcases hh.1 with h | h
      · rw [h]; rfl
      · rcases hq.2 with q | q
        · rw [lt_trans h q, Bool.or_true]
        · rw [← beq_iff.1 q, h, Bool.or_true]
    have g2 : (beq high ⟨#[]⟩ || lt lo high) = true := by
      rcases hh.2 with h | h
      · rw [h]; rfl
      · rcases hq.1 with q | q
        · rw [lt_trans q h, Bool.or_true]
        · rw [beq_iff.1 q, h, Bool.or_true]
    rw [g1, g2] at hm
    cases hm
theorem hold_take {L : List It} (hs : Sorted L) {low high : ByteArray} (hh : ∀ x ∈ L, holdB low high x.key = true) {i : Nat} (hi : i < L.length) : ∀ y ∈ L.take i, holdB low L[i].key y.key = true := by
  intro y hy
  obtain ⟨j, hj, rfl⟩ := List.mem_take_iff_getElem.1 hy
  have h1 := hh _ (List.getElem_mem (show j < L.length by omega))
  have h2 := sorted_get hs (show j < i by omega) hi
  unfold holdB at h1 ⊢
  rw [Bool.and_eq_true] at h1 ⊢
  exact ⟨h1.1, by rw [h2, Bool.or_true]⟩
theorem hold_drop {L : List It} (hs : Sorted L) {low high : ByteArray} (hh : ∀ x ∈ L, holdB low high x.key = true) {i : Nat} (hi : i < L.length) : ∀ y ∈ L.drop (i + 1), holdB L[i].key high y.key = true := by
  intro y hy
  obtain ⟨j, hj, rfl⟩ := List.mem_drop_iff_getElem.1 hy
  have h1 := hh _ (List.getElem_mem (show i + 1 + j < L.length by omega))
  have h2 := sorted_get hs (show i < i + 1 + j by omega) (by omega)
  unfold holdB at h1 ⊢
  rw [Bool.and_eq_true] at h1 ⊢
  exact ⟨by rw [h2, Bool.or_true], h1.2⟩
theorem sorted_take {L : List It} (hs : Sorted L) (i : Nat) : Sorted (L.take i) := List.Pairwise.sublist (List.take_sublist i L) hs
theorem sorted_drop {L : List It} (hs : Sorted L) (i : Nat) : Sorted (L.drop i) := List.Pairwise.sublist (List.drop_sublist i L) hs
theorem okT_of (lo hi : ByteArray) : ∀ (n : Nat) (L : List It) (low high : ByteArray), L.length ≤ n → Sorted L → (∀ x ∈ L, holdB low high x.key = true) → okT lo hi (ofF lo hi n L low high) low high = true
  | 0, L, low, high, hn, hs, hh => by
    unfold ofF
    cases hm : mat lo hi low high <;> simp [okT, hm]
  | n + 1, L, low, high, hn, hs, hh => by
    unfold ofF
    cases hm : mat lo hi low high with
    | false => simp [okT, hm]
    | true =>
      simp only [if_true]
      by_cases h0 : L = []
      · subst h0; simp [okT, hm]
      · have ht := top_lt h0
        rw [List.getElem?_eq_getElem ht]
        simp only [okT, hm, hh _ (List.getElem_mem ht), Bool.true_and]
        rw [okT_of lo hi n _ _ _ (by simp; omega) (sorted_take hs _) (hold_take hs hh ht), okT_of lo hi n _ _ _ (by simp; omega) (sorted_drop hs _) (hold_drop hs hh ht)]
        rfl
def askL (lo hi : ByteArray) (L : List It) : List Pq := (L.filter fun x => askB lo hi x.key).map fun x => (x.key, x.val)
theorem askL_none {lo hi low high : ByteArray} (hm : mat lo hi low high = false) {L : List It} (hh : ∀ x ∈ L, holdB low high x.key = true) : askL lo hi L = [] := by
  unfold askL
  rw [List.filter_eq_nil_iff.2 (fun x hx => by rw [not_asked hm (hh x hx)]; simp)]
  rfl
theorem prsT_of (lo hi : ByteArray) : ∀ (n : Nat) (L : List It) (low high : ByteArray), L.length ≤ n → Sorted L → (∀ x ∈ L, holdB low high x.key = true) → prsT lo hi (ofF lo hi n L low high) = askL lo hi L
  | 0, L, low, high, hn, hs, hh => by
    obtain rfl : L = [] := List.eq_nil_of_length_eq_zero (by omega)
    unfold ofF
    split <;> rfl
  | n + 1, L, low, high, hn, hs, hh => by
    unfold ofF
    cases hm : mat lo hi low high with
    | false => rw [if_neg (by simp), askL_none hm hh]; rfl
    | true =>
      simp only [if_true]
      by_cases h0 : L = []
      · subst h0; rfl
      · have ht := top_lt h0
        rw [List.getElem?_eq_getElem ht]
        simp only [prsT]
        rw [prsT_of lo hi n _ _ _ (by simp; omega) (sorted_take hs _) (hold_take hs hh ht), prsT_of lo hi n _ _ _ (by simp; omega) (sorted_drop hs _) (hold_drop hs hh ht)]
        have e : L = L.take (top L) ++ L[top L] :: L.drop (top L + 1) := by
          rw [List.getElem_cons_drop, List.take_append_drop]
        have e2 : askL lo hi L = askL lo hi (L.take (top L) ++ L[top L] :: L.drop (top L + 1)) := congrArg (askL lo hi) e
        rw [e2]
        unfold prsN askL
        rw [List.filter_append, List.filter_cons]
        split
        · simp
        · simp
theorem okT_ofL (lo hi : ByteArray) {L : List It} (hs : Sorted L) : okT lo hi (ofL lo hi L) e0 e0 = true :=
  okT_of lo hi _ L _ _ (Nat.le_refl _) hs (fun x _ => by simp [holdB, beq])
theorem prsT_ofL (lo hi : ByteArray) {L : List It} (hs : Sorted L) : prsT lo hi (ofL lo hi L) = askL lo hi L :=
  prsT_of lo hi _ L _ _ (Nat.le_refl _) hs (fun x _ => by simp [holdB, beq])
end Go.Proofs.YtjohkmkgmbihkaaGreatDoor
