/- Books that hold the same are the same list, by whatever way it came: no program. -/
import Derived.Test.YtjohkmkgmbihkaaKeepE
namespace Go.Proofs.Ytjohkmkgmbihkaa
set_option linter.unusedVariables false

theorem lt_ne {a b : ByteArray} (h : lt a b = true) : a ≠ b := fun e => by rw [e, lt_irrefl] at h; cases h
theorem key_get {L : List It} (hs : Sorted L) {i j : Nat} (hi : i < L.length) (hj : j < L.length) (hk : L[i].key = L[j].key) : i = j := by
  rcases Nat.lt_trichotomy i j with h | h | h
  · exact absurd hk (lt_ne (sorted_get hs h hj))
  · exact h
  · exact absurd hk.symm (lt_ne (sorted_get hs h hi))
/-- The key at its place. -/
theorem at_plc {L : List It} (hs : Sorted L) {i : Nat} (hi : i < L.length) : i = plc L L[i].key := by
  have h1 : ¬ i < plc L L[i].key := fun h => by
    have := plc_below h hi
    rw [lt_irrefl] at this; cases this
  have h2 : ¬ plc L L[i].key < i := fun h => by
    have hq : plc L L[i].key < L.length := by omega
    have := plc_at hq
    rw [sorted_get hs h hi] at this; cases this
  omega
theorem has_mem {L : List It} (hs : Sorted L) {y : It} (hy : y ∈ L) : has L y.key = true := by
  obtain ⟨i, hi, rfl⟩ := List.mem_iff_getElem.1 hy
  have e := at_plc hs hi
  refine has_iff.2 ⟨by omega, ?_⟩
  congr 1
  exact getElem_congr rfl e.symm (by omega)
theorem mem_put_iff {L : List It} (hs : Sorted L) (x y : It) : y ∈ put L x ↔ y = x ∨ (y ∈ L ∧ y.key ≠ x.key) := by
  constructor
  · intro h
    rcases mem_put h with e | hy
    · exact .inl e
    · by_cases hk : y.key = x.key
      · left
        obtain ⟨i, hi, e1⟩ := List.mem_iff_getElem.1 h
        have hx : x ∈ put L x := by unfold put; simp
        obtain ⟨j, hj, e2⟩ := List.mem_iff_getElem.1 hx
        have hps := put_sorted hs x
        have : i = j := key_get hps hi hj (by rw [e1, e2]; exact hk)
        subst this
        exact e1.symm.trans e2
      · exact .inr ⟨hy, hk⟩
  · rintro (rfl | ⟨hy, hk⟩)
    · unfold put; simp
    · obtain ⟨i, hi, rfl⟩ := List.mem_iff_getElem.1 hy
      cases hh : has L x.key with
      | true =>
        rw [put_set hh]
        obtain ⟨q, e⟩ := has_iff.1 hh
        have hne : plc L x.key ≠ i := fun e' => hk (by rw [← e]; congr 1; exact getElem_congr rfl e'.symm (by omega))
        refine List.mem_iff_getElem.2 ⟨i, by simpa using hi, ?_⟩
        rw [List.getElem_set_ne hne]
      | false =>
        rw [put_new hh]
        by_cases hlt : i < plc L x.key
        · exact List.mem_append.2 (.inl (List.mem_take_iff_getElem.2 ⟨i, by omega, rfl⟩))
        · exact List.mem_append.2 (.inr (List.mem_cons.2 (.inr (List.mem_drop_iff_getElem.2 ⟨i - plc L x.key, by omega, by congr 1; omega⟩))))
theorem mem_del_iff {L : List It} (hs : Sorted L) {k : ByteArray} (hh : has L k = true) (y : It) : y ∈ del L k ↔ y ∈ L ∧ y.key ≠ k := by
  obtain ⟨q, e⟩ := has_iff.1 hh
  unfold del
  rw [List.mem_append, List.mem_take_iff_getElem, List.mem_drop_iff_getElem]
  constructor
  · rintro (⟨i, hi, rfl⟩ | ⟨i, hi, rfl⟩)
    · refine ⟨List.getElem_mem _, fun hk => ?_⟩
      have := key_get hs (by omega) q (hk.trans e.symm)
      omega
    · refine ⟨List.getElem_mem _, fun hk => ?_⟩
      have := key_get hs (by omega) q (hk.trans e.symm)
      omega
  · rintro ⟨hy, hk⟩
    obtain ⟨i, hi, rfl⟩ := List.mem_iff_getElem.1 hy
    have hne : i ≠ plc L k := fun e' => hk (by rw [← e]; congr 1; exact getElem_congr rfl e' (by omega))
    by_cases hlt : i < plc L k
    · exact .inl ⟨i, by omega, rfl⟩
    · exact .inr ⟨i - (plc L k + 1), by omega, by congr 1; omega⟩
theorem mem_delL_iff {L : List It} (hs : Sorted L) {k : ByteArray} (hk : keyB k = true) (y : It) : y ∈ delL L k ↔ y ∈ L ∧ y.key ≠ k := by
  unfold delL
  cases hh : has L k with
  | true => rw [if_pos (by simp [hk])]; exact mem_del_iff hs hh y
  | false =>
    rw [if_neg (by simp)]
    exact ⟨fun hy => ⟨hy, fun e => by rw [← e, has_mem hs hy] at hh; cases hh⟩, fun h => h.1⟩
theorem sorted_ext : ∀ {L M : List It}, Sorted L → Sorted M → (∀ x, x ∈ L ↔ x ∈ M) → L = M
  | [], [], _, _, _ => rfl
  | [], y :: M, _, _, h => absurd ((h y).2 List.mem_cons_self) (by simp)
  | x :: L, [], _, _, h => absurd ((h x).1 List.mem_cons_self) (by simp)
  | x :: L, y :: M, hl, hm, h => by
    obtain ⟨hl1, hl2⟩ := List.pairwise_cons.1 hl
    obtain ⟨hm1, hm2⟩ := List.pairwise_cons.1 hm
    have exy : x = y := by
      rcases List.mem_cons.1 ((h x).1 List.mem_cons_self) with e | hx
      · exact e
      · rcases List.mem_cons.1 ((h y).2 List.mem_cons_self) with e | hy
        · exact e.symm
        · have h1 := hm1 x hx
          have h2 := hl1 y hy
          rw [lt_asymm h1] at h2; cases h2
    subst exy
    rw [sorted_ext hl2 hm2 (fun z => ?_)]
    constructor
    · intro hz
      rcases List.mem_cons.1 ((h z).1 (List.mem_cons_of_mem _ hz)) with e | hz'
      · subst e; have := hl1 z hz; rw [lt_irrefl] at this; cases this
      · exact hz'
    · intro hz
      rcases List.mem_cons.1 ((h z).2 (List.mem_cons_of_mem _ hz)) with e | hz'
      · subst e; have := hm1 z hz; rw [lt_irrefl] at this; cases this
      · exact hz'

/-- y is the last of its key. -/
def LastOf (xs : List It) (y : It) : Prop := ∃ a b, xs = a ++ y :: b ∧ ∀ x ∈ b, x.key ≠ y.key
def puts (L : List It) (xs : List It) : List It := xs.foldl put L
theorem puts_sorted {L : List It} (hs : Sorted L) (xs : List It) : Sorted (puts L xs) := by
  induction xs generalizing L with
  | nil => exact hs
  | cons x xs ih => exact ih (put_sorted hs x)
theorem mem_puts {L : List It} (hs : Sorted L) (xs : List It) (y : It) : y ∈ puts L xs ↔ LastOf xs y ∨ (y ∈ L ∧ ∀ x ∈ xs, x.key ≠ y.key) := by
  induction xs generalizing L with
  | nil =>
    constructor
    · intro h; exact .inr ⟨h, fun x hx => by cases hx⟩
    · rintro (⟨a, b, e, _⟩ | h)
      · simp at e
      · exact h.1
  | cons x xs ih =>
    show y ∈ puts (put L x) xs ↔ _
    rw [ih (put_sorted hs x), mem_put_iff hs]
    constructor
    · rintro (⟨a, b, e, h⟩ | ⟨e | ⟨h1, h2⟩, h⟩)
      · exact .inl ⟨x :: a, b, by rw [e]; rfl, h⟩
      · subst e; exact .inl ⟨[], xs, rfl, h⟩
      · exact .inr ⟨h1, fun z hz => by rcases List.mem_cons.1 hz with rfl | hz; exact fun e => h2 e.symm; exact h z hz⟩
    · rintro (⟨a, b, e, h⟩ | ⟨h1, h2⟩)
      · cases a with
        | nil =>
          simp only [List.nil_append, List.cons.injEq] at e
          obtain ⟨rfl, rfl⟩ := e
          exact .inr ⟨.inl rfl, h⟩
        | cons c a =>
          simp only [List.cons_append, List.cons.injEq] at e
          exact .inl ⟨a, b, e.2, h⟩
      · exact .inr ⟨.inr ⟨h1, fun e => h2 x List.mem_cons_self e.symm⟩, fun z hz => h2 z (List.mem_cons_of_mem _ hz)⟩
theorem LastOf.mem {xs : List It} {y : It} (h : LastOf xs y) : y ∈ xs := by
  obtain ⟨a, b, rfl, _⟩ := h; simp
def dels (L : List It) (ks : List ByteArray) : List It := ks.foldl delL L
theorem delL_sorted {L : List It} (hs : Sorted L) (k : ByteArray) : Sorted (delL L k) := by
  unfold delL; split
  · exact del_sorted hs k
  · exact hs
theorem dels_sorted {L : List It} (hs : Sorted L) (ks : List ByteArray) : Sorted (dels L ks) := by
  induction ks generalizing L with
  | nil => exact hs
  | cons x xs ih => exact ih (delL_sorted hs x)
theorem mem_dels {L : List It} (hs : Sorted L) (ks : List ByteArray) (hk : ∀ k ∈ ks, keyB k = true) (y : It) : y ∈ dels L ks ↔ y ∈ L ∧ ∀ k ∈ ks, y.key ≠ k := by
  induction ks generalizing L with
  | nil => simp [dels]
  | cons x xs ih =>
    show y ∈ dels (delL L x) xs ↔ _
    rw [ih (delL_sorted hs x) (fun k h => hk k (List.mem_cons_of_mem _ h)), mem_delL_iff hs (hk x List.mem_cons_self)]
    simp only [List.mem_cons, forall_eq_or_imp]
    exact ⟨fun ⟨⟨a, b⟩, c⟩ => ⟨a, b, c⟩, fun ⟨a, b, c⟩ => ⟨⟨a, b⟩, c⟩⟩
/-- What came in another way, with more put and taken out again. -/
theorem shaped_eq (xs zs : List It) (hz : ∀ z ∈ zs, keyB z.key = true) (hd : ∀ x ∈ xs, ∀ z ∈ zs, x.key ≠ z.key) :
    dels (puts (puts [] zs) (puts [] xs).reverse) (zs.map It.key) = puts [] xs := by
  have hn : Sorted [] := List.Pairwise.nil
  have hA := puts_sorted hn xs
  have hB := puts_sorted (puts_sorted hn zs) (puts [] xs).reverse
  have inA : ∀ y, y ∈ puts [] xs → y ∈ xs := fun y hy => by
    rcases (mem_puts hn xs y).1 hy with h | ⟨h, _⟩
    · exact h.mem
    · cases h
  refine sorted_ext (dels_sorted hB _) hA fun y => ?_
  rw [mem_dels hB _ (fun k hk => by obtain ⟨z, hz', rfl⟩ := List.mem_map.1 hk; exact hz z hz'), mem_puts (puts_sorted hn zs)]
  constructor
  · rintro ⟨h | ⟨h, h'⟩, hk⟩
    · simpa using h.mem
    · rcases (mem_puts hn zs y).1 h with h2 | ⟨h2, _⟩
      · exact absurd rfl (hk y.key (List.mem_map.2 ⟨y, h2.mem, rfl⟩))
      · cases h2
  · intro hy
    refine ⟨.inl ?_, fun k hk => ?_⟩
    · obtain ⟨s, t, e⟩ := List.append_of_mem hy
      refine ⟨t.reverse, s.reverse, by rw [e]; simp, fun x hx => ?_⟩
      have hx' : x ∈ s := by simpa using hx
      have hp : (s ++ y :: t).Pairwise fun a b => lt a.key b.key = true := by rw [← e]; exact hA
      exact lt_ne ((List.pairwise_append.1 hp).2.2 x hx' y List.mem_cons_self)
    · obtain ⟨z, hz', rfl⟩ := List.mem_map.1 hk
      exact hd y (inA y hy) z hz'
/-- The height that goes with a key: the last one's. -/
def hOf (xs : List It) (k : ByteArray) : Nat := xs.foldl (fun h x => if x.key = k then x.h else h) 0
theorem hOf_last {xs : List It} {y : It} (h : LastOf xs y) : hOf xs y.key = y.h := by
  obtain ⟨a, b, rfl, hb⟩ := h
  unfold hOf
  rw [List.foldl_append, List.foldl_cons, if_pos rfl]
  generalize y.h = n
  induction b with
  | nil => rfl
  | cons x b ih =>
    rw [List.foldl_cons, if_neg (hb x List.mem_cons_self)]
    exact ih (fun z hz => hb z (List.mem_cons_of_mem _ hz))
theorem kx_ne (a b : ByteArray) : (⟨#[107]⟩ ++ a : ByteArray) ≠ ⟨#[120]⟩ ++ b := by
  intro h
  have := congrArg (fun x : ByteArray => x.data.toList.head?) h
  simp at this
end Go.Proofs.Ytjohkmkgmbihkaa
