/- Shaped: lemmas for the second half of the walk. -/
import Derived.Test.YtjohkmkgmbihkaaShapedB
namespace Go.Proofs.Ytjohkmkgmbihkaa
set_option linter.unusedVariables false
theorem rev_step (Z : List It) {A : List It} {p : Nat} (h : p < A.length) : puts Z (A.reverse.take (A.length - p)) = put (puts Z (A.reverse.take (A.length - (p + 1)))) A[p] := by
  have e : A.length - p = (A.length - (p + 1)) + 1 := by omega
  rw [e, List.take_add_one, List.getElem?_eq_getElem (by rw [List.length_reverse]; omega), List.getElem_reverse]
  have e2 : A.length - 1 - (A.length - (p + 1)) = p := by omega
  simp only [e2, puts, List.foldl_append, Option.toList_some, List.foldl_cons, List.foldl_nil]
theorem hOf_step (ss : List St) {t : Nat} (h : t < ss.length) (k : ByteArray) : hOf ((ss.take (t + 1)).map itK) k = if (itK ss[t]).key = k then (itK ss[t]).h else hOf ((ss.take t).map itK) k := by
  rw [List.take_add_one, List.getElem?_eq_getElem h]
  simp only [hOf, Option.toList_some, List.map_append, List.map_cons, List.map_nil, List.foldl_append, List.foldl_cons, List.foldl_nil]
theorem itK_ok (s : St) : keyB (itK s).key = true ∧ valB (itK s).val = true ∧ hgtB ((itK s).h : Int) = true := by
  refine ⟨pre_key 107 s.key, decide_eq_true (cutB_size s.val 20), ?_⟩
  have := pickN_bd s.h 16 (by omega)
  have e : ((itK s).h : Int) = pickN s.h 16 := Int.toNat_of_nonneg this.1
  rw [e]; exact hgt16 s.h
theorem puts_from {xs : List It} {y : It} (h : y ∈ puts [] xs) : LastOf xs y := by
  rcases (mem_puts List.Pairwise.nil xs y).1 h with h | ⟨h, _⟩
  · exact h
  · cases h
theorem puts_some {xs : List It} (h : (puts [] xs).length = 0) : xs.length = 0 := by
  cases hn : xs with
  | nil => rfl
  | cons x r =>
    exfalso
    have hl : ∃ y, LastOf (x :: r) y := by
      refine ⟨(x :: r).getLast (by simp), (x :: r).dropLast, [], ?_, by simp⟩
      exact (List.dropLast_concat_getLast (by simp)).symm
    obtain ⟨y, hy⟩ := hl
    have := (mem_puts List.Pairwise.nil (x :: r) y).2 (.inl hy)
    rw [← hn, List.eq_nil_of_length_eq_zero h] at this
    cases this
theorem shaped_fin (ss : List St) (j : Nat) : dels (puts (puts [] ((ss.take j).map itX)) (puts [] ((ss.take j).map itK)).reverse) ((ss.take j).map fun s => ⟨#[120]⟩ ++ keyC s.out) = puts [] ((ss.take j).map itK) := by
  have := shaped_eq ((ss.take j).map itK) ((ss.take j).map itX) (fun z hz => by obtain ⟨s, _, rfl⟩ := List.mem_map.1 hz; exact pre_key 120 s.out)
    (fun x hx z hz => by obtain ⟨s, _, rfl⟩ := List.mem_map.1 hx; obtain ⟨t, _, rfl⟩ := List.mem_map.1 hz; exact kx_ne _ _)
  rw [List.map_map] at this
  exact this
theorem dels_step (M : List It) (ss : List St) {t : Nat} (h : t < ss.length) : dels M ((ss.take (t + 1)).map fun s => ⟨#[120]⟩ ++ keyC s.out) = delL (dels M ((ss.take t).map fun s => ⟨#[120]⟩ ++ keyC s.out)) (⟨#[120]⟩ ++ keyC ss[t].out) := by
  rw [List.take_add_one, List.getElem?_eq_getElem h]
  simp only [dels, Option.toList_some, List.map_append, List.map_cons, List.map_nil, List.foldl_append, List.foldl_cons, List.foldl_nil]
theorem dig_x (b : Nat) (L : List It) (w : World) (hB : OnBook w b L) :
    Calls Try.prog 11 #[.pointer (some ⟨b, 0, none⟩)] w fun e w' => e = .returned (.string (dig L)) ∧ Ext w w' := by
  obtain ⟨v, h⟩ := hB; exact Digest_any b v L w h
theorem prove_x (b : Nat) (L : List It) (lo hi : ByteArray) (w : World) (hB : OnBook w b L) :
    Calls Try.prog 13 #[.pointer (some ⟨b, 0, none⟩), .string lo, .string hi] w
      fun e w' => e = .returned (.tuple #[.string (proveV L lo hi), .int .i64 (askE lo hi)]) ∧ Ext w w' := by
  obtain ⟨v, h⟩ := hB; exact Prove_any b v L lo hi w h
end Go.Proofs.Ytjohkmkgmbihkaa
