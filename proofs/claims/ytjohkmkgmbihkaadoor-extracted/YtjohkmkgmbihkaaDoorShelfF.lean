/- The walks of the shelf: Pairs. -/
import Derived.Test.YtjohkmkgmbihkaaDoorShelfE
namespace Go.Proofs.YtjohkmkgmbihkaaDoor
set_option linter.unusedVariables false
open Go.ChangeShapes Go.WideShapes Go.ChangeAt Go.RowKit

theorem owns_ext {w w' : World} {base : Nat} {e : TypeId} {size : Nat} {v : Value} {n : Nat} {xs : List Value} (h : w.ownsRow base e size v n xs) (hx : Ext w w') : w'.ownsRow base e size v n xs := by
  refine ⟨h.1, ?_⟩
  rcases h.2 with h2 | ⟨g, cap, cur, hv, hg, hh, r⟩
  · exact .inl h2
  · exact .inr ⟨g, cap, cur, hv, hg, hx.row hh, r⟩
theorem pairs_set (L : List It) (Z : List Value) (k : Nat) (hk : k < L.length) (hZ : Z.length = L.length * 2) :
    ((pairsOf (L.take k) ++ Z.drop (k * 2)).set (k * 2) (.string L[k].key)).set (k * 2 + 1) (.string L[k].val) = pairsOf (L.take (k + 1)) ++ Z.drop ((k + 1) * 2) := by
  have e1 : (pairsOf (L.take k)).length = k * 2 := by rw [pairsOf_length, List.length_take, Nat.min_eq_left (by omega)]
  have e2 : pairsOf (L.take (k + 1)) = pairsOf (L.take k) ++ L[k].pair := by
    rw [List.take_succ_eq_append_getElem hk, pairsOf_append]; simp [pairsOf]
  have e3 : Z.drop (k * 2) = Z[k * 2] :: Z[k * 2 + 1] :: Z.drop ((k + 1) * 2) := by
    rw [List.drop_eq_getElem_cons (by omega), List.drop_eq_getElem_cons (by omega)]
    have : k * 2 + 1 + 1 = (k + 1) * 2 := by omega
    rw [this]
  rw [e2, e3, List.set_append_right _ _ (by omega), List.set_append_right _ _ (by omega), e1]
  have : k * 2 + 1 - k * 2 = 1 := by omega
  simp [this, It.pair]

end Go.Proofs.YtjohkmkgmbihkaaDoor
