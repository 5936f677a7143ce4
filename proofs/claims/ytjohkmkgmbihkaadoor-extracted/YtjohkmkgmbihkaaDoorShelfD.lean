/- The walks of the shelf: Concat. -/
import Derived.Test.YtjohkmkgmbihkaaDoorShelfC
namespace Go.Proofs.YtjohkmkgmbihkaaDoor
set_option linter.unusedVariables false
open Go.ChangeShapes Go.WideShapes Go.ChangeAt Go.RowKit

/-- What the parts hold. -/
def flat (ps : List (Value × List It)) : List It := ps.flatMap (·.2)
theorem flat_take (ps : List (Value × List It)) (i : Nat) (h : i < ps.length) : flat (ps.take (i + 1)) = flat (ps.take i) ++ ps[i].2 := by
  unfold flat; rw [List.take_succ_eq_append_getElem h, List.flatMap_append]; simp
theorem flat_take_le (ps : List (Value × List It)) (i : Nat) : (flat (ps.take i)).length ≤ (flat ps).length := by
  have : flat ps = flat (ps.take i) ++ flat (ps.drop i) := by rw [flat, flat, flat, ← List.flatMap_append, List.take_append_drop]
  rw [this]; simp

end Go.Proofs.YtjohkmkgmbihkaaDoor
