/- The walks of the shelf: where a key is. -/
import Derived.Test.YtjohkmkgmbihkaaDoorRows
import Derived.Test.YtjohkmkgmbihkaaDoorHeap
import Derived.Test.YtjohkmkgmbihkaaDoorSumWalks
import Derived.WalkKit
import Derived.WalkLawsBesides
import Derived.ProofKit
import Derived.OpenShut
import Derived.Deep.QuietTactic
import Derived.BigQuiet
import Derived.Outline
import Derived.Lib.Bytealg
namespace Go.Proofs.YtjohkmkgmbihkaaDoor
set_option linter.unusedVariables false
open Go.ChangeShapes Go.WideShapes Go.ChangeAt Go.RowKit

theorem ret_ib {k : IntKind} {a c : Int} {b d : Bool} (h : a = c) (q : b = d) : Ending.returned (.tuple #[.int k a, .bool b]) = .returned (.tuple #[.int k c, .bool d]) := by rw [h, q]

end Go.Proofs.YtjohkmkgmbihkaaDoor
