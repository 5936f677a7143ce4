/- The walks of the book: asking it. -/
import Derived.Test.YtjohkmkgmbihkaaDoorBookA
namespace Go.Proofs.YtjohkmkgmbihkaaDoor
set_option linter.unusedVariables false
open Go.ChangeShapes Go.WideShapes Go.ChangeAt Go.RowKit

/-- What Get answers. -/
def getE (L : List It) (k : ByteArray) : Int := if keyB k then if has L k then 0 else 5 else 1
def getV (L : List It) (k : ByteArray) : ByteArray := if keyB k then if has L k then ((L[plc L k]?).map It.val).getD ⟨#[]⟩ else ⟨#[]⟩ else ⟨#[]⟩
theorem ret_si {a c : ByteArray} {b d : Int} (h : a = c) (q : b = d) : Ending.returned (.tuple #[.string a, .int .i64 b]) = .returned (.tuple #[.string c, .int .i64 d]) := by rw [h, q]

end Go.Proofs.YtjohkmkgmbihkaaDoor
