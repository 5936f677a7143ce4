/- The walks of the shelf: parts joined into one. -/
import Derived.Test.YtjohkmkgmbihkaaDoorShelfA
import Derived.Deep.RegionHeld3
import Derived.Test.YtjohkmkgmbihkaaDoorHeap2
namespace Go.Proofs.YtjohkmkgmbihkaaDoor
set_option linter.unusedVariables false
open Go.ChangeShapes Go.WideShapes Go.ChangeAt Go.RowKit

theorem info_of {P : Program} {t : TypeId} {z : Value} {size bytes : Nat} (h : (P.info? t).map (fun i => (i.zero, i.size, i.bytes)) = some (some z, size, bytes)) :
    ∃ i, P.info? t = some i ∧ i.zero = some z ∧ i.size = size ∧ i.bytes = bytes := by
  obtain ⟨i, hi, he⟩ := Option.map_eq_some_iff.1 h
  simp only [Prod.mk.injEq] at he
  exact ⟨i, hi, he.1, he.2.1, he.2.2⟩
/-- An entry's zero. -/
def zEntry : Value := .agg #[.string ⟨#[]⟩, .string ⟨#[]⟩, .int .i64 0]
theorem infoEntry : ∃ i, Tryd.prog.info? 77 = some i ∧ i.zero = some zEntry ∧ i.size = 3 ∧ i.bytes = 40 := info_of (by kernel_rfl)

end Go.Proofs.YtjohkmkgmbihkaaDoor
