/- The walks of the tree: Of. -/
import Derived.Test.YtjohkmkgmbihkaaDoorTreeB
namespace Go.Proofs.YtjohkmkgmbihkaaDoor
set_option linter.unusedVariables false
open Go.ChangeShapes Go.WideShapes Go.ChangeAt Go.RowKit
attribute [local go_sem ↓] Go.wp_at_zero Go.wp_at_succ

theorem set_far (w : World) (b i j : Nat) (u : Value) (hij : i ≠ j) {v : Value} (h : w.cell? ⟨b, j, none⟩ = some v) : (w.setCell ⟨b, i, none⟩ u).cell? ⟨b, j, none⟩ = some v := by
  exact (World.cell?_setCell_other _ _ _ _ (by intro q; injection q; omega)).trans h
theorem Good.small {L : List It} (h : Good L) : Small L := fun x hx => by
  obtain ⟨h1, h2, h3⟩ := h.2.2 x hx
  simp [keyB, valB] at h1 h2
  exact ⟨h1.2, h2, h3⟩
end Go.Proofs.YtjohkmkgmbihkaaDoor
