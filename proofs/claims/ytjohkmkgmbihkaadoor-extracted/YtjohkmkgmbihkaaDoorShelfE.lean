/- The walks of the shelf: With, Without, Find, Pairs. -/
import Derived.Test.YtjohkmkgmbihkaaDoorShelfD
namespace Go.Proofs.YtjohkmkgmbihkaaDoor
set_option linter.unusedVariables false
open Go.ChangeShapes Go.WideShapes Go.ChangeAt Go.RowKit

/-- An item as a value. -/
abbrev It.val' (x : It) : Value := .agg #[.string x.key, .string x.val, .int .i64 x.h]
theorem cell_new (w : World) (c : Array Value) (t : TypeId) (j : Nat) : (w.alloc (.cells c t)).cell? ⟨w.heap.size, j, none⟩ = c[j]? := by
  rw [cell_of_row _ w.heap.size j c t (0, 0) (heap_alloc_new w _)]
theorem its_one (w : World) (x : It) (t : TypeId) : Its (w.alloc (.cells #[.string x.key, .string x.val, .int .i64 x.h] t)) (.slice (some ⟨w.heap.size, 0, none⟩) 1 1) [x] := by
  refine ⟨by simp [cellsOf_length], .inr ⟨w.heap.size, 0, 1, rfl, by simp, by simp [maxLen], by simp, ?_⟩⟩
  intro j u hu
  rw [Nat.zero_add, cell_new]
  simpa [cellsOf, It.cells] using hu

theorem owns_base {w : World} {base base' : Nat} {e : TypeId} {size : Nat} {v : Value} {n : Nat} {xs : List Value} (h : w.ownsRow base e size v n xs) (hb : base' ≤ base) : w.ownsRow base' e size v n xs := by
  refine ⟨h.1, ?_⟩
  rcases h.2 with h2 | ⟨g, cap, cur, hv, hg, r⟩
  · exact .inl h2
  · exact .inr ⟨g, cap, cur, hv, by omega, r⟩

theorem put_parts (L : List It) (x : It) : (L.take (plc L x.key)).length + (L.drop (if has L x.key then plc L x.key + 1 else plc L x.key)).length ≤ L.length := by
  have := plc_le L x.key
  simp; split <;> omega

theorem box_cells {w w1 : World} {c : Array Value} {t : TypeId} (hx : Ext (w.alloc (.cells c t)) w1) :
    (∀ j, w1.cell? ⟨w.heap.size, j, none⟩ = c[j]?) ∧ (∀ j, w1.frozen? ⟨w.heap.size, j, none⟩ = false) ∧ w.heap.size < w1.heap.size := by
  have hs : w.heap.size < (w.alloc (.cells c t)).heap.size := by simp
  refine ⟨fun j => (hx.cell (p := ⟨w.heap.size, j, none⟩) hs).trans (cell_new w c t j), fun j => (hx.frozen (p := ⟨w.heap.size, j, none⟩) hs).trans ?_, Nat.lt_of_lt_of_le hs hx.size⟩
  exact frozen_of_row _ _ _ c t (heap_alloc_new w _)

end Go.Proofs.YtjohkmkgmbihkaaDoor
