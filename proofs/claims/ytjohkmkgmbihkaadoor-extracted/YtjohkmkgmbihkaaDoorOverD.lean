/- What goes over an answer: its pairs, at a node. -/
import Derived.Test.YtjohkmkgmbihkaaDoorOverC
import Derived.Test.YtjohkmkgmbihkaaDoorConc
namespace Go.Proofs.YtjohkmkgmbihkaaDoor
open Go.ChangeShapes Go.WideShapes Go.ChangeAt Go.RowKit
set_option linter.unusedVariables false
/-- The pairs that are asked for. -/
def prsN (lo hi : ByteArray) (x : It) (A B : List Pq) : List Pq := if askB lo hi x.key then A ++ (x.key, x.val) :: B else A ++ B
def prsT (lo hi : ByteArray) : AT → List Pq
  | .empty => []
  | .alone _ => []
  | .node x l r => prsN lo hi x (prsT lo hi l) (prsT lo hi r)
/-- How many nodes. -/
def cnt : AT → Nat
  | .empty => 0
  | .alone _ => 0
  | .node _ l r => cnt l + cnt r + 1
theorem prsT_len (lo hi : ByteArray) : ∀ t, (prsT lo hi t).length ≤ cnt t
  | .empty => by simp [prsT, cnt]
  | .alone _ => by simp [prsT, cnt]
  | .node x l r => by
    have h1 := prsT_len lo hi l
    have h2 := prsT_len lo hi r
    unfold prsT prsN cnt
    split <;> simp <;> omega
theorem n_cells {w : World} {nb : Nat} {x : It} {lp rp : Option Addr} {ls rs : ByteArray} (h : w.heap[nb]? = some (nodeO x lp ls rp rs)) :
    w.cell? ⟨nb, 0, none⟩ = some (.string x.key) ∧ w.cell? ⟨nb, 1, none⟩ = some (.string x.val) ∧ w.cell? ⟨nb, 2, none⟩ = some (.int .i64 x.h) ∧ w.cell? ⟨nb, 3, none⟩ = some (.pointer lp) ∧ w.cell? ⟨nb, 4, none⟩ = some (.string ls) ∧ w.cell? ⟨nb, 5, none⟩ = some (.pointer rp) ∧ w.cell? ⟨nb, 6, none⟩ = some (.string rs) :=
  ⟨cell_of_row _ _ 0 _ _ _ h, cell_of_row _ _ 1 _ _ _ h, cell_of_row _ _ 2 _ _ _ h, cell_of_row _ _ 3 _ _ _ h, cell_of_row _ _ 4 _ _ _ h, cell_of_row _ _ 5 _ _ _ h, cell_of_row _ _ 6 _ _ _ h⟩

end Go.Proofs.YtjohkmkgmbihkaaDoor
