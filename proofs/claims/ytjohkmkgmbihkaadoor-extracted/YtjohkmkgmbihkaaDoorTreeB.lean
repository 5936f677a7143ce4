/- The walks of the tree: its node, its making. -/
import Derived.Test.YtjohkmkgmbihkaaDoorTreeA
namespace Go.Proofs.YtjohkmkgmbihkaaDoor
set_option linter.unusedVariables false
open Go.ChangeShapes Go.WideShapes Go.ChangeAt Go.RowKit
attribute [local go_sem ↓] Go.wp_at_zero Go.wp_at_succ

/-- A tree in memory. -/
inductive Tr where
  | nil
  | node (b : Nat) (x : It) (l r : Tr) (d : ByteArray)
def Tr.addr : Tr → Option Addr
  | .nil => none
  | .node b _ _ _ _ => some ⟨b, 0, none⟩
def Shape : Tr → List It → Prop
  | .nil, L => L = []
  | .node _ x l r d, L => ∃ h0 : L ≠ [], x = L[top L]'(top_lt h0) ∧ Shape l (L.take (top L)) ∧ Shape r (L.drop (top L + 1)) ∧ d = dig L
set_option maxHeartbeats 400000 in
set_option maxRecDepth 100000 in
theorem Text_any (x : It) (l r : ByteArray) (hk : x.key.size ≤ 8) (hv : x.val.size ≤ 20) (hh : x.h ≤ 15) (hl : l.size = 3) (hr : r.size = 3) (w : World) :
    Calls Tryd.prog 31 #[x.val', .string l, .string r] w fun e w' => e = .returned (.string (head x ++ l ++ r)) ∧ Ext w w' := by
  have hs := head_size x
  have n0 : (head x).size ≤ 40 := by omega
  clear hs
  go_enter Tryd.func31, Tryd.ntmps31
  go_wp2_with fail
  refine (Head_any x hk hv hh _).mono ?_
  rintro e w1 ⟨rfl, hx⟩
  go_wp2_with fail
  go_ret
  exact ⟨rfl, ((Ext.refl _).alloc _).trans hx⟩

end Go.Proofs.YtjohkmkgmbihkaaDoor
