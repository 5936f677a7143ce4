/- What goes over an answer: bounds, and what is asked. -/
import Derived.Test.YtjohkmkgmbihkaaDoorAnsG
import Derived.Test.YtjohkmkgmbihkaaDoorTreeD
namespace Go.Proofs.YtjohkmkgmbihkaaDoor
open Go.ChangeShapes Go.WideShapes Go.ChangeAt Go.RowKit
set_option linter.unusedVariables false
/-- Is a key between two bounds? -/
def holdB (low high k : ByteArray) : Bool := (beq low ⟨#[]⟩ || lt low k) && (beq high ⟨#[]⟩ || lt k high)
theorem hold_eq (low high k : ByteArray) : holdB low high k = ((low.toList.isEmpty || Op.bytesLess low.toList k.toList) && (high.toList.isEmpty || Op.bytesLess k.toList high.toList)) := by
  have := mat_eq k k low high
  unfold mat at this
  exact this
set_option maxHeartbeats 400000 in
theorem Hold_any (low high k : ByteArray) (w : World) :
    Calls Tryd.prog 26 #[.agg #[.string low, .string high], .string k] w fun e w' => e = .returned (.bool (holdB low high k)) ∧ Ext w w' := by
  go_enter Tryd.func26, Tryd.ntmps26
  go_wp2_with fail
  all_goals
    go_ret
    refine ⟨?_, (Ext.refl _).alloc _⟩
    rw [hold_eq]
    simp [*]
/-- Is a key asked for? -/
def askB (lo hi k : ByteArray) : Bool := (Op.bytesLess lo.toList k.toList || lo.toList == k.toList) && (Op.bytesLess k.toList hi.toList || k.toList == hi.toList)
/-- What a fault of an answer is: none, or an error of its kind. -/
def okT (lo hi : ByteArray) : AT → ByteArray → ByteArray → Bool
  | .empty, a, b => mat lo hi a b
  | .alone _, a, b => !mat lo hi a b
  | .node x l r, a, b => mat lo hi a b && holdB a b x.key && okT lo hi l a x.key && okT lo hi r x.key b
def RErr (ok : Bool) (v : Value) : Prop := (ok = true ∧ v = .nilIface) ∨ (ok = false ∧ ErrM v)
theorem q_cells {w : World} {q : Nat} {lo hi : ByteArray} (h : w.heap[q]? = some (.cells #[.string lo, .string hi] 27)) : w.cell? ⟨q, 0, none⟩ = some (.string lo) ∧ w.cell? ⟨q, 1, none⟩ = some (.string hi) :=
  ⟨cell_of_row _ _ 0 _ _ _ h, cell_of_row _ _ 1 _ _ _ h⟩

set_option maxHeartbeats 1000000 in
set_option maxRecDepth 100000 in
theorem FaultE_any (lo hi a b : ByteArray) (q : Nat) (w : World) (hq : w.heap[q]? = some (.cells #[.string lo, .string hi] 27)) :
    Calls Tryd.prog 27 #[.agg #[.string a, .string b], .pointer (some ⟨q, 0, none⟩)] w fun e w' => ∃ v, e = .returned v ∧ Ext w w' ∧ RErr (mat lo hi a b) v := by
  obtain ⟨c0, c1⟩ := q_cells hq
  replace c0 := fun ob => ((Ext.refl w).alloc ob).keep1 c0
  replace c1 := fun ob => ((Ext.refl w).alloc ob).keep1 c1
  cases hm : mat lo hi a b with
  | true =>
    have HM := hid hm
    clear hm
    go_enter Tryd.func27, Tryd.ntmps27
    go_wp2_with fail
    refine (MatterTo_any lo hi a b _).mono ?_
    rintro e w1 ⟨rfl, hx⟩
    rw [HM.out]
    go_wp2_with fail
    go_ret
    exact ⟨_, rfl, ((Ext.refl w).alloc _).trans hx, .inl ⟨rfl, rfl⟩⟩
  | false =>
    have HM := hid hm
    clear hm
    go_enter Tryd.func27, Tryd.ntmps27
    go_wp2_with fail
    refine (MatterTo_any lo hi a b _).mono ?_
    rintro e w1 ⟨rfl, hx⟩
    rw [HM.out]
    go_wp2_with fail
    go_ret
    exact ⟨_, rfl, ((Ext.refl w).alloc _).trans hx, .inr ⟨rfl, Chain.base _⟩⟩

set_option maxHeartbeats 1000000 in
set_option maxRecDepth 100000 in
theorem FaultA_any (lo hi a b d : ByteArray) (q : Nat) (w : World) (hq : w.heap[q]? = some (.cells #[.string lo, .string hi] 27)) :
    Calls Tryd.prog 28 #[.string d, .agg #[.string a, .string b], .pointer (some ⟨q, 0, none⟩)] w fun e w' => ∃ v, e = .returned v ∧ Ext w w' ∧ RErr (!mat lo hi a b) v := by
  obtain ⟨c0, c1⟩ := q_cells hq
  replace c0 := fun ob => ((Ext.refl w).alloc ob).keep1 c0
  replace c1 := fun ob => ((Ext.refl w).alloc ob).keep1 c1
  cases hm : mat lo hi a b with
  | true =>
    have HM := hid hm
    clear hm
    go_enter Tryd.func28, Tryd.ntmps28
    go_wp2_with fail
    refine (MatterTo_any lo hi a b _).mono ?_
    rintro e w1 ⟨rfl, hx⟩
    rw [HM.out]
    go_wp2_with fail
    go_ret
    exact ⟨_, rfl, ((Ext.refl w).alloc _).trans hx, .inr ⟨rfl, Chain.base _⟩⟩
  | false =>
    have HM := hid hm
    clear hm
    go_enter Tryd.func28, Tryd.ntmps28
    go_wp2_with fail
    refine (MatterTo_any lo hi a b _).mono ?_
    rintro e w1 ⟨rfl, hx⟩
    rw [HM.out]
    go_wp2_with fail
    go_ret
    exact ⟨_, rfl, ((Ext.refl w).alloc _).trans hx, .inl ⟨rfl, rfl⟩⟩
end Go.Proofs.YtjohkmkgmbihkaaDoor
