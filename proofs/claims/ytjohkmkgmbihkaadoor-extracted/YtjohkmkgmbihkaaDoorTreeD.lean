/- The walks of the tree: its answers. -/
import Derived.Test.YtjohkmkgmbihkaaDoorTreeC
namespace Go.Proofs.YtjohkmkgmbihkaaDoor
set_option linter.unusedVariables false
open Go.ChangeShapes Go.WideShapes Go.ChangeAt Go.RowKit
attribute [local go_sem ↓] Go.wp_at_zero Go.wp_at_succ

theorem ret_bool {a b : Bool} (h : a = b) : Ending.returned (.bool a) = .returned (.bool b) := by rw [h]
theorem beq_empty (s : ByteArray) : beq s ⟨#[]⟩ = s.toList.isEmpty := by
  have : (⟨#[]⟩ : ByteArray).toList = [] := by rw [ByteArray.toList_eq]
  unfold beq; rw [this]; cases s.toList <;> rfl
theorem mat_eq (lo hi low high : ByteArray) : mat lo hi low high = ((low.toList.isEmpty || Op.bytesLess low.toList hi.toList) && (high.toList.isEmpty || Op.bytesLess lo.toList high.toList)) := by
  simp only [mat, beq_empty, lt]

set_option maxHeartbeats 400000 in
set_option maxRecDepth 100000 in
theorem MatterTo_any (lo hi low high : ByteArray) (w : World) :
    Calls Tryd.prog 25 #[.agg #[.string low, .string high], .agg #[.string lo, .string hi]] w fun e w' => e = .returned (.bool (mat lo hi low high)) ∧ Ext w w' := by
  go_enter Tryd.func25, Tryd.ntmps25
  go_wp2_with fail
  all_goals
    go_ret
    refine ⟨?_, ((Ext.refl _).alloc _).alloc _⟩
    rw [mat_eq]
    simp [*]

set_option maxHeartbeats 400000 in
theorem Left_any (low high k : ByteArray) (w : World) :
    Calls Tryd.prog 63 #[.agg #[.string low, .string high], .string k] w fun e w' => e = .returned (.agg #[.string low, .string k]) ∧ Ext w w' := by
  go_enter Tryd.func63, Tryd.ntmps63
  go_wp2_with fail
  refine bodyPost_ret (v := .agg #[.string low, .string k]) ?_ rfl ⟨rfl, ?_⟩
  · simp [results, Tryd.results63, go_sem]
  · exact ((Ext.refl w).alloc _).alloc _
set_option maxHeartbeats 400000 in
theorem Right_any (low high k : ByteArray) (w : World) :
    Calls Tryd.prog 64 #[.agg #[.string low, .string high], .string k] w fun e w' => e = .returned (.agg #[.string k, .string high]) ∧ Ext w w' := by
  go_enter Tryd.func64, Tryd.ntmps64
  go_wp2_with fail
  refine bodyPost_ret (v := .agg #[.string k, .string high]) ?_ rfl ⟨rfl, ?_⟩
  · simp [results, Tryd.results64, go_sem]
  · exact ((Ext.refl w).alloc _).alloc _

theorem box2 {w w1 : World} {a b c d : Value} {s t : TypeId} (hx : Ext ((w.alloc (.cells #[a, b] s)).alloc (.cells #[c, d] t)) w1) :
    w1.cell? ⟨w.heap.size, 0, none⟩ = some a ∧ w1.cell? ⟨w.heap.size, 1, none⟩ = some b ∧ w1.cell? ⟨w.heap.size + 1, 0, none⟩ = some c ∧ w1.cell? ⟨w.heap.size + 1, 1, none⟩ = some d ∧ Ext w w1 := by
  have e : (w.alloc (.cells #[a, b] s)).heap.size = w.heap.size + 1 := by simp
  obtain ⟨h1, _, _⟩ := box_cells hx
  rw [e] at h1
  obtain ⟨h2, _, _⟩ := box_cells (((Ext.refl (w.alloc (.cells #[a, b] s))).alloc (.cells #[c, d] t)).trans hx)
  exact ⟨h2 0, h2 1, h1 0, h1 1, (((Ext.refl w).alloc _).alloc _).trans hx⟩

end Go.Proofs.YtjohkmkgmbihkaaDoor
