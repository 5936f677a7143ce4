/- The walks of the shelf: parts joined into one. -/
import Derived.Test.YtjohkmkgmbihkaaGreatDoorShelfB
import Derived.Test.YtjohkmkgmbihkaaGreatDoorHeap2
namespace Go.Proofs.YtjohkmkgmbihkaaGreatDoor
set_option linter.unusedVariables false
open Go.ChangeShapes Go.WideShapes Go.ChangeAt Go.RowKit

theorem info_of {P : Program} {t : TypeId} {z : Value} {size bytes : Nat} (h : (P.info? t).map (fun i => (i.zero, i.size, i.bytes)) = some (some z, size, bytes)) :
    ∃ i, P.info? t = some i ∧ i.zero = some z ∧ i.size = size ∧ i.bytes = bytes := by
  obtain ⟨i, hi, he⟩ := Option.map_eq_some_iff.1 h
  simp only [Prod.mk.injEq] at he
  exact ⟨i, hi, he.1, he.2.1, he.2.2⟩
/-- An entry's zero. -/
def zEntry : Value := .agg #[.string ⟨#[]⟩, .string ⟨#[]⟩, .int .i64 0]
theorem infoEntry : ∃ i, Tryz.prog.info? 87 = some i ∧ i.zero = some zEntry ∧ i.size = 3 ∧ i.bytes = 40 := info_of (by kernel_rfl)

set_option maxHeartbeats 400000 in
set_option maxRecDepth 100000 in
theorem Grow_any (n : Nat) (hn : n ≤ 100) (w : World) :
    Calls Tryz.prog 118 #[.slice none 0 0, .int .i64 (n : Int)] w fun e w' => ∃ v, e = .returned v ∧ Ext w w' ∧ w'.ownsRow w.heap.size 87 3 v 0 [] := by
  obtain ⟨i, hi, hz, hs, hb⟩ := infoEntry
  by_cases h0 : n = 0
  · subst h0
    go_enter Tryz.func118, Tryz.ntmps118
    go_wp2_with fail
    go_ret
    exact ⟨_, rfl, Ext.refl _, World.ownsRow_nil _ _ _ _⟩
  · have hr := run_append_zeros (P := Tryz.prog) w 89 3 89 87 i zEntry Tryz.underlying89 Tryz.underlying3 hi hz n (by omega) (by omega) (by omega) (by omega)
    have hC := grownCap_le_maxLen w n 0 87 (by unfold maxLen; omega)
    have hC2 := grownCap_ge w n 0 87
    generalize grownCap w n 0 87 = C at hr hC hC2
    have hsz : (Builtin.zeroCells zEntry.cells n ++ Builtin.zeroCells zEntry.cells (C - n)).size = C * 3 := by
      rw [Array.size_append, size_zeroCells, size_zeroCells]
      have : zEntry.cells.size = 3 := rfl
      rw [this]; omega
    generalize Builtin.zeroCells zEntry.cells n ++ Builtin.zeroCells zEntry.cells (C - n) = Z at hr hsz
    have hown := World.ownsRow_made (base := w.heap.size) (e := 87) (size := 3) w.drew Z C (Nat.le_refl _) hC hsz
    have HO := hid hown
    have HR := hid hr
    have h0' : 0 < n := by omega
    have rs : ∀ w, (Instr.slice 89 (.slice none 0 0) none (some (.int .i64 0)) none).run Tryz.prog w = .ok (.slice none 0 0) w := fun w => cut_h none 0 0 0 (Nat.le_refl _) w
    have rt : ∀ b w, (Instr.slice 89 (.slice (some ⟨b, 0, none⟩) n C) none (some (.int .i64 0)) none).run Tryz.prog w = .ok (.slice (some ⟨b, 0, none⟩) 0 C) w := fun b w => by
      have := cut_h (some ⟨b, 0, none⟩) n C 0 (Nat.zero_le _) w
      simpa [sliced, addr_add] using this
    clear hr hi hz hs hb h0 hown hsz hC hC2
    go_enter Tryz.func118, Tryz.ntmps118
    go_wp2_with (at_builtin; refine wpList_append_run rfl _ _ 89 3 rfl (.slice none 0 0) (.int .i64 (n : Int)) rfl rfl _ _ HR.out ?_)
    go_ret
    exact ⟨_, rfl, (Ext.refl w).drew.alloc _, HO.out⟩
end Go.Proofs.YtjohkmkgmbihkaaGreatDoor
