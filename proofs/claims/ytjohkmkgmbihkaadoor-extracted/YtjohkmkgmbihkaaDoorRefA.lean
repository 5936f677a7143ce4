/- The walks of the document's book: asking it. -/
import Derived.Test.YtjohkmkgmbihkaaDoorKeepD
namespace Go.Proofs.YtjohkmkgmbihkaaDoor
set_option linter.unusedVariables false
open Go.ChangeShapes Go.WideShapes Go.ChangeAt Go.RowKit
attribute [local go_sem ↓] Go.wp_at_zero Go.wp_at_succ

set_option maxHeartbeats 400000 in
set_option maxRecDepth 100000 in
theorem rKey_any (s : ByteArray) (w : World) : Calls Tryd.prog 37 #[.string s] w fun e w' => e = .returned (.bool (keyB s)) ∧ w' = w := by
  by_cases h1 : 1 ≤ s.size
  · by_cases h2 : s.size ≤ 8
    · have e := hid (show keyB s = true by simp [keyB, h1, h2])
      go_enter Tryd.func37, Tryd.ntmps37
      go_wp2
      go_ret
      exact ⟨by rw [e.out]; simp <;> omega, rfl⟩
    · have e := hid (show keyB s = false by simp [keyB]; omega)
      go_enter Tryd.func37, Tryd.ntmps37
      go_wp2
      go_ret
      exact ⟨by rw [e.out]; simp <;> omega, rfl⟩
  · have e := hid (show keyB s = false by simp [keyB]; omega)
    go_enter Tryd.func37, Tryd.ntmps37
    go_wp2
    go_ret
    exact ⟨by rw [e.out]; simp <;> omega, rfl⟩
end Go.Proofs.YtjohkmkgmbihkaaDoor
