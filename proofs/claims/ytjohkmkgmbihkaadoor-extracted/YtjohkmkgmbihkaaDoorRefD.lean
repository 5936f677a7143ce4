/- The walks of the document's book: its answers. -/
import Derived.Test.YtjohkmkgmbihkaaDoorRefC
namespace Go.Proofs.YtjohkmkgmbihkaaDoor
set_option linter.unusedVariables false
open Go.ChangeShapes Go.WideShapes Go.ChangeAt Go.RowKit
attribute [local go_sem ↓] Go.wp_at_zero Go.wp_at_succ

set_option maxHeartbeats 400000 in
set_option maxRecDepth 100000 in
theorem rMatters_any (lo hi low high : ByteArray) (w : World) :
    Calls Tryd.prog 39 #[.string lo, .string hi, .string low, .string high] w fun e w' => e = .returned (.bool (mat lo hi low high)) ∧ w' = w := by
  go_enter Tryd.func39, Tryd.ntmps39
  go_wp2_with fail
  all_goals
    go_ret
    refine ⟨?_, rfl⟩
    rw [mat_eq]
    simp [*]

set_option maxHeartbeats 400000 in
set_option maxRecDepth 100000 in
theorem rAsked_any (lo hi : ByteArray) (w : World) :
    Calls Tryd.prog 16 #[.string lo, .string hi] w fun e w' => e = .returned (.int .i64 (askE lo hi)) ∧ w' = w := by
  cases e1 : keyB lo with
  | false =>
    have HF := hid (show askE lo hi = 1 by simp [askE, e1])
    have E1 := hid e1
    clear e1
    go_enter Tryd.func16, Tryd.ntmps16
    go_wp2_with fail
    refine (rKey_any _ _).mono ?_
    rintro e w1 ⟨rfl, rfl⟩
    rw [E1.out]
    go_wp2_with fail
    refine (rKey_any _ _).mono ?_
    rintro e w1 ⟨rfl, rfl⟩
    go_wp2_with fail
    go_ret
    exact ⟨ret_int HF.out.symm, rfl⟩
  | true =>
    cases e2 : keyB hi with
    | false =>
      have HF := hid (show askE lo hi = 1 by simp [askE, e1, e2])
      have E1 := hid e1
      have E2 := hid e2
      clear e1 e2
      go_enter Tryd.func16, Tryd.ntmps16
      go_wp2_with fail
      refine (rKey_any _ _).mono ?_
      rintro e w1 ⟨rfl, rfl⟩
      rw [E1.out]
      go_wp2_with fail
      refine (rKey_any _ _).mono ?_
      rintro e w1 ⟨rfl, rfl⟩
      rw [E2.out]
      go_wp2_with fail
      go_ret
      exact ⟨ret_int HF.out.symm, rfl⟩
    | true =>
      have HF := hid (show askE lo hi = if Op.bytesLess lo.toList hi.toList || lo.toList == hi.toList then 0 else 6 by simp [askE, e1, e2])
      have E1 := hid e1
      have E2 := hid e2
      clear e1 e2
      go_enter Tryd.func16, Tryd.ntmps16
      go_wp2_with fail
      refine (rKey_any _ _).mono ?_
      rintro e w1 ⟨rfl, rfl⟩
      rw [E1.out]
      go_wp2_with fail
      refine (rKey_any _ _).mono ?_
      rintro e w1 ⟨rfl, rfl⟩
      rw [E2.out]
      go_wp2_with fail
      all_goals
        go_ret
        rename_i hq
        refine ⟨?_, rfl⟩
        rw [HF.out]
        simp
        first | (simpa using hq; done) | (intro ha; simpa [ha] using hq)

end Go.Proofs.YtjohkmkgmbihkaaDoor
