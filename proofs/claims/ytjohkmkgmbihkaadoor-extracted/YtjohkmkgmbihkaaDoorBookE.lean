/- The walks of the book: Digest, Prove. -/
import Derived.Test.YtjohkmkgmbihkaaDoorTreeD
namespace Go.Proofs.YtjohkmkgmbihkaaDoor
set_option linter.unusedVariables false
open Go.ChangeShapes Go.WideShapes Go.ChangeAt Go.RowKit
attribute [local go_sem ↓] Go.wp_at_zero Go.wp_at_succ

/-- What is wrong with a question. -/
def askE (lo hi : ByteArray) : Int := if keyB lo && keyB hi then if Op.bytesLess lo.toList hi.toList || lo.toList == hi.toList then 0 else 6 else 1
def proveV (L : List It) (lo hi : ByteArray) : ByteArray := if askE lo hi = 0 then ans lo hi L ⟨#[]⟩ ⟨#[]⟩ else ⟨#[]⟩

set_option maxHeartbeats 400000 in
set_option maxRecDepth 100000 in
theorem Ask_any (lo hi : ByteArray) (w : World) :
    Calls Tryd.prog 11 #[.agg #[.string lo, .string hi]] w fun e w' => e = .returned (.int .i64 (askE lo hi)) ∧ Ext w w' := by
  cases e1 : keyB lo with
  | false =>
    have HF := hid (show askE lo hi = 1 by simp [askE, e1])
    have E1 := hid e1
    clear e1
    go_enter Tryd.func11, Tryd.ntmps11
    go_wp2_with fail
    refine (IsKey_any _ _).mono ?_
    rintro e w1 ⟨rfl, rfl⟩
    rw [E1.out]
    go_wp2_with fail
    go_ret
    exact ⟨ret_int HF.out.symm, (Ext.refl _).alloc _⟩
  | true =>
    cases e2 : keyB hi with
    | false =>
      have HF := hid (show askE lo hi = 1 by simp [askE, e1, e2])
      have E1 := hid e1
      have E2 := hid e2
      clear e1 e2
      go_enter Tryd.func11, Tryd.ntmps11
      go_wp2_with fail
      refine (IsKey_any _ _).mono ?_
      rintro e w1 ⟨rfl, rfl⟩
      rw [E1.out]
      go_wp2_with fail
      refine (IsKey_any _ _).mono ?_
      rintro e w1 ⟨rfl, rfl⟩
      rw [E2.out]
      go_wp2_with fail
      go_ret
      exact ⟨ret_int HF.out.symm, (Ext.refl _).alloc _⟩
    | true =>
      have HF := hid (show askE lo hi = if Op.bytesLess lo.toList hi.toList || lo.toList == hi.toList then 0 else 6 by simp [askE, e1, e2])
      have E1 := hid e1
      have E2 := hid e2
      clear e1 e2
      go_enter Tryd.func11, Tryd.ntmps11
      go_wp2_with fail
      refine (IsKey_any _ _).mono ?_
      rintro e w1 ⟨rfl, rfl⟩
      rw [E1.out]
      go_wp2_with fail
      refine (IsKey_any _ _).mono ?_
      rintro e w1 ⟨rfl, rfl⟩
      rw [E2.out]
      go_wp2_with fail
      all_goals
        go_ret
        rename_i hq
        refine ⟨?_, (Ext.refl _).alloc _⟩
        rw [HF.out]
        simp
        first | (simpa using hq; done) | (intro ha; simpa [ha] using hq)

end Go.Proofs.YtjohkmkgmbihkaaDoor
