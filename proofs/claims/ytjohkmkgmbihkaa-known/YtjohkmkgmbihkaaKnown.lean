/- The document's examples, whichever the number picks, come out as the document says. No condition. -/
import Derived.Test.YtjohkmkgmbihkaaKeepA
namespace Go.Proofs.Ytjohkmkgmbihkaa
set_option linter.unusedVariables false
open Go.ChangeShapes Go.WideShapes Go.ChangeAt Go.RowKit

set_option maxHeartbeats 1000000 in
set_option maxRecDepth 100000 in
theorem Known_1 (c : Int) (hc0 : -9223372036854775808 ≤ c) (hc1 : c ≤ 9223372036854775807) (hp : pickN c 3 = 1) (w : World) :
    Calls Try.prog 4 #[.int .i64 c] w fun e w' => e = .returned (.bool true) ∧ Ext w w' := by
  have q0 := hid (show putE [] ⟨#[107]⟩ ⟨#[118]⟩ 2 = 0 by decide +kernel)
  have q1 := hid (show Sm.sum ⟨#[78, 1, 107, 1, 118, 2, 49, 52, 100, 49, 52, 100]⟩ = dig (putL [] ⟨#[107]⟩ ⟨#[118]⟩ 2) by decide +kernel)
  have q2 := hid (show proveV (putL [] ⟨#[107]⟩ ⟨#[118]⟩ 2) ⟨#[107]⟩ ⟨#[107]⟩ = ⟨#[78, 1, 107, 1, 118, 2, 83, 49, 52, 100, 83, 49, 52, 100]⟩ by decide +kernel)
  have q3 := hid (show proveV (putL [] ⟨#[107]⟩ ⟨#[118]⟩ 2) ⟨#[97]⟩ ⟨#[98]⟩ = ⟨#[78, 1, 107, 1, 118, 2, 69, 83, 49, 52, 100]⟩ by decide +kernel)
  have q4 := hid (show askE ⟨#[107]⟩ ⟨#[107]⟩ = 0 by decide +kernel)
  have q5 := hid (show askE ⟨#[97]⟩ ⟨#[98]⟩ = 0 by decide +kernel)
  have HP := hid hp
  clear hp
  go_enter Try.func4, Try.ntmps4
  go_wp2_with fail
  refine (New_any _).mono ?_
  rintro e w1 ⟨rfl, hx1, hB⟩
  have HB := hid (show OnBook w1 w.heap.size [] from ⟨_, hB⟩)
  clear hB
  go_wp2_with fail
  refine (pick_any c 3 hc0 hc1 (by omega) (by omega) _).mono ?_
  rintro e w' ⟨rfl, rfl⟩
  rw [HP.out]
  go_wp2_with fail
  refine (put_on w.heap.size [] _ _ _ w _ hx1 (Nat.le_refl _) HB.out).mono ?_
  rintro e w2 ⟨rfl, hB, hx2⟩
  rw [q0.out]
  generalize putL [] ⟨#[107]⟩ ⟨#[118]⟩ 2 = L1 at *
  have HB := hid hB
  clear hB
  go_wp2_with fail
  refine (digest_on w.heap.size L1 w _ hx2 HB.out).mono ?_
  rintro e w3 ⟨rfl, hB, hx3⟩
  have HB := hid hB
  clear hB
  go_wp2_with fail
  refine (sum_on _ (by decide) w.heap.size L1 w _ hx3 HB.out).mono ?_
  rintro e w4 ⟨rfl, hB, hx4⟩
  rw [q1.out]
  have HB := hid hB
  clear hB
  go_wp2_with fail
  refine (prove_on w.heap.size L1 _ _ w _ hx4 HB.out).mono ?_
  rintro e w5 ⟨rfl, hB, hx5⟩
  rw [q2.out, q4.out]
  have HB := hid hB
  clear hB
  go_wp2_with fail
  refine (prove_on w.heap.size L1 _ _ w _ hx5 HB.out).mono ?_
  rintro e w6 ⟨rfl, hB, hx6⟩
  rw [q3.out, q5.out]
  clear hB
  go_wp2_with fail
  go_ret
  exact ⟨by simp, hx6⟩

set_option maxHeartbeats 1000000 in
set_option maxRecDepth 100000 in
theorem Known_2 (c : Int) (hc0 : -9223372036854775808 ≤ c) (hc1 : c ≤ 9223372036854775807) (hp : pickN c 3 = 2) (w : World) :
    Calls Try.prog 4 #[.int .i64 c] w fun e w' => e = .returned (.bool true) ∧ Ext w w' := by
  have q0 := hid (show putE [] ⟨#[98]⟩ ⟨#[]⟩ 3 = 0 by decide +kernel)
  have q1 := hid (show putE (putL [] ⟨#[98]⟩ ⟨#[]⟩ 3) ⟨#[97]⟩ ⟨#[]⟩ 1 = 0 by decide +kernel)
  have q2 := hid (show putE (putL (putL [] ⟨#[98]⟩ ⟨#[]⟩ 3) ⟨#[97]⟩ ⟨#[]⟩ 1) ⟨#[99]⟩ ⟨#[]⟩ 1 = 0 by decide +kernel)
  obtain ⟨R, hR⟩ : ∃ R, R = Sm.sum ⟨#[78, 1, 99, 0, 1, 49, 52, 100, 49, 52, 100]⟩ := ⟨_, rfl⟩
  have hRs : R.size = 3 := by rw [hR]; rfl
  have q3 := hid (show proveV (putL (putL (putL [] ⟨#[98]⟩ ⟨#[]⟩ 3) ⟨#[97]⟩ ⟨#[]⟩ 1) ⟨#[99]⟩ ⟨#[]⟩ 1) ⟨#[97]⟩ ⟨#[97]⟩ = ⟨#[78, 1, 98, 0, 3, 78, 1, 97, 0, 1]⟩ ++ ⟨#[83, 49, 52, 100, 83, 49, 52, 100, 83]⟩ ++ R by rw [hR]; decide +kernel)
  have q4 := hid (show proveV (putL (putL (putL [] ⟨#[98]⟩ ⟨#[]⟩ 3) ⟨#[97]⟩ ⟨#[]⟩ 1) ⟨#[99]⟩ ⟨#[]⟩ 1) ⟨#[97]⟩ ⟨#[97, 122]⟩ = ⟨#[78, 1, 98, 0, 3, 78, 1, 97, 0, 1]⟩ ++ ⟨#[83, 49, 52, 100, 69, 83]⟩ ++ R by rw [hR]; decide +kernel)
  have q5 := hid (show askE ⟨#[97]⟩ ⟨#[97]⟩ = 0 by decide +kernel)
  have q6 := hid (show askE ⟨#[97]⟩ ⟨#[97, 122]⟩ = 0 by decide +kernel)
  have HP := hid hp
  have HR := hid hR
  clear hp hR
  go_enter Try.func4, Try.ntmps4
  go_wp2_with fail
  refine (New_any _).mono ?_
  rintro e w1 ⟨rfl, hx1, hB⟩
  have HB := hid (show OnBook w1 w.heap.size [] from ⟨_, hB⟩)
  clear hB
  go_wp2_with fail
  refine (pick_any c 3 hc0 hc1 (by omega) (by omega) _).mono ?_
  rintro e w' ⟨rfl, rfl⟩
  rw [HP.out]
  go_wp2_with fail
  refine (put_on w.heap.size [] _ _ _ w _ hx1 (Nat.le_refl _) HB.out).mono ?_
  rintro e w2 ⟨rfl, hB, hx2⟩
  rw [q0.out]
  generalize putL [] ⟨#[98]⟩ ⟨#[]⟩ 3 = L1 at *
  have HB := hid hB
  clear hB
  go_wp2_with fail
  refine (put_on w.heap.size L1 _ _ _ w _ hx2 (Nat.le_refl _) HB.out).mono ?_
  rintro e w3 ⟨rfl, hB, hx3⟩
  rw [q1.out]
  generalize putL L1 ⟨#[97]⟩ ⟨#[]⟩ 1 = L2 at *
  have HB := hid hB
  clear hB
  go_wp2_with fail
  refine (put_on w.heap.size L2 _ _ _ w _ hx3 (Nat.le_refl _) HB.out).mono ?_
  rintro e w4 ⟨rfl, hB, hx4⟩
  rw [q2.out]
  generalize putL L2 ⟨#[99]⟩ ⟨#[]⟩ 1 = L3 at *
  have HB := hid hB
  clear hB
  go_wp2_with fail
  refine (sum_on _ (by decide) w.heap.size L3 w _ hx4 HB.out).mono ?_
  rintro e w5 ⟨rfl, hB, hx5⟩
  rw [← HR.out]
  have HB := hid hB
  clear hB
  go_wp2_with fail
  refine (prove_on w.heap.size L3 _ _ w _ hx5 HB.out).mono ?_
  rintro e w6 ⟨rfl, hB, hx6⟩
  rw [q3.out, q5.out]
  have HB := hid hB
  clear hB
  go_wp2_with fail
  refine (prove_on w.heap.size L3 _ _ w _ hx6 HB.out).mono ?_
  rintro e w7 ⟨rfl, hB, hx7⟩
  rw [q4.out, q6.out]
  clear hB
  go_wp2_with fail
  go_ret
  exact ⟨by simp, hx7⟩

namespace known
open Go.ChangeMaps (open_string shut_string)
theorem own : ownKnob Try.prog.godebug = none := by kernel_rfl
theorem walk (a0 : Int) (w0 : (Lit.int .i64 a0).wf = true) (w : World) :
    Calls Try.prog 4 #[.int .i64 a0] w fun e w' => e = .returned (.bool true) ∧ Ext w w' := by
  have hb : -9223372036854775808 ≤ a0 ∧ a0 ≤ 9223372036854775807 := bounds_i64 w0
  have hp := pickN_bd a0 3 (by omega)
  by_cases h0 : pickN a0 3 = 0
  · exact Known_0 a0 hb.1 hb.2 h0 w
  · by_cases h1 : pickN a0 3 = 1
    · exact Known_1 a0 hb.1 hb.2 h1 w
    · exact Known_2 a0 hb.1 hb.2 (by omega) w

set_option maxRecDepth 100000 in
theorem lifted (os : Os) (started : os.Started) (H : Type) (enc : TypeId × Value → H) :
    ReturnsInHanded {} Try.checked os 4 .any (Rows.knownSpec.pre6 enc Try.prog Try.f4 Rows.knownRow.domain false) (Rows.knownSpec.post enc Try.prog Try.f4 false true false false) := by
  refine returnsInHanded_of_change (C := Try.checked) own started (by kernel_rfl) Try.func4
    (ChangeSpec.witness6 (enc := enc) (C := Try.checked) false ⟨#[], #[.int .i64 0], []⟩ 8 (by kernel_rfl) (by kernel_rfl) (by kernel_rfl) (by kernel_rfl)) ?_
  intro W base args ds gs before hval0 hW hcnd _
  have hval : ∀ (j : Nat) t v, Try.f4.params[j]? = some t → args[j]? = some v → Value.okWide Try.prog W .any base t v := hval0
  have hW' := hW
  obtain ⟨p, q, hA0, hV, rfl, hfz, hnd⟩ := hW
  have hA : DataW.TrodAll enc Try.prog W 0 (fun _ => true) true Try.f4.params.toList args.toList ds p := hA0
  rw [Try.params4] at hA hval
  obtain ⟨v0, vs0, d0, ds0, p0, q0, hargs, rfl, rfl, h0, r0⟩ := trodAll_cons hA
  obtain ⟨rfl, rfl, rfl⟩ := trodAll_nil r0
  obtain rfl : args = #[v0] := by cases args; simp_all
  obtain ⟨rfl, rfl⟩ := trodVars_none hV
  obtain ⟨a0, rfl, rfl, rfl, w0⟩ := open_int Try.underlying3 (hval 0 3 v0 rfl rfl) h0
  clear hA0 hval0
  simp only [List.append_nil] at hW'
  refine (walk a0 w0 W).mono fun e W' ⟨he, hg⟩ => ?_
  subst he
  exact ⟨_, rfl, _, _, _, [], _, [], hW', trodAll_mk1 (shut_bool Try.underlying4 _), (trodAll_cons_mk (shut_int Try.underlying3 w0) trodAll_mk0), rfl, hg.frame _, fun h => by cases h⟩

theorem over : Rows.knownRow.holds Try.pinned (OpenSpec.ofChange Rows.knownSpec) :=
  OpenClaim.holds_of_wide 4 Try.f4 rfl rfl rfl rfl rfl rfl rfl ⟨rfl, rfl, rfl, rfl, rfl⟩ rfl rfl rfl rfl rfl (by kernel_rfl) Try.func4 (by kernel_rfl)
    (of_decide_eq_true (by kernel_rfl)) (by unfold Func.isWrapper; first | (rw [if_pos (by decide +kernel)]; kernel_rfl) | (rw [if_neg (by decide +kernel)]; exact ⟨rfl, rfl⟩))
    (fun os started H enc _ => lifted os started H enc)
end known
/-- The statement. -/
theorem known_holds : Rows.KnownSaid := known.over
#print axioms known_holds
end Go.Proofs.Ytjohkmkgmbihkaa
