/- The laws without the document's answer: lists of pairs held against one another, and parted. -/
import Derived.Test.YtjohkmkgmbihkaaGreatDoorKeepB
namespace Go.Proofs.YtjohkmkgmbihkaaGreatDoor
set_option linter.unusedVariables false
open Go.ChangeShapes Go.WideShapes Go.ChangeAt Go.RowKit

theorem take_eq_all {α : Type} {A B : List α} (hl : A.length = B.length) {k : Nat} (hk : ¬ k < A.length) (h : A.take k = B.take k) : A = B := by
  rwa [List.take_of_length_le (by omega), List.take_of_length_le (by omega)] at h
theorem take_eq_succ {α : Type} {A B : List α} {k : Nat} (ha : k < A.length) (hb : k < B.length) (h : A.take k = B.take k) (e : A[k] = B[k]) : A.take (k + 1) = B.take (k + 1) := by
  rw [List.take_succ_eq_append_getElem ha, List.take_succ_eq_append_getElem hb, h, e]
theorem take_ne {α : Type} {A B : List α} {k : Nat} (ha : k < A.length) (hb : k < B.length) (e : A[k] ≠ B[k]) : A ≠ B := by
  rintro rfl; exact e rfl

set_option maxHeartbeats 1000000 in
set_option maxRecDepth 100000 in
theorem same_any (A B : List Pr) (va vb : Value) (w : World) (ha : Prs w va A) (hb : Prs w vb B) (hA : A.length ≤ maxLen) (hBl : B.length ≤ maxLen) :
    Calls Tryz.prog 18 #[va, vb] w fun e w' => e = .returned (.bool (decide (A = B))) ∧ Ext w w' := by
  obtain ⟨aa, ca, e1, _, _⟩ := ha.shape
  obtain ⟨ab, cb, e2, _, _⟩ := hb.shape
  subst e1 e2
  unfold maxLen at hA hBl
  by_cases hl : A.length = B.length
  · have hne : ((A.length : Int) != (B.length : Int)) = false := by simp [hl]
    have HA := hid ha
    have HB := hid hb
    have HL := hid hl
    clear ha hb
    have hl1 : (A.length : Int) ≤ B.length := by omega
    have hl2 : (B.length : Int) ≤ A.length := by omega
    clear hl
    go_enter Tryz.func18, Tryz.ntmps18
    go_wp2_with fail
    go_loopw [5] (fun i wr => ∃ k : Nat, k ≤ A.length ∧ i = .int .i64 k ∧ A.take k = B.take k ∧ Ext w wr) (fun i _ => A.length - (intOf i).toNat)
    case atStart => exact ⟨0, Nat.zero_le _, rfl, by simp, Ext.refl _⟩
    case round =>
      obtain ⟨k, hk, rfl, htk, hx⟩ := hrel
      have HT := hid htk
      clear htk
      by_cases hlt : k < A.length
      · have hlt2 : k < B.length := by omega
        have pa := HA.out.ext hx
        have pb := HB.out.ext hx
        rcases pa.cases with ⟨_, q⟩ | ⟨b1, o1, c1, q1, _, _, _, g1⟩
        · rw [q] at hlt; simp at hlt
        rcases pb.cases with ⟨_, q⟩ | ⟨b2, o2, c2, q2, _, _, _, g2⟩
        · rw [q] at hlt2; simp at hlt2
        simp only [Value.slice.injEq] at q1 q2
        obtain ⟨rfl, _, rfl⟩ := q1
        obtain ⟨rfl, _, rfl⟩ := q2
        obtain ⟨d1, d2⟩ := pair_cells g1 hlt
        obtain ⟨d3, d4⟩ := pair_cells g2 hlt2
        clear g1 g2 pa pb
        have j1 : (k : Int) < A.length := by omega
        have j2 : (k : Int) < B.length := by omega
        by_cases he : A[k] = B[k]
        · have hq : ∀ w, (binOp .neq 53 (.agg #[.string A[k].1, .string A[k].2]) (.agg #[.string B[k].1, .string B[k].2])).run Tryz.prog w = .ok (.bool false) w := fun w => by
            rw [neqPair]; simp [he]
          have HT2 := hid (take_eq_succ hlt hlt2 HT.out he)
          clear he
          go_wp2_with fail
          go_quiet (fail)
          go_wp2_with fail
          go_roundw
          case rel => exact ⟨k + 1, by omega, by go_num, HT2.out, hx.drewN _⟩
          case measure => simp [intOf]; omega
        · have hq : ∀ w, (binOp .neq 53 (.agg #[.string A[k].1, .string A[k].2]) (.agg #[.string B[k].1, .string B[k].2])).run Tryz.prog w = .ok (.bool true) w := fun w => by
            rw [neqPair]
            have : ¬ ((A[k].1, A[k].2) = (B[k].1, B[k].2)) := he
            simp only [this]; rfl
          have HN := hid (take_ne hlt hlt2 he)
          clear he
          go_wp2_with fail
          go_quiet (fail)
          go_wp2_with fail
          go_ret
          exact ⟨ret_bool (by simp [HN.out]), hx.drewN _⟩
      · have HE := hid (take_eq_all HL.out hlt HT.out)
        go_wp2_with fail
        go_ret
        exact ⟨ret_bool (by simp [HE.out]), hx⟩
  · have hne : ((A.length : Int) != (B.length : Int)) = true := by simp; omega
    have HN := hid (show A ≠ B by rintro rfl; exact hl rfl)
    clear ha hb
    go_enter Tryz.func18, Tryz.ntmps18
    go_wp2_with fail
    go_ret
    exact ⟨ret_bool (by simp [HN.out]), Ext.refl _⟩
end Go.Proofs.YtjohkmkgmbihkaaGreatDoor
