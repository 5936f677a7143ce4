/- The law's small things: which of n, marks, lists held against one another. -/
import Derived.Test.YtjohkmkgmbihkaaGreatDoorRefD
namespace Go.Proofs.YtjohkmkgmbihkaaGreatDoor
set_option linter.unusedVariables false
open Go.ChangeShapes Go.WideShapes Go.ChangeAt Go.RowKit
attribute [local go_sem ↓] Go.wp_at_zero Go.wp_at_succ

set_option maxHeartbeats 400000 in
set_option maxRecDepth 100000 in
theorem lpick_any (c n : Int) (hc0 : -9223372036854775808 ≤ c) (hc1 : c ≤ 9223372036854775807) (hn0 : 0 < n) (hn1 : n ≤ 1000000000) (w : World) :
    Calls Tryz.prog 50 #[.int .i64 c, .int .i64 n] w fun e w' => e = .returned (.int .i64 (pickN c n)) ∧ w' = w := by
  by_cases h : c < 0
  · have HP := hid (show pickN c n = (-(c + 1)) % n by simp [pickN, h])
    have hz : (n == 0) = false := by simp; omega
    go_enter Tryz.func50, Tryz.ntmps50
    go_wp2_with fail
    go_ret
    exact ⟨ret_int (by rw [HP.out, ← Int.tmod_eq_emod_of_nonneg (by omega), Int.neg_tmod]), rfl⟩
  · have HP := hid (show pickN c n = c % n by simp [pickN, h])
    have hz : (n == 0) = false := by simp; omega
    go_enter Tryz.func50, Tryz.ntmps50
    go_wp2_with fail
    go_ret
    exact ⟨ret_int HP.out.symm, rfl⟩

set_option maxHeartbeats 1000000 in
set_option maxRecDepth 100000 in
theorem samePairs_any (A B : List Pr) (va vb : Value) (w : World) (ha : Prs w va A) (hb : Prs w vb B) (hA : A.length ≤ maxLen) (hBl : B.length ≤ maxLen) :
    Calls Tryz.prog 30 #[va, vb] w fun e w' => e = .returned (.bool (decide (A = B))) ∧ Ext w w' := by
  obtain ⟨aa, ca, e1, _, _⟩ := ha.shape
  obtain ⟨ab, cb, e2, _, _⟩ := hb.shape
  subst e1 e2
  unfold maxLen at hA hBl
  by_cases hl : A.length = B.length
  · have hne : ((A.length : Int) != (B.length : Int)) = false := by simp [hl]
    have HA := hid ha
    have HB := hid hb
    have HL := hid hl
    clear ha hb
    have hl1 : (A.length : Int) ≤ B.length := by omega
    have hl2 : (B.length : Int) ≤ A.length := by omega
    clear hl
    go_enter Tryz.func30, Tryz.ntmps30
    go_wp2_with fail
    go_loopw [5] (fun i wr => ∃ k : Nat, k ≤ A.length ∧ i = .int .i64 k ∧ A.take k = B.take k ∧ Ext w wr) (fun i _ => A.length - (intOf i).toNat)
    case atStart => exact ⟨0, Nat.zero_le _, rfl, by simp, Ext.refl _⟩
    case round =>
      obtain ⟨k, hk, rfl, htk, hx⟩ := hrel
      have HT := hid htk
      clear htk
      by_cases hlt : k < A.length
      · have hlt2 : k < B.length := by omega
        have pa := HA.out.ext hx
        have pb := HB.out.ext hx
        rcases pa.cases with ⟨_, q⟩ | ⟨b1, o1, c1, q1, _, _, _, g1⟩
        · rw [q] at hlt; simp at hlt
        rcases pb.cases with ⟨_, q⟩ | ⟨b2, o2, c2, q2, _, _, _, g2⟩
        · rw [q] at hlt2; simp at hlt2
        simp only [Value.slice.injEq] at q1 q2
        obtain ⟨rfl, _, rfl⟩ := q1
        obtain ⟨rfl, _, rfl⟩ := q2
        obtain ⟨d1, d2⟩ := pair_cells g1 hlt
        obtain ⟨d3, d4⟩ := pair_cells g2 hlt2
        clear g1 g2 pa pb
        have j1 : (k : Int) < A.length := by omega
        have j2 : (k : Int) < B.length := by omega
        by_cases he : A[k] = B[k]
        · have hq : ∀ w, (binOp .neq 53 (.agg #[.string A[k].1, .string A[k].2]) (.agg #[.string B[k].1, .string B[k].2])).run Tryz.prog w = .ok (.bool false) w := fun w => by
            rw [neqPair]; simp [he]
          have HT2 := hid (take_eq_succ hlt hlt2 HT.out he)
          clear he
          go_wp2_with fail
          go_quiet (fail)
          go_wp2_with fail
          go_roundw
          case rel => exact ⟨k + 1, by omega, by go_num, HT2.out, hx.drewN _⟩
          case measure => simp [intOf]; omega
        · have hq : ∀ w, (binOp .neq 53 (.agg #[.string A[k].1, .string A[k].2]) (.agg #[.string B[k].1, .string B[k].2])).run Tryz.prog w = .ok (.bool true) w := fun w => by
            rw [neqPair]
            have : ¬ ((A[k].1, A[k].2) = (B[k].1, B[k].2)) := he
            simp only [this]; rfl
          have HN := hid (take_ne hlt hlt2 he)
          clear he
          go_wp2_with fail
          go_quiet (fail)
          go_wp2_with fail
          go_ret
          exact ⟨ret_bool (by simp [HN.out]), hx.drewN _⟩
      · have HE := hid (take_eq_all HL.out hlt HT.out)
        go_wp2_with fail
        go_ret
        exact ⟨ret_bool (by simp [HE.out]), hx⟩
  · have hne : ((A.length : Int) != (B.length : Int)) = true := by simp; omega
    have HN := hid (show A ≠ B by rintro rfl; exact hl rfl)
    clear ha hb
    go_enter Tryz.func30, Tryz.ntmps30
    go_wp2_with fail
    go_ret
    exact ⟨ret_bool (by simp [HN.out]), Ext.refl _⟩

/-- The k-th mark. -/
def stkGo (m : Nat) (s : ByteArray) : ByteArray := if h : m = 0 then s else stkGo (m / 10) (s ++ byte (48 + m % 10))
  termination_by m
  decreasing_by omega
def stk (n : Nat) : ByteArray := stkGo n ⟨#[47]⟩
theorem stkGo_zero (s : ByteArray) : stkGo 0 s = s := by rw [stkGo]; simp
theorem stkGo_pos {m : Nat} (h : m ≠ 0) (s : ByteArray) : stkGo m s = stkGo (m / 10) (s ++ byte (48 + m % 10)) := by rw [stkGo]; simp [h]

set_option maxHeartbeats 400000 in
set_option maxRecDepth 100000 in
theorem strokes_any (n : Nat) (hn : n ≤ 1000000000) (w : World) :
    Calls Tryz.prog 57 #[.int .i64 (n : Int)] w fun e w' => e = .returned (.string (stk n)) ∧ Ext w w' := by
  have hcv := conv1
  go_enter Tryz.func57, Tryz.ntmps57
  go_wp2_with fail
  go_loopw [0, 3] (fun i sv wr => ∃ (m : Nat) (s : ByteArray), i = .int .i64 m ∧ sv = .string s ∧ stkGo m s = stk n ∧ s.size + m ≤ 1 + n ∧ Ext w wr) (fun i _ _ => (intOf i).toNat)
  case atStart => exact ⟨n, ⟨#[47]⟩, rfl, rfl, rfl, by show 1 + n ≤ 1 + n; exact Nat.le_refl _, Ext.refl _⟩
  case round =>
    obtain ⟨m, s, rfl, rfl, hgo, hsz, hx⟩ := hrel
    by_cases hm : m = 0
    · subst hm
      rw [stkGo_zero] at hgo
      have HG := hid hgo
      clear hgo
      go_wp2_with fail
      go_ret
      exact ⟨ret_str HG.out, hx⟩
    · rw [stkGo_pos hm] at hgo
      have HG := hid hgo
      have hpos : 0 < m := by omega
      have hb : strOfNums [48 + (m : Int) % 10] = byte (48 + m % 10) := byte_str' _ _ (by omega)
      have HB := hid hb
      have hs1 : (strOfNums [48 + (m : Int) % 10]).size = 1 := rfl
      have hcv2 := conv1 wr
      clear hgo hb hm hcv
      go_wp2_with fail
      go_roundw
      case rel => exact ⟨m / 10, s ++ byte (48 + m % 10), by go_num, by rw [HB.out], HG.out, by rw [ByteArray.size_append, byte_size]; omega, hx.alloc _⟩
      case measure => simp [intOf]; omega

/-- A list written full of a mark. -/
def mkd (n : Nat) (m : ByteArray) : List Pr := List.replicate n (⟨#[]⟩, m)

set_option maxHeartbeats 400000 in
set_option maxRecDepth 100000 in
theorem full_any (n : Nat) (m : ByteArray) (v : Value) (w : World) (hv : Prs w v (mkd n m)) :
    Calls Tryz.prog 58 #[v, .string m] w fun e w' => e = .returned (.bool true) ∧ w' = w := by
  have hlen : (mkd n m).length = n := by simp [mkd]
  rcases hv.cases with ⟨rfl, q⟩ | ⟨b, o, cap, rfl, h3, h4, h5, h6⟩
  · rw [q] at hlen
    simp at hlen
    subst hlen
    clear hv q
    go_enter Tryz.func58, Tryz.ntmps58
    go_wp2_with fail
    go_loop [5] (fun i => i = .int .i64 0) (fun _ => 0)
    case atStart => rfl
    case round =>
      obtain rfl := hrel
      go_wp2_with fail
      go_ret
      exact ⟨rfl, rfl⟩
  · rw [hlen] at h3 ⊢
    have hc : ∀ k, k < n → w.cell? ⟨b, o + k * 2, none⟩ = some (.string ⟨#[]⟩) ∧ w.cell? ⟨b, o + k * 2 + 1, none⟩ = some (.string m) := by
      intro k hk
      have := pair_cells h6 (i := k) (by omega)
      simpa [mkd] using this
    have HC := hid hc
    unfold maxLen at h4
    clear hv hc h6 hlen
    go_enter Tryz.func58, Tryz.ntmps58
    go_wp2_with fail
    go_loop [5] (fun i => ∃ k : Nat, k ≤ n ∧ i = .int .i64 k) (fun i => n - (intOf i).toNat)
    case atStart => exact ⟨0, Nat.zero_le _, rfl⟩
    case round =>
      obtain ⟨k, hk, rfl⟩ := hrel
      by_cases hlt : k < n
      · obtain ⟨c1, c2⟩ := HC.out k hlt
        go_wp2_with fail
        go_round
        case rel => exact ⟨k + 1, by omega, by go_num⟩
        case measure => simp [intOf]; omega
      · go_wp2_with fail
        go_ret
        exact ⟨rfl, rfl⟩
end Go.Proofs.YtjohkmkgmbihkaaGreatDoor
