/- The walks of the sum of a text: the program's and the document's. -/
import Derived.Test.YtjohkmkgmbihkaaDoorRows
import Derived.Test.YtjohkmkgmbihkaaDoorSumPlain
import Derived.Test.YtjohkmkgmbihkaaDoorHeap
import Derived.WalkKit
import Derived.WalkLawsBesides
import Derived.ProofKit
import Derived.OpenShut
import Derived.ShutString
import Derived.Deep.QuietTactic
import Derived.BigQuiet
namespace Go.Proofs.YtjohkmkgmbihkaaDoor
open Go.ChangeShapes Go.WideShapes Go.ChangeAt Go.RowKit
theorem ret_str {a b : ByteArray} (h : a = b) : Ending.returned (.string a) = .returned (.string b) := by rw [h]
theorem ret_int {k : IntKind} {a b : Int} (h : a = b) : Ending.returned (.int k a) = .returned (.int k b) := by rw [h]

set_option maxHeartbeats 400000 in
theorem number_any (s : ByteArray) (w : World) (hs : s.size ≤ maxLen) :
    Calls Tryd.prog 52 #[.string s] w fun e w' => e = .returned (.int .i64 (Sm.num s.data.toList)) ∧ w' = w := by
  unfold maxLen at hs
  go_enter Tryd.func52, Tryd.ntmps52
  go_wp2
  go_loop [3, 4, 7] (fun n _ i => ∃ k : Nat, k ≤ s.size ∧ i = .int .i64 k ∧ n = .int .i64 (Sm.num (s.data.toList.take k))) (fun _ _ i => s.size - (intOf i).toNat)
  case atStart => exact ⟨0, Nat.zero_le _, rfl, rfl⟩
  case round =>
    obtain ⟨k, hk, rfl, rfl⟩ := hrel
    have hd := Sm.num_bd (s.data.toList.take k)
    by_cases hlt : k < s.size
    · have HS := hid (Sm.num_take s k hlt)
      have hb : s[k].toNat < 256 := s[k].toNat_lt
      go_wp2
      go_round
      case rel => exact ⟨k + 1, by omega, by go_num, by rw [HS.out]⟩
      case measure => simp [intOf]; omega
    · have HS := hid (Sm.num_all s k hlt)
      go_wp2
      go_ret
      exact ⟨ret_int HS.out, rfl⟩

theorem conv3 (w : World) (x y z : Int) :
    (convert 139 9 (.slice (some ⟨w.heap.size, 0, none⟩) 3 3)).run Tryd.prog (w.alloc (.cells #[.int .u8 x, .int .u8 y, .int .u8 z] 5)).drew = .ok (.string (strOfNums [x, y, z])) (w.alloc (.cells #[.int .u8 x, .int .u8 y, .int .u8 z] 5)).drew := by
  refine run_convert_bytes_arg _ _ 5 Tryd.underlying139 Tryd.underlying5 _ 0 3 3 [x, y, z] rfl ?_ _ Tryd.underlying9
  intro i hi
  match i, hi with
  | 0, _ => simp [go_sem]
  | 1, _ => simp [go_sem]
  | 2, _ => simp [go_sem]

set_option maxHeartbeats 400000 in
theorem digits_any (n : Int) (w : World) (h0 : 0 ≤ n) (h1 : n < 4096) :
    Calls Tryd.prog 51 #[.int .i64 n] w fun e w' => e = .returned (.string (Sm.three n)) ∧ Ext w w' := by
  have hcv := conv3 w
  have a1 : 0 ≤ n % 16 := by omega
  have a2 : n % 16 < 16 := by omega
  have b1 : 0 ≤ n / 16 % 16 := by omega
  have b2 : n / 16 % 16 < 16 := by omega
  have c1 : 0 ≤ n / 256 % 16 := by omega
  have c2 : n / 256 % 16 < 16 := by omega
  go_enter Tryd.func51, Tryd.ntmps51
  go_wp2
  go_region
  go_wp2
  go_ret
  exact ⟨ret_str (Sm.three_at n h0 h1 _ _ _), ((Ext.refl w).alloc _).drew⟩

set_option maxHeartbeats 400000 in
theorem of_any (s : ByteArray) (w : World) (hs : s.size ≤ maxLen) :
    Calls Tryd.prog 32 #[.string s] w fun e w' => e = .returned (.string (Sm.sum s)) ∧ Ext w w' := by
  have hb := Sm.num_bd s.data.toList
  go_enter Tryd.func32, Tryd.ntmps32
  go_wp2_with fail
  refine (number_any s _ hs).mono ?_
  rintro e w' ⟨rfl, rfl⟩
  go_wp2_with fail
  refine (digits_any _ _ hb.1 (by omega)).mono ?_
  rintro e w1 ⟨rfl, hg⟩
  go_wp2
  go_ret
  exact ⟨rfl, hg⟩

theorem sl (i : Int) (h0 : 0 ≤ i) (h1 : i < 16) (w : World) :
    (Instr.slice 9 (.string ⟨#[48, 49, 50, 51, 52, 53, 54, 55, 56, 57, 97, 98, 99, 100, 101, 102]⟩) (some (.int .i64 i)) (some (.int .i64 (i + 1))) none).run Tryd.prog w = .ok (.string (Sm.one i.toNat)) w := by
  rw [run_slice_string w 9 _ _ _ _ _ Tryd.underlying9 h0 (by omega) (show i + 1 ≤ 16 by omega)]
  have e : (i + 1).toNat = i.toNat + 1 := by omega
  rw [e, Sm.cut_at i.toNat (by omega)]

set_option maxHeartbeats 400000 in
theorem refSum_any (s : ByteArray) (w : World) (hs : s.size ≤ maxLen) :
    Calls Tryd.prog 40 #[.string s] w fun e w' => e = .returned (.string (Sm.sum s)) ∧ ∃ n, w' = w.drewN n := by
  unfold maxLen at hs
  go_enter Tryd.func40, Tryd.ntmps40
  go_wp2
  go_loop [3, 4] (fun n i => ∃ k : Nat, k ≤ s.size ∧ i = .int .i64 k ∧ n = .int .i64 (Sm.num (s.data.toList.take k))) (fun _ i => s.size - (intOf i).toNat)
  case atStart => exact ⟨0, Nat.zero_le _, rfl, rfl⟩
  case round =>
    obtain ⟨k, hk, rfl, rfl⟩ := hrel
    have hd := Sm.num_bd (s.data.toList.take k)
    by_cases hlt : k < s.size
    · have HS := hid (Sm.num_take s k hlt)
      have hb : s[k].toNat < 256 := s[k].toNat_lt
      go_wp2
      go_round
      case rel => exact ⟨k + 1, by omega, by go_num, by rw [HS.out, Int.mul_comm]⟩
      case measure => simp [intOf]; omega
    · have HS := hid (Sm.num_all s k hlt)
      obtain ⟨d0, d1⟩ := hd
      generalize hn : Sm.num (s.data.toList.take k) = n at *
      have HN := hid hn
      clear hn
      have a1 : 0 ≤ n % 16 := by omega
      have a2 : n % 16 < 16 := by omega
      have b1 : 0 ≤ n / 16 % 16 := by omega
      have b2 : n / 16 % 16 < 16 := by omega
      have c1 : 0 ≤ n / 256 := by omega
      have c2 : n / 256 < 16 := by omega
      have z1 : ∀ i, (Sm.one i).size = 1 := fun _ => rfl
      have s1 := sl (n % 16) a1 a2
      have s2 := sl (n / 16 % 16) b1 b2
      have s3 := sl (n / 256) c1 c2
      go_wp2
      go_region
      go_wp2
      go_ret
      exact ⟨ret_str (by rw [Sm.sum, ← HS.out]; exact Sm.three_cut n d0 (by omega)), 1, rfl⟩

end Go.Proofs.YtjohkmkgmbihkaaDoor
