/- What reads an answer: a digest alone. -/
import Derived.Test.YtjohkmkgmbihkaaDoorAnsC
import Derived.Lib.Bytealg
namespace Go.Proofs.YtjohkmkgmbihkaaDoor
open Go.ChangeShapes Go.WideShapes Go.ChangeAt Go.RowKit
set_option linter.unusedVariables false
abbrev hexDigits : ByteArray := ⟨#[48, 49, 50, 51, 52, 53, 54, 55, 56, 57, 97, 98, 99, 100, 101, 102]⟩
theorem hex_fin : ∀ n : Fin 256, decide (Lib.indexByte hexDigits.data.toList (UInt8.ofNat n.val) < 0) = !hexB (UInt8.ofNat n.val) := by decide +kernel
theorem hex_idx (c : UInt8) : decide (Lib.indexByte hexDigits.data.toList c < 0) = !hexB c := by
  have := hex_fin ⟨c.toNat, c.toNat_lt⟩
  simpa using this
set_option maxRecDepth 100000 in
theorem Index_any (s : ByteArray) (c : UInt8) (w : World) :
    Calls Tryd.prog 70 #[.string s, .int .u8 (c.toNat : Int)] w fun e w' => e = .returned (.int .i64 (Lib.indexByte s.data.toList c)) ∧ w' = w := by
  have h1 := @run_callFunc_extern Tryd.prog 74 _ Extern.BytealgIndexByte.indexByte Tryd.func74 (by kernel_rfl) (by kernel_rfl) (by kernel_rfl) (by kernel_rfl)
  have h2 : ∀ w, (Extern.BytealgIndexByte.indexByte #[.string s, .int .u8 (c.toNat : Int)]).run Tryd.prog w = .ok (.int .i64 (Lib.indexByte s.data.toList c)) w := fun w => by
    have := @Lib.run_indexByteString Tryd.prog s (c.toNat : Int) w
    simpa using this
  have e2 : Calls Tryd.prog 73 #[.string s, .int .u8 (c.toNat : Int)] w fun e w' => e = .returned (.int .i64 (Lib.indexByte s.data.toList c)) ∧ w' = w := by
    generalize Lib.indexByte s.data.toList c = v at *
    go_enter Tryd.func73, Tryd.ntmps73
    go_wp2_with fail
    go_ret
    exact ⟨rfl, rfl⟩
  have E2 := hid e2
  clear h1 h2 e2
  generalize Lib.indexByte s.data.toList c = v at *
  go_enter Tryd.func70, Tryd.ntmps70
  go_wp2_with fail
  refine E2.out.mono ?_
  rintro e w' ⟨rfl, h⟩
  replace h := h.symm
  subst h
  go_wp2_with fail
  go_ret
  exact ⟨rfl, rfl⟩

theorem isDig_to (s : ByteArray) (h : (∀ j (hj : j < s.size), hexB s[j] = true)) : isDig s = decide (s.size = 3) := by
  unfold isDig
  rw [show s.data.toList.all hexB = true from List.all_eq_true.2 (fun c hc => by
    obtain ⟨j, hj, rfl⟩ := List.mem_iff_getElem.1 hc
    have hj' : j < s.size := by simpa using hj
    have := h j hj'
    rw [Array.getElem_toList]
    exact this)]
  simp
theorem isDig_not (s : ByteArray) (j : Nat) (hj : j < s.size) (h : hexB s[j] = false) : isDig s = false := by
  unfold isDig
  rw [show s.data.toList.all hexB = false from List.all_eq_false.2 ⟨s[j], by
    have : j < s.data.toList.length := by simpa using hj
    exact List.mem_iff_getElem.2 ⟨j, this, by rw [Array.getElem_toList]; rfl⟩, by simp [h]⟩]
  rfl
set_option maxHeartbeats 1000000 in
set_option maxRecDepth 100000 in
theorem Is_any (s : ByteArray) (hs : s.size ≤ 1000) (w : World) :
    Calls Tryd.prog 59 #[.string s] w fun e w' => e = .returned (.bool (isDig s)) ∧ w' = w := by
  go_enter Tryd.func59, Tryd.ntmps59
  go_wp2_with fail
  go_loopw [3, 6] (fun _ i wr => ∃ k : Nat, k ≤ s.size ∧ i = .int .i64 k ∧ (∀ j (hj : j < s.size), j < k → hexB s[j] = true) ∧ wr = w) (fun _ i _ => s.size - (intOf i).toNat)
  case atStart => exact ⟨0, Nat.zero_le _, rfl, fun j _ h => absurd h (by omega), rfl⟩
  case round =>
    obtain ⟨k, hk, rfl, hall, hw⟩ := hrel
    replace hw := hw.symm
    subst hw
    have HA := hid hall
    clear hall
    by_cases hlt : k < s.size
    · have hix := hex_idx s[k]
      have IX := hid (Index_any hexDigits s[k])
      cases hh : hexB s[k] with
      | true =>
        rw [hh] at hix
        have hge : ¬ Lib.indexByte hexDigits.data.toList s[k] < 0 := by simpa using hix
        generalize Lib.indexByte hexDigits.data.toList s[k] = v at *
        have HH := hid hh
        clear hh hix
        go_wp2_with fail
        refine (IX.out _).mono ?_
        rintro e w' ⟨rfl, h⟩
        replace h := h.symm
        subst h
        go_wp2_with fail
        go_roundw
        case rel => exact ⟨k + 1, by omega, by go_num, fun j hj hjk => by
          by_cases e : j = k
          · subst e; exact HH.out
          · exact HA.out j hj (by omega), by first | trivial | rfl⟩
        case measure => simp [intOf] <;> omega
      | false =>
        rw [hh] at hix
        have hge : Lib.indexByte hexDigits.data.toList s[k] < 0 := by simpa using hix
        generalize Lib.indexByte hexDigits.data.toList s[k] = v at *
        have HD := hid (isDig_not s k hlt hh)
        clear hh hix
        go_wp2_with fail
        refine (IX.out _).mono ?_
        rintro e w' ⟨rfl, h⟩
        replace h := h.symm
        subst h
        go_wp2_with fail
        go_ret
        exact ⟨by rw [HD.out]; rfl, rfl⟩
    · have HD := hid (isDig_to s (fun j hj => HA.out j hj (by omega)))
      go_wp2_with fail
      go_ret
      refine ⟨?_, rfl⟩
      rw [HD.out]
      refine congrArg (fun b => Ending.returned (Value.bool b)) ?_
      by_cases h3 : s.size = 3
      · rw [h3]; rfl
      · simp [h3]; omega
end Go.Proofs.YtjohkmkgmbihkaaDoor
