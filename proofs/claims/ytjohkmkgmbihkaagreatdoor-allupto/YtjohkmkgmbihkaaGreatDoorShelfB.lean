/- The walks of the shelf: asking, and cutting at a key. -/
import Derived.Test.YtjohkmkgmbihkaaGreatDoorShelfA
import Derived.Deep.RegionHeld3
namespace Go.Proofs.YtjohkmkgmbihkaaGreatDoor
set_option linter.unusedVariables false
open Go.ChangeShapes Go.WideShapes Go.ChangeAt Go.RowKit

set_option maxHeartbeats 400000 in
theorem search_nil (k : ByteArray) (w : World) :
    Calls Tryz.prog 123 #[.slice none 0 0, .string k, .func (.func 124) #[] #[]] w
      fun e w' => e = .returned (.tuple #[.int .i64 0, .bool false]) ∧ Ext w w' := by
  go_enter Tryz.func123, Tryz.ntmps123
  go_wp2_with fail
  go_loopw [9, 10, 11] (fun vi vj _ wr => vi = .int .i64 0 ∧ vj = .int .i64 0 ∧ Ext w wr) (fun _ _ _ _ => 0)
  case atStart => exact ⟨rfl, rfl, Ext.refl _⟩
  case round =>
    obtain ⟨rfl, rfl, hx⟩ := hrel
    go_wp2_with fail
    go_ret2
    exact ⟨rfl, hx⟩

set_option maxHeartbeats 400000 in
theorem place_any (L : List It) (hs : Sorted L) (hn : L.length ≤ 50) (v : Value) (k : ByteArray) (w : World) (hv : Its w v L) :
    Calls Tryz.prog 97 #[v, .string k] w fun e w' => e = .returned (.tuple #[.int .i64 (plc L k), .bool (has L k)]) ∧ Ext w w' := by
  rcases hv.cases with ⟨rfl, rfl⟩ | ⟨b, o, cap, rfl, h3, h4, h5, h6⟩
  · clear hv
    go_enter Tryz.func97, Tryz.ntmps97
    go_wp2_with fail
    refine (search_nil k _).mono ?_
    rintro e w1 ⟨rfl, hx⟩
    go_wp2_with fail
    go_ret2
    exact ⟨rfl, hx⟩
  · clear hv
    have H6 := hid h6
    clear h6
    go_enter Tryz.func97, Tryz.ntmps97
    go_wp2_with fail
    refine (search_any L hs hn b o cap k _ h3 h5 H6.out).mono ?_
    rintro e w1 ⟨rfl, hx⟩
    go_wp2_with fail
    go_ret2
    exact ⟨rfl, hx⟩

set_option maxHeartbeats 400000 in
theorem Has_any (L : List It) (hs : Sorted L) (hn : L.length ≤ 50) (v : Value) (k : ByteArray) (w : World) (hv : Its w v L) :
    Calls Tryz.prog 65 #[v, .string k] w fun e w' => e = .returned (.bool (has L k)) ∧ Ext w w' := by
  have HV := hid hv
  clear hv
  go_enter Tryz.func65, Tryz.ntmps65
  go_wp2_with fail
  refine (place_any L hs hn v k _ HV.out).mono ?_
  rintro e w1 ⟨rfl, hx⟩
  go_wp2_with fail
  go_ret
  exact ⟨rfl, hx⟩

set_option maxHeartbeats 400000 in
theorem Takes_any (L : List It) (hs : Sorted L) (hn : L.length ≤ 50) (v : Value) (k : ByteArray) (w : World) (hv : Its w v L) :
    Calls Tryz.prog 46 #[v, .string k] w fun e w' => e = .returned (.bool (decide (L.length < 50) || has L k)) ∧ Ext w w' := by
  obtain ⟨a, cap, rfl, h1, h2⟩ := hv.shape
  have HV := hid hv
  clear hv
  by_cases h : L.length < 50
  · go_enter Tryz.func46, Tryz.ntmps46
    go_wp2_with fail
    go_ret
    exact ⟨by simp, Ext.refl _⟩
  · have hd : decide (L.length < 50) = false := by simpa using h
    have HD := hid hd
    clear hd
    go_enter Tryz.func46, Tryz.ntmps46
    go_wp2_with fail
    refine (Has_any L hs hn _ k _ HV.out).mono ?_
    rintro e w1 ⟨rfl, hx⟩
    go_wp2_with fail
    go_ret
    exact ⟨by rw [HD.out]; simp; intro q; omega, hx⟩

theorem sz_shelf (w : World) : (sizeOf (Tryz.prog.elem 89)).run Tryz.prog w = .ok 3 w := by kernel_rfl
theorem cut_h (a : Option Addr) (n cap i : Nat) (h : i ≤ cap) (w : World) :
    (Instr.slice 89 (.slice a n cap) none (some (.int .i64 (i : Int))) none).run Tryz.prog w = .ok (sliced a 0 i cap 3) w := by
  rw [run_slice_h w 89 a n cap (by kernel_rfl) .i64 i (by omega) (by omega), sz_shelf]
  rfl
theorem cut_l (a : Option Addr) (n cap i : Nat) (h : i ≤ n) (w : World) :
    (Instr.slice 89 (.slice a n cap) (some (.int .i64 (i : Int))) none none).run Tryz.prog w = .ok (sliced a i n cap 3) w := by
  rw [run_slice_l w 89 a n cap (by kernel_rfl) .i64 i (by omega) (by omega), sz_shelf]
  rfl

set_option maxHeartbeats 400000 in
theorem around_any (L : List It) (hs : Sorted L) (hn : L.length ≤ 50) (v : Value) (k : ByteArray) (w : World) (hv : Its w v L) :
    Calls Tryz.prog 82 #[v, .string k] w fun e w' => ∃ v1 v2, e = .returned (.tuple #[v1, v2]) ∧ Ext w w' ∧
      Its w' v1 (L.take (plc L k)) ∧
      Its w' v2 (L.drop (if has L k then plc L k + 1 else plc L k)) := by
  obtain ⟨a, cap, rfl, h1, h2⟩ := hv.shape
  have hpl := plc_le L k
  cases hh : has L k with
  | true =>
    obtain ⟨hlt, _⟩ := has_iff.1 hh
    obtain ⟨V1, e1⟩ : ∃ V, V = sliced a 0 (plc L k) cap 3 := ⟨_, rfl⟩
    obtain ⟨V2, e2⟩ : ∃ V, V = sliced a (plc L k + 1) L.length cap 3 := ⟨_, rfl⟩
    have r1 : ∀ w, (Instr.slice 89 (.slice a L.length cap) none (some (.int .i64 (plc L k : Int))) none).run Tryz.prog w = .ok V1 w := fun w => by rw [e1]; exact cut_h a L.length cap (plc L k) (by omega) w
    have r2 : ∀ w, (Instr.slice 89 (.slice a L.length cap) (some (.int .i64 ((plc L k : Int) + 1))) none none).run Tryz.prog w = .ok V2 w := fun w => by rw [e2]; exact cut_l a L.length cap (plc L k + 1) (by omega) w
    have S1 := hid (hv.take hpl)
    have S2 := hid (hv.drop (i := plc L k + 1) hlt)
    rw [← e1] at S1
    rw [← e2] at S2
    have HV := hid hv
    have HH := hid hh
    clear hv hh e1 e2
    go_enter Tryz.func82, Tryz.ntmps82
    go_wp2_with fail
    refine (place_any L hs hn _ k _ HV.out).mono ?_
    rintro e w1 ⟨rfl, hx⟩
    rw [HH.out]
    go_wp2_with fail
    go_quiet (fail)
    go_wp2_with fail
    go_ret2
    exact ⟨V1, V2, rfl, hx.drewN _, Its.ext S1.out (hx.drewN _), by simpa using Its.ext S2.out (hx.drewN _)⟩
  | false =>
    obtain ⟨V1, e1⟩ : ∃ V, V = sliced a 0 (plc L k) cap 3 := ⟨_, rfl⟩
    obtain ⟨V2, e2⟩ : ∃ V, V = sliced a (plc L k) L.length cap 3 := ⟨_, rfl⟩
    have r1 : ∀ w, (Instr.slice 89 (.slice a L.length cap) none (some (.int .i64 (plc L k : Int))) none).run Tryz.prog w = .ok V1 w := fun w => by rw [e1]; exact cut_h a L.length cap (plc L k) (by omega) w
    have r2 : ∀ w, (Instr.slice 89 (.slice a L.length cap) (some (.int .i64 (plc L k : Int))) none none).run Tryz.prog w = .ok V2 w := fun w => by rw [e2]; exact cut_l a L.length cap (plc L k) (by omega) w
    have S1 := hid (hv.take hpl)
    have S2 := hid (hv.drop (i := plc L k) hpl)
    rw [← e1] at S1
    rw [← e2] at S2
    have HV := hid hv
    have HH := hid hh
    clear hv hh e1 e2
    go_enter Tryz.func82, Tryz.ntmps82
    go_wp2_with fail
    refine (place_any L hs hn _ k _ HV.out).mono ?_
    rintro e w1 ⟨rfl, hx⟩
    rw [HH.out]
    go_wp2_with fail
    go_quiet (fail)
    go_wp2_with fail
    go_ret2
    exact ⟨V1, V2, rfl, hx.drewN _, Its.ext S1.out (hx.drewN _), by simpa using Its.ext S2.out (hx.drewN _)⟩
end Go.Proofs.YtjohkmkgmbihkaaGreatDoor
