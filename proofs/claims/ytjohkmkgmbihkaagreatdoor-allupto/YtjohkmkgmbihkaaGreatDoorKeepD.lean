/- The laws without the document's answer: the pairs from one key to another. -/
import Derived.Test.YtjohkmkgmbihkaaGreatDoorKeepC
namespace Go.Proofs.YtjohkmkgmbihkaaGreatDoor
set_option linter.unusedVariables false
open Go.ChangeShapes Go.WideShapes Go.ChangeAt Go.RowKit

/-- From lo to hi. -/
def inR (lo hi : ByteArray) (k : ByteArray) : Bool := !(Op.bytesLess k.toList lo.toList) && (Op.bytesLess k.toList hi.toList || k.toList == hi.toList)
def withinP (A : List Pr) (lo hi : ByteArray) : List Pr := A.filter fun p => inR lo hi p.1
theorem filter_succ {α : Type} (A : List α) (f : α → Bool) (k : Nat) (h : k < A.length) : (A.take (k + 1)).filter f = (A.take k).filter f ++ if f A[k] then [A[k]] else [] := by
  rw [List.take_succ_eq_append_getElem h, List.filter_append]
  congr 1
  cases hf : f A[k] <;> simp [hf]
theorem prs_one (w : World) (p : Pr) (t : TypeId) : Prs (w.alloc (.cells #[.string p.1, .string p.2] t)) (.slice (some ⟨w.heap.size, 0, none⟩) 1 1) [p] := by
  refine ⟨by simp [pc_length], .inr ⟨w.heap.size, 0, 1, rfl, by simp, by simp [maxLen], by simp, ?_⟩⟩
  intro j u hu
  rw [Nat.zero_add, cell_new]
  simpa [pc] using hu
/-- One pair more onto a row of pairs of the call's own. -/
theorem append_pair (w0 w : World) (v : Value) (A : List Pr) (p : Pr) (hx : Ext w0 w) (hown : w.ownsRow w0.heap.size 53 2 v A.length (pc A)) (hl : A.length ≤ 1000000000000) :
    ∃ v' w', (Builtin.append_ #[27, 27] 27 #[v, .slice (some ⟨w.heap.size, 0, none⟩) 1 1]).run Tryz.prog (w.alloc (.cells #[.string p.1, .string p.2] 53)) = .ok v' w' ∧
      w'.ownsRow w0.heap.size 53 2 v' (A ++ [p]).length (pc (A ++ [p])) ∧ Ext w0 w' ∧ w.grownBy w' v.ownBlock := by
  obtain ⟨i, hi, hz, hs, hb⟩ := infoPair
  have h1 := hown.alloc (.cells #[.string p.1, .string p.2] 53)
  have hx1 := hx.alloc (.cells #[.string p.1, .string p.2] 53)
  obtain ⟨v', w', hr, ho, hg⟩ := append_seg (P := Tryz.prog) _ w0.heap.size 27 27 53 i _ 2 32 Tryz.underlying27 hi hz hs hb rfl (by decide) v _ _ h1
    _ 1 (pc [p]) (prs_one w p 53) (oneCell_pc _) (by unfold maxLen; omega) (by omega) hx1.size
  refine ⟨v', w', hr, ?_, Ext.grown hx1 h1 hg, ⟨hg.os, hg.tape, hg.output, Nat.le_trans (by simp) hg.size, fun k hk hne => ?_⟩⟩
  · rw [pc_append, List.length_append]; exact ho
  · rw [hg.block k (by simp; omega) hne, Below.heap_alloc _ _ _ hk]
/-- A slice of pairs onto a row of pairs of the call's own. -/
theorem append_prs (w0 w : World) (v u : Value) (A B : List Pr) (hx : Ext w0 w) (hown : w.ownsRow w0.heap.size 53 2 v A.length (pc A)) (hu : Prs w u B) (hl : A.length + B.length ≤ 1000000000000) :
    ∃ v' w', (Builtin.append_ #[27, 27] 27 #[v, u]).run Tryz.prog w = .ok v' w' ∧
      w'.ownsRow w0.heap.size 53 2 v' (A ++ B).length (pc (A ++ B)) ∧ Ext w0 w' ∧ w.grownBy w' v.ownBlock := by
  obtain ⟨i, hi, hz, hs, hb⟩ := infoPair
  obtain ⟨v', w', hr, ho, hg⟩ := append_seg (P := Tryz.prog) _ w0.heap.size 27 27 53 i _ 2 32 Tryz.underlying27 hi hz hs hb rfl (by decide) v _ _ hown
    u _ (pc B) hu (oneCell_pc _) (by unfold maxLen; omega) (by omega) hx.size
  refine ⟨v', w', hr, ?_, Ext.grown hx hown hg, hg⟩
  rw [pc_append, List.length_append]; exact ho

set_option maxHeartbeats 1000000 in
set_option maxRecDepth 100000 in
theorem within_any (A : List Pr) (va : Value) (lo hi : ByteArray) (w : World) (ha : Prs w va A) (hA : A.length ≤ 1000000) :
    Calls Tryz.prog 19 #[va, .string lo, .string hi] w fun e w' => ∃ v, e = .returned v ∧ Ext w w' ∧ w'.ownsRow w.heap.size 53 2 v (withinP A lo hi).length (pc (withinP A lo hi)) := by
  obtain ⟨aa, ca, e1, _, _⟩ := ha.shape
  subst e1
  have HA := hid ha
  clear ha
  go_enter Tryz.func19, Tryz.ntmps19
  go_wp2_with fail
  go_loopw [7, 8] (fun v i wr => ∃ k : Nat, k ≤ A.length ∧ i = .int .i64 k ∧ Ext w wr ∧ wr.ownsRow w.heap.size 53 2 v (withinP (A.take k) lo hi).length (pc (withinP (A.take k) lo hi))) (fun _ i _ => A.length - (intOf i).toNat)
  case atStart => exact ⟨0, Nat.zero_le _, rfl, Ext.refl _, World.ownsRow_nil _ _ _ _⟩
  case round =>
    obtain ⟨k, hk, rfl, hx, hown⟩ := hrel
    by_cases hlt : k < A.length
    · have pa := HA.out.ext hx
      rcases pa.cases with ⟨_, q⟩ | ⟨b1, o1, c1, q1, _, _, _, g1⟩
      · rw [q] at hlt; simp at hlt
      simp only [Value.slice.injEq] at q1
      obtain ⟨rfl, _, rfl⟩ := q1
      obtain ⟨d1, d2⟩ := pair_cells g1 hlt
      clear g1 pa
      have j1 : (k : Int) < A.length := by omega
      have hsucc := filter_succ A (fun p => inR lo hi p.1) k hlt
      have hle : (withinP (A.take k) lo hi).length ≤ 1000000 := Nat.le_trans (List.length_filter_le _ _) (by simp; omega)
      cases hin : inR lo hi A[k].1 with
      | true =>
        have hs2 : withinP (A.take (k + 1)) lo hi = withinP (A.take k) lo hi ++ [A[k]] := by unfold withinP; rw [hsucc]; simp [hin]
        obtain ⟨v', w', hr, ho, hx', _⟩ := append_pair w wr _ _ A[k] hx hown (by omega)
        rw [← hs2] at ho
        have HO := hid ho
        have HR := hid hr
        have hin' : (!(Op.bytesLess A[k].1.toList lo.toList)) = true ∧ (Op.bytesLess A[k].1.toList hi.toList || A[k].1.toList == hi.toList) = true := by simpa [inR] using hin
        obtain ⟨hi1, hi2⟩ := hin'
        clear hsucc hs2 ho hr hown hin
        go_wp2_with (at_builtin; refine wpList_append_run rfl _ _ 27 27 rfl u7 (.slice (some ⟨wr.heap.size, 0, none⟩) 1 1) rfl rfl _ _ HR.out ?_)
        go_roundw
        case rel => exact ⟨k + 1, by omega, by go_num, hx', HO.out⟩
        case measure => simp [intOf]; omega
      | false =>
        have hs2 : withinP (A.take (k + 1)) lo hi = withinP (A.take k) lo hi := by unfold withinP; rw [hsucc]; simp [hin]
        rw [← hs2] at hown
        have HO := hid hown
        clear hsucc hs2 hown
        cases hi1 : Op.bytesLess A[k].1.toList lo.toList with
        | true =>
          have hi1' : (!(Op.bytesLess A[k].1.toList lo.toList)) = false := by rw [hi1]; rfl
          clear hin
          go_wp2_with fail
          go_roundw
          case rel => exact ⟨k + 1, by omega, by go_num, hx, HO.out⟩
          case measure => simp [intOf]; omega
        | false =>
          have hi1' : (!(Op.bytesLess A[k].1.toList lo.toList)) = true := by rw [hi1]; rfl
          have hi2 : (Op.bytesLess A[k].1.toList hi.toList || A[k].1.toList == hi.toList) = false := by
            unfold inR at hin; rw [hi1] at hin; simpa using hin
          clear hin
          go_wp2_with fail
          go_roundw
          case rel => exact ⟨k + 1, by omega, by go_num, hx, HO.out⟩
          case measure => simp [intOf]; omega
    · have e : A.take k = A := List.take_of_length_le (by omega)
      rw [e] at hown
      have HO := hid hown
      clear hown e
      go_wp2_with fail
      go_ret
      exact ⟨_, rfl, hx, HO.out⟩
end Go.Proofs.YtjohkmkgmbihkaaGreatDoor
