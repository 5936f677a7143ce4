/- The walks of the shelf: Concat. -/
import Derived.Test.YtjohkmkgmbihkaaGreatDoorShelfC
namespace Go.Proofs.YtjohkmkgmbihkaaGreatDoor
set_option linter.unusedVariables false
open Go.ChangeShapes Go.WideShapes Go.ChangeAt Go.RowKit

/-- What the parts hold. -/
def flat (ps : List (Value × List It)) : List It := ps.flatMap (·.2)
theorem flat_take (ps : List (Value × List It)) (i : Nat) (h : i < ps.length) : flat (ps.take (i + 1)) = flat (ps.take i) ++ ps[i].2 := by
  unfold flat; rw [List.take_succ_eq_append_getElem h, List.flatMap_append]; simp
theorem flat_take_le (ps : List (Value × List It)) (i : Nat) : (flat (ps.take i)).length ≤ (flat ps).length := by
  have : flat ps = flat (ps.take i) ++ flat (ps.drop i) := by rw [flat, flat, flat, ← List.flatMap_append, List.take_append_drop]
  rw [this]; simp

set_option maxHeartbeats 800000 in
set_option maxRecDepth 100000 in
theorem Concat_any (ps : List (Value × List It)) (g cap : Nat) (w : World) (hlen : ps.length ≤ 3) (htot : (flat ps).length ≤ 51) (hg : g < w.heap.size)
    (hcell : ∀ i (h : i < ps.length), w.cell? ⟨g, i, none⟩ = some ps[i].1) (hits : ∀ i (h : i < ps.length), Its w ps[i].1 ps[i].2) :
    Calls Tryz.prog 83 #[.slice (some ⟨g, 0, none⟩) ps.length cap] w
      fun e w' => ∃ v, e = .returned v ∧ Ext w w' ∧ w'.ownsRow w.heap.size 87 3 v (flat ps).length (cellsOf (flat ps)) := by
  have HC := hid hcell
  have HI := hid hits
  clear hcell hits
  go_enter Tryz.func83, Tryz.ntmps83
  go_wp2_with fail
  go_loop [3, 5, 11] (fun n _ i => ∃ k : Nat, k ≤ ps.length ∧ i = .int .i64 k ∧ n = .int .i64 (flat (ps.take k)).length) (fun _ _ i => ps.length - (intOf i).toNat)
  case atStart => exact ⟨0, Nat.zero_le _, rfl, rfl⟩
  case round =>
    obtain ⟨k, hk, rfl, rfl⟩ := hrel
    have hle := flat_take_le ps k
    by_cases hlt : k < ps.length
    · obtain ⟨a, c, e, hc1, hc2⟩ := (HI.out k hlt).shape
      have h1 := HC.out k hlt
      rw [e] at h1
      have ef : (flat (ps.take (k + 1))).length = (flat (ps.take k)).length + ps[k].2.length := by rw [flat_take ps k hlt, List.length_append]
      have hle2 := flat_take_le ps (k + 1)
      rw [ef] at hle2
      have HF := hid ef
      clear ef e
      go_wp2_with fail
      go_round
      case rel => exact ⟨k + 1, by omega, by go_num, by rw [HF.out]; go_num⟩
      case measure => simp [intOf]; omega
    · have ek : ps.take k = ps := List.take_of_length_le (by omega)
      have HK := hid ek
      clear ek
      go_wp2_with fail
      rw [HK.out]
      refine (Grow_any (flat ps).length (by omega) _).mono ?_
      rintro e w1 ⟨v, rfl, hx, hown⟩
      go_wp2_with fail
      go_loopw [6, 8, 27] (fun v _ i wr => ∃ k : Nat, k ≤ ps.length ∧ i = .int .i64 k ∧ Ext w wr ∧ wr.ownsRow w.heap.size 87 3 v (flat (ps.take k)).length (cellsOf (flat (ps.take k)))) (fun _ _ i _ => ps.length - (intOf i).toNat)
      case atStart => exact ⟨0, Nat.zero_le _, rfl, hx, hown⟩
      case round =>
        obtain ⟨m, hm, rfl, hxr, hownr⟩ := hrel
        have hle' := flat_take_le ps m
        by_cases hlt' : m < ps.length
        · have h1 : wr.cell? ⟨g, m, none⟩ = some ps[m].1 := (hxr.cell (p := ⟨g, m, none⟩) hg).trans (HC.out m hlt')
          have hle2 := flat_take_le ps (m + 1)
          rw [flat_take ps m hlt', List.length_append] at hle2
          obtain ⟨i, hi, hz, hs, hb⟩ := infoEntry
          obtain ⟨v', w', hr, hown', hgrow⟩ := append_seg (P := Tryz.prog) wr w.heap.size 89 89 87 i zEntry 3 40 Tryz.underlying89 hi hz hs hb rfl (by decide) u6 _ _ hownr
            ps[m].1 ps[m].2.length (cellsOf ps[m].2) ((HI.out m hlt').ext hxr) (oneCell_cellsOf _) (by unfold maxLen; omega) (by omega) hxr.size
          have hx' := Ext.grown hxr hownr hgrow
          have ef : flat (ps.take (m + 1)) = flat (ps.take m) ++ ps[m].2 := flat_take ps m hlt'
          have hown2 : w'.ownsRow w.heap.size 87 3 v' (flat (ps.take (m + 1))).length (cellsOf (flat (ps.take (m + 1)))) := by
            rw [ef, List.length_append, cellsOf_append]; exact hown'
          have HR := hid hr
          have HO := hid hown2
          generalize ps[m].1 = pv at HR h1
          clear hi hz hs hb hr hown' hgrow ef hown2 hownr
          go_wp2_with (at_builtin; refine wpList_append_run rfl _ _ 89 89 rfl u6 pv rfl rfl _ _ HR.out ?_)
          go_roundw
          case rel => exact ⟨m + 1, by omega, by go_num, hx', HO.out⟩
          case measure => simp [intOf]; omega
        · have ek' : ps.take m = ps := List.take_of_length_le (by omega)
          rw [ek'] at hownr
          have HO := hid hownr
          clear ek' hownr
          go_wp2_with fail
          go_ret
          exact ⟨_, rfl, hxr, HO.out⟩
end Go.Proofs.YtjohkmkgmbihkaaGreatDoor
