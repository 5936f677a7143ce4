/- The walks of the book: changing it. -/
import Derived.Test.YtjohkmkgmbihkaaDoorBookB
namespace Go.Proofs.YtjohkmkgmbihkaaDoor
set_option linter.unusedVariables false
open Go.ChangeShapes Go.WideShapes Go.ChangeAt Go.RowKit

def delE (L : List It) (k : ByteArray) : Int := if keyB k then if has L k then 0 else 5 else 1
def delL (L : List It) (k : ByteArray) : List It := if keyB k && has L k then del L k else L
def putE (L : List It) (k t : ByteArray) (h : Int) : Int := if fault k t h = 0 then if decide (L.length < 50) || has L k then 0 else 4 else fault k t h
def putL (L : List It) (k t : ByteArray) (h : Int) : List It := if putE L k t h = 0 then put L ⟨k, t, h.toNat⟩ else L
theorem Good.del {L : List It} (hg : Good L) (k : ByteArray) : Good (del L k) := by
  refine ⟨del_sorted hg.1 k, ?_, ?_⟩
  · have := plc_le L k; have := hg.2.1; simp [Go.Proofs.YtjohkmkgmbihkaaDoor.del]; omega
  · intro x hx
    refine hg.2.2 x ?_
    rcases List.mem_append.1 hx with h | h
    · exact List.mem_of_mem_take h
    · exact List.mem_of_mem_drop h
theorem Good.delL {L : List It} (hg : Good L) (k : ByteArray) : Good (delL L k) := by unfold Go.Proofs.YtjohkmkgmbihkaaDoor.delL; split; exact hg.del k; exact hg
theorem Good.put {L : List It} (hg : Good L) (x : It) (hx : keyB x.key = true ∧ valB x.val = true ∧ x.h ≤ 15) (hf : L.length < 50 ∨ has L x.key = true) : Good (put L x) := by
  refine ⟨put_sorted hg.1 x, ?_, ?_⟩
  · rw [put_length]; have := hg.2.1; split
    · exact this
    · rename_i h; rcases hf with hf | hf
      · omega
      · exact absurd hf h
  · intro y hy
    unfold Go.Proofs.YtjohkmkgmbihkaaDoor.put at hy
    rcases List.mem_append.1 hy with h | h
    · exact hg.2.2 y (List.mem_of_mem_take h)
    · rcases List.mem_cons.1 h with rfl | h
      · exact hx
      · exact hg.2.2 y (List.mem_of_mem_drop h)
theorem putE_zero {L : List It} {k t : ByteArray} {h : Int} (e : putE L k t h = 0) : keyB k = true ∧ valB t = true ∧ (0 ≤ h ∧ h ≤ 15) ∧ (L.length < 50 ∨ has L k = true) := by
  unfold putE at e
  by_cases hf : fault k t h = 0
  · rw [if_pos hf] at e
    have : decide (L.length < 50) || has L k := by
      cases q : (decide (L.length < 50) || has L k) with
      | true => rfl
      | false => rw [q] at e; simp at e
    unfold fault at hf
    cases h1 : keyB k with
    | false => rw [h1] at hf; simp at hf
    | true =>
      cases h2 : valB t with
      | false => rw [h1, h2] at hf; simp at hf
      | true =>
        cases h3 : hgtB h with
        | false => rw [h1, h2, h3] at hf; simp at hf
        | true => exact ⟨rfl, rfl, by simpa [hgtB] using h3, by simpa using this⟩
  · rw [if_neg hf] at e; exact absurd e hf
theorem Good.putL {L : List It} (hg : Good L) (k t : ByteArray) (h : Int) : Good (putL L k t h) := by
  unfold Go.Proofs.YtjohkmkgmbihkaaDoor.putL
  split
  · rename_i e
    obtain ⟨h1, h2, h3, h4⟩ := putE_zero e
    exact hg.put _ ⟨h1, h2, by show h.toNat ≤ 15; omega⟩ h4
  · exact hg

theorem Ext.mod {w w' : World} (hx : Ext w w') (b : Nat) : w.grownBy w' (some b) := ⟨hx.os, hx.tape, hx.output, hx.size, fun k hk _ => hx.block k hk⟩

end Go.Proofs.YtjohkmkgmbihkaaDoor
