/- The walks of the book: changing it. -/
import Derived.Test.YtjohkmkgmbihkaaGreatDoorBookB
namespace Go.Proofs.YtjohkmkgmbihkaaGreatDoor
set_option linter.unusedVariables false
open Go.ChangeShapes Go.WideShapes Go.ChangeAt Go.RowKit

def delE (L : List It) (k : ByteArray) : Int := if keyB k then if has L k then 0 else 5 else 1
def delL (L : List It) (k : ByteArray) : List It := if keyB k && has L k then del L k else L
def putE (L : List It) (k t : ByteArray) (h : Int) : Int := if fault k t h = 0 then if decide (L.length < 50) || has L k then 0 else 4 else fault k t h
def putL (L : List It) (k t : ByteArray) (h : Int) : List It := if putE L k t h = 0 then put L ⟨k, t, h.toNat⟩ else L
theorem Good.del {L : List It} (hg : Good L) (k : ByteArray) : Good (del L k) := by
  refine ⟨del_sorted hg.1 k, ?_, ?_⟩
  · have := plc_le L k; have := hg.2.1; simp [Go.Proofs.YtjohkmkgmbihkaaGreatDoor.del]; omega
  · intro x hx
    refine hg.2.2 x ?_
    rcases List.mem_append.1 hx with h | h
    · exact List.mem_of_mem_take h
    · exact List.mem_of_mem_drop h
theorem Good.delL {L : List It} (hg : Good L) (k : ByteArray) : Good (delL L k) := by unfold Go.Proofs.YtjohkmkgmbihkaaGreatDoor.delL; split; exact hg.del k; exact hg
theorem Good.put {L : List It} (hg : Good L) (x : It) (hx : keyB x.key = true ∧ valB x.val = true ∧ x.h ≤ 15) (hf : L.length < 50 ∨ has L x.key = true) : Good (put L x) := by
  refine ⟨put_sorted hg.1 x, ?_, ?_⟩
  · rw [put_length]; have := hg.2.1; split
    · exact this
    · rename_i h; rcases hf with hf | hf
      · omega
      · exact absurd hf h
  · intro y hy
    unfold Go.Proofs.YtjohkmkgmbihkaaGreatDoor.put at hy
    rcases List.mem_append.1 hy with h | h
    · exact hg.2.2 y (List.mem_of_mem_take h)
    · rcases List.mem_cons.1 h with rfl | h
      · exact hx
      · exact hg.2.2 y (List.mem_of_mem_drop h)
theorem putE_zero {L : List It} {k t : ByteArray} {h : Int} (e : putE L k t h = 0) : keyB k = true ∧ valB t = true ∧ (0 ≤ h ∧ h ≤ 15) ∧ (L.length < 50 ∨ has L k = true) := by
  unfold putE at e
  by_cases hf : fault k t h = 0
  · rw [if_pos hf] at e
    have : decide (L.length < 50) || has L k := by
      cases q : (decide (L.length < 50) || has L k) with
      | true => rfl
      | false => rw [q] at e; simp at e
    unfold fault at hf
    cases h1 : keyB k with
    | false => rw [h1] at hf; simp at hf
    | true =>
      cases h2 : valB t with
      | false => rw [h1, h2] at hf; simp at hf
      | true =>
        cases h3 : hgtB h with
        | false => rw [h1, h2, h3] at hf; simp at hf
        | true => exact ⟨rfl, rfl, by simpa [hgtB] using h3, by simpa using this⟩
  · rw [if_neg hf] at e; exact absurd e hf
theorem Good.putL {L : List It} (hg : Good L) (k t : ByteArray) (h : Int) : Good (putL L k t h) := by
  unfold Go.Proofs.YtjohkmkgmbihkaaGreatDoor.putL
  split
  · rename_i e
    obtain ⟨h1, h2, h3, h4⟩ := putE_zero e
    exact hg.put _ ⟨h1, h2, by show h.toNat ≤ 15; omega⟩ h4
  · exact hg

/-- A store into a book's one cell. -/
theorem Bk.set {w w1 : World} {b : Nat} {v v' : Value} {L L' : List It} (h : Bk w b v L) (hx : Ext w w1) (ho : w1.ownsRow w.heap.size 87 3 v' L'.length (cellsOf L')) (hg : Good L') :
    Bk (w1.setCell ⟨b, 0, none⟩ v') b v' L' ∧ w.grownBy (w1.setCell ⟨b, 0, none⟩ v') (some b) ∧ (∀ g, v'.ownBlock = some g → w.heap.size ≤ g) := by
  have hlt := h.lt
  refine ⟨⟨?_, ?_, hg⟩, ⟨hx.os, hx.tape, hx.output, ?_, ?_⟩, fun g hg' => (ho.lt g hg').1⟩
  · have := heap_setCell_same w1 b 0 #[v] 91 v' (hx.row h.1)
    simpa using this
  · exact ownsRow_setCell_below ho (by exact hlt) v' |> fun q => owns_base q (Nat.zero_le _)
  · simpa [World.setCell] using hx.size
  · intro k hk hne
    rw [Below.heap_setCell _ _ _ _ (by intro q; subst q; exact hne rfl), hx.block k hk]
theorem Ext.mod {w w' : World} (hx : Ext w w') (b : Nat) : w.grownBy w' (some b) := ⟨hx.os, hx.tape, hx.output, hx.size, fun k hk _ => hx.block k hk⟩

set_option maxHeartbeats 400000 in
set_option maxRecDepth 100000 in
theorem Delete_any (b : Nat) (v : Value) (L : List It) (k : ByteArray) (w : World) (hB : Bk w b v L) :
    Calls Tryz.prog 37 #[.pointer (some ⟨b, 0, none⟩), .string k] w
      fun e w' => e = .returned (.int .i64 (delE L k)) ∧ ∃ v', Bk w' b v' (delL L k) ∧ w.grownBy w' (some b) ∧ (v' = v ∨ ∀ g, v'.ownBlock = some g → w.heap.size ≤ g) := by
  have HB := hid hB
  clear hB
  cases e1 : keyB k with
  | false =>
    have G1 := hid (show delE L k = 1 by simp [delE, e1])
    have G2 := hid (show delL L k = L by simp [delL, e1])
    have E1 := hid e1
    clear e1
    go_enter Tryz.func37, Tryz.ntmps37
    go_wp2_with fail
    refine (IsKey_any _ _).mono ?_
    rintro e w1 ⟨rfl, rfl⟩
    rw [E1.out]
    go_wp2_with fail
    go_ret
    exact ⟨ret_int G1.out.symm, v, by rw [G2.out]; exact HB.out, (Ext.refl _).mod b, .inl rfl⟩
  | true =>
    cases e2 : has L k with
    | false =>
      have G1 := hid (show delE L k = 5 by simp [delE, e1, e2])
      have G2 := hid (show delL L k = L by simp [delL, e1, e2])
      have E1 := hid e1
      have E2 := hid e2
      clear e1 e2
      go_enter Tryz.func37, Tryz.ntmps37
      go_wp2_with fail
      refine (IsKey_any _ _).mono ?_
      rintro e w1 ⟨rfl, rfl⟩
      rw [E1.out]
      go_wp2_with fail
      refine (kept_any b v _ (Bk.cell HB.out)).mono ?_
      rintro e w1 ⟨rfl, rfl⟩
      go_wp2_with fail
      refine (Has_any L HB.out.2.2.1 HB.out.2.2.2.1 _ k _ (Bk.its HB.out)).mono ?_
      rintro e w1 ⟨rfl, hx⟩
      rw [E2.out]
      go_wp2_with fail
      go_ret
      exact ⟨ret_int G1.out.symm, v, by rw [G2.out]; exact Bk.ext HB.out hx, hx.mod b, .inl rfl⟩
    | true =>
      have G1 := hid (show delE L k = 0 by simp [delE, e1, e2])
      have G2 := hid (show delL L k = del L k by simp [delL, e1, e2])
      have E1 := hid e1
      have E2 := hid e2
      clear e1 e2
      go_enter Tryz.func37, Tryz.ntmps37
      go_wp2_with fail
      refine (IsKey_any _ _).mono ?_
      rintro e w1 ⟨rfl, rfl⟩
      rw [E1.out]
      go_wp2_with fail
      refine (kept_any b v _ (Bk.cell HB.out)).mono ?_
      rintro e w1 ⟨rfl, rfl⟩
      go_wp2_with fail
      refine (Has_any L HB.out.2.2.1 HB.out.2.2.2.1 _ k _ (Bk.its HB.out)).mono ?_
      rintro e w1 ⟨rfl, hx⟩
      rw [E2.out]
      have hc := Bk.cell (Bk.ext HB.out hx)
      go_wp2_with fail
      refine (Without_any L HB.out.2.2.1 HB.out.2.2.2.1 k E2.out _ _ (Bk.its (Bk.ext HB.out hx))).mono ?_
      rintro e w2 ⟨v', rfl, hx2, ho⟩
      have hx3 := hx.trans hx2
      have hc2 := Bk.cell (Bk.ext HB.out hx3)
      have hf2 := Bk.frozen (Bk.ext HB.out hx3)
      obtain ⟨a', n', c', e'⟩ : ∃ a n c, v' = .slice a n c := by obtain ⟨a, c, e, _⟩ := (Its.own ho).shape; exact ⟨_, _, _, e⟩
      have HO := hid (owns_base ho hx.size)
      clear ho
      rw [e']
      rw [e'] at HO
      go_wp2_with fail
      go_ret
      obtain ⟨q1, q2, q3⟩ := Bk.set HB.out hx3 HO.out (HB.out.2.2.del k)
      exact ⟨ret_int G1.out.symm, _, by rw [G2.out]; exact q1, q2, .inr q3⟩
end Go.Proofs.YtjohkmkgmbihkaaGreatDoor
