/- What the steps of a filling come to: plain mathematics. -/
import Derived.Test.YtjohkmkgmbihkaaGreatDoorKeepD
namespace Go.Proofs.YtjohkmkgmbihkaaGreatDoor
set_option linter.unusedVariables false
open Go.RowKit
/-- A step. -/
structure St where
  key : Int
  h : Int
  out : Int
  val : ByteArray
def St.cells (s : St) : List Value := [.int .i64 s.key, .int .i64 s.h, .int .i64 s.out, .string s.val]
def I64 (c : Int) : Prop := -9223372036854775808 ≤ c ∧ c ≤ 9223372036854775807
def St.Ok (s : St) : Prop := I64 s.key ∧ I64 s.h ∧ I64 s.out ∧ s.val.size ≤ maxLen
/-- The first. -/
def st0 : St := ⟨7, 3, 0, ⟨#[102, 105, 114, 115, 116]⟩⟩
theorem st0_ok : st0.Ok := ⟨⟨by decide, by decide⟩, ⟨by decide, by decide⟩, ⟨by decide, by decide⟩, by decide⟩
def putS (L : List It) (s : St) : List It := putL L (keyC s.key) (cutB s.val 20) (pickN s.h 16)
def stepL (L : List It) (s : St) : List It := if pickN s.out 3 = 0 then delL L (keyC s.key) else putS L s
/-- After so many rounds. -/
def fillTo (ss : List St) : Nat → List It
  | 0 => []
  | j + 1 => if j = 0 then putS [] st0 else stepL (fillTo ss j) (ss.getD (j - 1) st0)
theorem fillTo_one (ss : List St) : fillTo ss 1 = putS [] st0 := rfl
theorem fillTo_succ (ss : List St) (j : Nat) (h : j < ss.length) : fillTo ss (j + 2) = stepL (fillTo ss (j + 1)) ss[j] := by
  rw [fillTo, if_neg (by omega)]
  simp [List.getD, h]
/-- What was filled in. -/
def fillL (ss : List St) : List It := fillTo ss (min ss.length 60 + 1)

theorem keyN_size (v : Nat) : 1 ≤ (keyN v).size ∧ (keyN v).size ≤ 2 := by
  unfold keyN; split
  · rw [byte_size]; omega
  · rw [ByteArray.size_append, byte_size, byte_size]; omega
theorem keyC_lt (c : Int) : (pickN c 30).toNat < 30 := by have := pickN_bd c 30 (by omega); omega
theorem keyC_key (c : Int) : keyB (keyC c) = true := by
  have := keyN_size (pickN c 30).toNat
  simp only [keyB, keyC]; exact decide_eq_true ⟨this.1, by omega⟩
/-- Only the thirty keys. -/
def K30 (L : List It) : Prop := ∀ x ∈ L, ∃ v, v < 30 ∧ x.key = keyN v
theorem nodup_le {α : Type} [DecidableEq α] : ∀ (l m : List α), l.Nodup → (∀ x ∈ l, x ∈ m) → l.length ≤ m.length
  | [], _, _, _ => Nat.zero_le _
  | a :: l, m, hn, hs => by
    have ha : a ∈ m := hs a (List.mem_cons_self ..)
    obtain ⟨h1, h2⟩ := List.nodup_cons.1 hn
    have := nodup_le l (m.erase a) h2 (fun x hx => (List.mem_erase_of_ne (by rintro rfl; exact h1 hx)).2 (hs x (List.mem_cons_of_mem _ hx)))
    rw [List.length_erase_of_mem ha] at this
    have hp : 0 < m.length := List.length_pos_of_mem ha
    simp; omega
theorem K30.len {L : List It} (hk : K30 L) (hs : Sorted L) : L.length ≤ 30 := by
  have hn : (L.map It.key).Nodup := by
    unfold List.Nodup
    rw [List.pairwise_map]
    refine List.Pairwise.imp ?_ hs
    intro a b h e
    rw [e, lt_irrefl] at h; cases h
  have := nodup_le (L.map It.key) ((List.range 30).map keyN) hn (by
    intro x hx
    obtain ⟨y, hy, rfl⟩ := List.mem_map.1 hx
    obtain ⟨v, hv, e⟩ := hk y hy
    exact List.mem_map.2 ⟨v, List.mem_range.2 hv, e.symm⟩)
  simpa using this
theorem mem_put {L : List It} {x y : It} (h : y ∈ put L x) : y = x ∨ y ∈ L := by
  unfold put at h
  rcases List.mem_append.1 h with h | h
  · exact .inr (List.mem_of_mem_take h)
  · rcases List.mem_cons.1 h with rfl | h
    · exact .inl rfl
    · exact .inr (List.mem_of_mem_drop h)
theorem mem_del {L : List It} {k : ByteArray} {y : It} (h : y ∈ del L k) : y ∈ L := by
  unfold del at h
  rcases List.mem_append.1 h with h | h
  · exact List.mem_of_mem_take h
  · exact List.mem_of_mem_drop h
theorem mem_delL {L : List It} {k : ByteArray} {y : It} (h : y ∈ delL L k) : y ∈ L := by
  unfold delL at h; split at h
  · exact mem_del h
  · exact h
theorem K30.putS {L : List It} (hk : K30 L) (s : St) : K30 (putS L s) := by
  intro x hx
  unfold Go.Proofs.YtjohkmkgmbihkaaGreatDoor.putS putL at hx
  split at hx
  · rcases mem_put hx with rfl | hx
    · exact ⟨_, keyC_lt s.key, rfl⟩
    · exact hk x hx
  · exact hk x hx
theorem K30.delL {L : List It} (hk : K30 L) (k : ByteArray) : K30 (delL L k) := fun x hx => hk x (mem_delL hx)
theorem K30.nil : K30 [] := fun x h => by cases h
theorem fault_step (s : St) : fault (keyC s.key) (cutB s.val 20) (pickN s.h 16) = 0 := by
  have h1 := keyC_key s.key
  have h2 : valB (cutB s.val 20) = true := decide_eq_true (cutB_size _ _)
  have h3 : hgtB (pickN s.h 16) = true := by have := pickN_bd s.h 16 (by omega); exact decide_eq_true ⟨this.1, by omega⟩
  simp [fault, h1, h2, h3]
/-- A step's Put is taken. -/
theorem putE_step {L : List It} (hk : K30 L) (hs : Sorted L) (s : St) : putE L (keyC s.key) (cutB s.val 20) (pickN s.h 16) = 0 := by
  have := hk.len hs
  unfold putE
  rw [if_pos (fault_step s)]
  simp; omega
theorem putS_put {L : List It} (hk : K30 L) (hs : Sorted L) (s : St) : putS L s = put L ⟨keyC s.key, cutB s.val 20, (pickN s.h 16).toNat⟩ := by
  unfold putS putL; rw [if_pos (putE_step hk hs s)]
theorem Good.putS {L : List It} (hg : Good L) (s : St) : Good (putS L s) := hg.putL _ _ _
theorem fill_good (ss : List St) : ∀ j, Good (fillTo ss j) ∧ K30 (fillTo ss j)
  | 0 => ⟨Good.nil, K30.nil⟩
  | j + 1 => by
    have ih := fill_good ss j
    rw [fillTo]
    split
    · exact ⟨Good.nil.putS _, K30.nil.putS _⟩
    · unfold stepL; split
      · exact ⟨ih.1.delL _, ih.2.delL _⟩
      · exact ⟨ih.1.putS _, ih.2.putS _⟩

/-- A list's pairs. -/
def prs (L : List It) : List Pr := L.map It.pr
theorem prs_length (L : List It) : (prs L).length = L.length := by simp [prs]
theorem prs_get (L : List It) (i : Nat) (h : i < L.length) : (prs L)[i]'(by simpa [prs] using h) = (L[i].key, L[i].val) := by simp [prs, It.pr]
theorem prs_put {L : List It} (x : It) : prs (put L x) = (prs L).take (plc L x.key) ++ [x.pr] ++ (prs L).drop (if has L x.key then plc L x.key + 1 else plc L x.key) := by
  simp [prs, put, List.map_take, List.map_drop]
theorem prs_del {L : List It} (k : ByteArray) (hk : keyB k = true) : prs (delL L k) = (prs L).take (plc L k) ++ (prs L).drop (if has L k then plc L k + 1 else plc L k) := by
  unfold delL
  cases h : has L k with
  | true => simp [hk, prs, del, List.map_take, List.map_drop]
  | false => simp [hk]
end Go.Proofs.YtjohkmkgmbihkaaGreatDoor
