/- Shaped: two books, the one filled as the steps come, the other by another way. -/
import Derived.Test.YtjohkmkgmbihkaaKeepF
import Derived.Test.YtjohkmkgmbihkaaShapedA
import Derived.Deep.RegionHeld3
import Derived.Deep.DeepCutAuto
namespace Go.Proofs.Ytjohkmkgmbihkaa
set_option linter.unusedVariables false
open Go.ChangeShapes Go.WideShapes Go.ChangeAt Go.RowKit
attribute [local go_sem ↓] Go.wp_at_zero Go.wp_at_succ

def itK (s : St) : It := ⟨⟨#[107]⟩ ++ keyC s.key, cutB s.val 20, (pickN s.h 16).toNat⟩
def itX (s : St) : It := ⟨⟨#[120]⟩ ++ keyC s.out, ⟨#[]⟩, (pickN s.h 16).toNat⟩
theorem pre_size (c : UInt8) (k : Int) : 2 ≤ (⟨#[c]⟩ ++ keyC k : ByteArray).size ∧ (⟨#[c]⟩ ++ keyC k : ByteArray).size ≤ 3 := by
  have := keyN_size (pickN k 30).toNat
  have e : (⟨#[c]⟩ ++ keyC k : ByteArray).size = 1 + (keyC k).size := by rw [ByteArray.size_append]; rfl
  unfold keyC at e ⊢
  omega
theorem pre_key (c : UInt8) (k : Int) : keyB (⟨#[c]⟩ ++ keyC k) = true := by
  have := pre_size c k
  exact decide_eq_true (by omega)
theorem pre_cut (c : UInt8) (k : Int) : cutB (⟨#[c]⟩ ++ keyC k) 8 = ⟨#[c]⟩ ++ keyC k := by
  have := pre_size c k
  unfold cutB
  rw [if_neg (by omega)]
theorem puts_length (L xs : List It) : (puts L xs).length ≤ L.length + xs.length := by
  induction xs generalizing L with
  | nil => simp [puts]
  | cons x xs ih =>
    show (puts (put L x) xs).length ≤ _
    have := ih (put L x)
    have h2 := put_length L x
    simp only [List.length_cons]
    split at h2 <;> omega
theorem put_taken {L : List It} {k t : ByteArray} {h : Int} (hk : keyB k = true) (ht : valB t = true) (hh : hgtB h = true) (hl : L.length < 50) : putE L k t h = 0 ∧ putL L k t h = put L ⟨k, t, h.toNat⟩ := by
  have : putE L k t h = 0 := by simp [putE, fault, hk, ht, hh, hl]
  exact ⟨this, by rw [putL, if_pos this]⟩
theorem hgt16 (c : Int) : hgtB (pickN c 16) = true := by have := pickN_bd c 16 (by omega); exact decide_eq_true ⟨this.1, by omega⟩
theorem OnBook.other {w w' : World} {a b : Nat} {L M : List It} (h : OnBook w b L) (ha : OnBook w a M) (hne : b ≠ a) (hg : w.grownBy w' (some a)) : OnBook w' b L := by
  obtain ⟨v, h1, h2, h3⟩ := h
  obtain ⟨u, k1, k2, k3⟩ := ha
  refine ⟨v, ?_, World.ownsRow.kept h2 hg ?_, h3⟩
  · rw [hg.block b (row_lt h1) (by simpa using hne)]; exact h1
  · cases hq : v.ownBlock with
    | none => exact .inl rfl
    | some g =>
      right
      intro e
      rw [← hq] at e
      exact Go.Proofs.Ytjohkmkgmbihkaa.row_ne k1 h2 (by decide) e
theorem newOn (w : World) : Calls Try.prog 9 #[] w fun e w' => e = .returned (.pointer (some ⟨w.heap.size, 0, none⟩)) ∧ Ext w w' ∧ OnBook w' w.heap.size [] ∧ w.heap.size < w'.heap.size :=
  (New_any w).mono fun e w' ⟨h1, h2, h3⟩ => ⟨h1, h2, ⟨_, h3⟩, h3.lt⟩

/-- Two books beside one another, both newer than w. -/
def Two (w wx : World) (a b : Nat) (A M : List It) : Prop := a ≠ b ∧ w.heap.size ≤ a ∧ w.heap.size ≤ b ∧ OnBook wx a A ∧ OnBook wx b M ∧ Ext w wx
theorem Two.swap {w wx : World} {a b : Nat} {A M : List It} (h : Two w wx a b A M) : Two w wx b a M A := ⟨Ne.symm h.1, h.2.2.1, h.2.1, h.2.2.2.2.1, h.2.2.2.1, h.2.2.2.2.2⟩
theorem Two.ext {w wx w' : World} {a b : Nat} {A M : List It} (h : Two w wx a b A M) (hx : Ext wx w') : Two w w' a b A M :=
  ⟨h.1, h.2.1, h.2.2.1, h.2.2.2.1.ext hx, h.2.2.2.2.1.ext hx, h.2.2.2.2.2.trans hx⟩
theorem Two.put {w wx w' : World} {a b : Nat} {A M : List It} (h : Two w wx a b A M) (hx : Ext wx w') (k t : ByteArray) (i : Int) :
    Calls Try.prog 12 #[.pointer (some ⟨a, 0, none⟩), .string k, .string t, .int .i64 i] w' fun e w'' =>
      e = .returned (.int .i64 (putE A k t i)) ∧ Two w w'' a b (putL A k t i) M ∧ w'.grownBy w'' (some a) := by
  obtain ⟨h1, h2, h3, h4, h5, h6⟩ := h.ext hx
  refine (put_bk a A k t i w' h4).mono ?_
  rintro e w'' ⟨rfl, hB, hg⟩
  exact ⟨rfl, ⟨h1, h2, h3, hB, h5.other h4 (Ne.symm h1) hg, h6.book h2 hg⟩, hg⟩
theorem Two.del {w wx w' : World} {a b : Nat} {A M : List It} (h : Two w wx a b A M) (hx : Ext wx w') (k : ByteArray) :
    Calls Try.prog 21 #[.pointer (some ⟨a, 0, none⟩), .string k] w' fun e w'' =>
      e = .returned (.int .i64 (delE A k)) ∧ Two w w'' a b (delL A k) M ∧ w'.grownBy w'' (some a) := by
  obtain ⟨h1, h2, h3, h4, h5, h6⟩ := h.ext hx
  refine (del_bk a A k w' h4).mono ?_
  rintro e w'' ⟨rfl, hB, hg⟩
  exact ⟨rfl, ⟨h1, h2, h3, hB, h5.other h4 (Ne.symm h1) hg, h6.book h2 hg⟩, hg⟩
/-- So, with the list that came out of the first. -/
def Sh (w wx : World) (a b : Nat) (lv : Value) (P : List Pr) (A M : List It) : Prop := Two w wx a b A M ∧ Prs wx lv P ∧ lv.ownBlock ≠ some b
theorem Sh.ext {w wx w' : World} {a b : Nat} {lv : Value} {P : List Pr} {A M : List It} (h : Sh w wx a b lv P A M) (hx : Ext wx w') : Sh w w' a b lv P A M := ⟨h.1.ext hx, h.2.1.ext hx, h.2.2⟩
theorem Sh.put {w wx w' : World} {a b : Nat} {lv : Value} {P : List Pr} {A M : List It} (h : Sh w wx a b lv P A M) (hx : Ext wx w') (k t : ByteArray) (i : Int) :
    Calls Try.prog 12 #[.pointer (some ⟨b, 0, none⟩), .string k, .string t, .int .i64 i] w' fun e w'' =>
      e = .returned (.int .i64 (putE M k t i)) ∧ Sh w w'' a b lv P A (putL M k t i) := by
  refine (h.1.swap.put hx k t i).mono ?_
  rintro e w'' ⟨rfl, h2, hg⟩
  exact ⟨rfl, h2.swap, Seg.kept (h.2.1.ext hx) hg (.inr h.2.2), h.2.2⟩
theorem Sh.del {w wx w' : World} {a b : Nat} {lv : Value} {P : List Pr} {A M : List It} (h : Sh w wx a b lv P A M) (hx : Ext wx w') (k : ByteArray) :
    Calls Try.prog 21 #[.pointer (some ⟨b, 0, none⟩), .string k] w' fun e w'' =>
      e = .returned (.int .i64 (delE M k)) ∧ Sh w w'' a b lv P A (delL M k) := by
  refine (h.1.swap.del hx k).mono ?_
  rintro e w'' ⟨rfl, h2, hg⟩
  exact ⟨rfl, h2.swap, Seg.kept (h.2.1.ext hx) hg (.inr h.2.2), h.2.2⟩
/-- cut at the numbers of the text. -/
theorem cut8 (s : ByteArray) (hs : s.size ≤ 8) (w : World) : Calls Try.prog 20 #[.string s, .int .i64 8] w fun e w' => e = .returned (.string s) ∧ w' = w := by
  refine (cut_any s 8 (by omega) (by unfold maxLen; omega) w).mono ?_
  rintro e w' ⟨rfl, h⟩
  refine ⟨?_, h⟩
  unfold cutB; rw [if_neg (by omega)]
theorem cut20 (s : ByteArray) (hs : s.size ≤ maxLen) (w : World) : Calls Try.prog 20 #[.string s, .int .i64 20] w fun e w' => e = .returned (.string (cutB s 20)) ∧ w' = w := cut_any s 20 (by omega) hs w
end Go.Proofs.Ytjohkmkgmbihkaa
