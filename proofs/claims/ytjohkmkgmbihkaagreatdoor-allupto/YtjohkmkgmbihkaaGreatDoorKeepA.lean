/- The laws without the document's answer: small things; the document's examples. -/
import Derived.Test.YtjohkmkgmbihkaaGreatDoorBookE
namespace Go.Proofs.YtjohkmkgmbihkaaGreatDoor
set_option linter.unusedVariables false
open Go.ChangeShapes Go.WideShapes Go.ChangeAt Go.RowKit

/-- Which of n things a raw number speaks of. -/
def pickN (c n : Int) : Int := (if c < 0 then -(c + 1) else c) % n
theorem pickN_bd (c n : Int) (h : 0 < n) : 0 ≤ pickN c n ∧ pickN c n < n := ⟨Int.emod_nonneg _ (by omega), Int.emod_lt_of_pos _ h⟩

set_option maxHeartbeats 400000 in
set_option maxRecDepth 100000 in
theorem pick_any (c n : Int) (hc0 : -9223372036854775808 ≤ c) (hc1 : c ≤ 9223372036854775807) (hn0 : 0 < n) (hn1 : n ≤ 1000) (w : World) :
    Calls Tryz.prog 22 #[.int .i64 c, .int .i64 n] w fun e w' => e = .returned (.int .i64 (pickN c n)) ∧ w' = w := by
  by_cases h : c < 0
  · have HP := hid (show pickN c n = (-(c + 1)) % n by simp [pickN, h])
    have hz : (n == 0) = false := by simp; omega
    go_enter Tryz.func22, Tryz.ntmps22
    go_wp2_with fail
    go_ret
    exact ⟨ret_int (by rw [HP.out, ← Int.tmod_eq_emod_of_nonneg (by omega), Int.neg_tmod]), rfl⟩
  · have HP := hid (show pickN c n = c % n by simp [pickN, h])
    have hz : (n == 0) = false := by simp; omega
    go_enter Tryz.func22, Tryz.ntmps22
    go_wp2_with fail
    go_ret
    exact ⟨ret_int HP.out.symm, rfl⟩

/-- Puts into a book that is there, told by the list alone. -/
def OnBook (w : World) (b : Nat) (L : List It) : Prop := ∃ v, Bk w b v L
theorem OnBook.ext {w w' : World} {b : Nat} {L : List It} (h : OnBook w b L) (hx : Ext w w') : OnBook w' b L := by obtain ⟨v, h⟩ := h; exact ⟨v, h.ext hx⟩
theorem put_on (b : Nat) (L : List It) (k t : ByteArray) (h : Int) (w0 w : World) (hx : Ext w0 w) (hb : w0.heap.size ≤ b) (hB : OnBook w b L) :
    Calls Tryz.prog 21 #[.pointer (some ⟨b, 0, none⟩), .string k, .string t, .int .i64 h] w
      fun e w' => e = .returned (.int .i64 (putE L k t h)) ∧ OnBook w' b (putL L k t h) ∧ Ext w0 w' := by
  obtain ⟨v, hB⟩ := hB
  refine (Put_any b v L k t h w hB).mono ?_
  rintro e w' ⟨rfl, v', hB', hg, _⟩
  exact ⟨rfl, ⟨v', hB'⟩, Below.grown hx hg hx.size (fun k hk => by cases hk; exact hb)⟩
theorem digest_on (b : Nat) (L : List It) (w0 w : World) (hx : Ext w0 w) (hB : OnBook w b L) :
    Calls Tryz.prog 15 #[.pointer (some ⟨b, 0, none⟩)] w fun e w' => e = .returned (.string (dig L)) ∧ OnBook w' b L ∧ Ext w0 w' := by
  obtain ⟨v, hB⟩ := hB
  refine (Digest_any b v L w hB).mono ?_
  rintro e w' ⟨rfl, hx'⟩
  exact ⟨rfl, ⟨v, hB.ext hx'⟩, hx.trans hx'⟩
theorem prove_on (b : Nat) (L : List It) (lo hi : ByteArray) (w0 w : World) (hx : Ext w0 w) (hB : OnBook w b L) :
    Calls Tryz.prog 16 #[.pointer (some ⟨b, 0, none⟩), .string lo, .string hi] w
      fun e w' => e = .returned (.tuple #[.string (proveV L lo hi), .int .i64 (askE lo hi)]) ∧ OnBook w' b L ∧ Ext w0 w' := by
  obtain ⟨v, hB⟩ := hB
  refine (Prove_any b v L lo hi w hB).mono ?_
  rintro e w' ⟨rfl, hx'⟩
  exact ⟨rfl, ⟨v, hB.ext hx'⟩, hx.trans hx'⟩
theorem sum_on (s : ByteArray) (hs : s.size ≤ maxLen) (b : Nat) (L : List It) (w0 w : World) (hx : Ext w0 w) (hB : OnBook w b L) :
    Calls Tryz.prog 24 #[.string s] w fun e w' => e = .returned (.string (Sm.sum s)) ∧ OnBook w' b L ∧ Ext w0 w' := by
  refine (Sum_any s w hs).mono ?_
  rintro e w' ⟨rfl, hx'⟩
  exact ⟨rfl, hB.ext hx', hx.trans hx'⟩

end Go.Proofs.YtjohkmkgmbihkaaGreatDoor
