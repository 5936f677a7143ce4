/- What reads an answer: its small steps. -/
import Derived.Test.YtjohkmkgmbihkaaDoorAnsPlain
import Derived.Test.YtjohkmkgmbihkaaDoorAsC
import Derived.Maps.AppendAt
namespace Go.Proofs.YtjohkmkgmbihkaaDoor
open Go.ChangeShapes Go.WideShapes Go.ChangeAt Go.RowKit
set_option linter.unusedVariables false
/-- The reader's block. -/
def Rd (w : World) (r : Nat) (s : ByteArray) (n : Nat) : Prop := w.heap[r]? = some (.cells #[.string s, .int .i64 n] 66) ∧ s.size ≤ 9223372036854775807 ∧ n ≤ 50
theorem Rd.c0 {w : World} {r n : Nat} {s : ByteArray} (h : Rd w r s n) : w.cell? ⟨r, 0, none⟩ = some (.string s) := cell_of_row _ r 0 _ _ _ h.1
theorem Rd.c1 {w : World} {r n : Nat} {s : ByteArray} (h : Rd w r s n) : w.cell? ⟨r, 1, none⟩ = some (.int .i64 n) := cell_of_row _ r 1 _ _ _ h.1
theorem Rd.f {w : World} {r n : Nat} {s : ByteArray} (h : Rd w r s n) (i : Nat) : w.frozen? ⟨r, i, none⟩ = false := by
  unfold World.frozen?; rw [h.1]; simp
theorem Rd.ext {w w' : World} {r n : Nat} {s : ByteArray} (h : Rd w r s n) (hx : Ext w w') : Rd w' r s n := ⟨hx.row h.1, h.2⟩
theorem Rd.set0 {w : World} {r n : Nat} {s : ByteArray} (h : Rd w r s n) (s' : ByteArray) (hs : s'.size ≤ 9223372036854775807) : Rd (w.setCell ⟨r, 0, none⟩ (.string s')) r s' n ∧ w.grownBy (w.setCell ⟨r, 0, none⟩ (.string s')) (some r) :=
  ⟨⟨by simpa using heap_setCell_same w r 0 _ _ (.string s') h.1, hs, h.2.2⟩, grown_set (Ext.refl w) _⟩
theorem Rd.set1 {w : World} {r n : Nat} {s : ByteArray} (h : Rd w r s n) (n' : Nat) (hn : n' ≤ 50) : Rd (w.setCell ⟨r, 1, none⟩ (.int .i64 n')) r s n' ∧ w.grownBy (w.setCell ⟨r, 1, none⟩ (.int .i64 n')) (some r) :=
  ⟨⟨by simpa using heap_setCell_same w r 1 _ _ (.int .i64 n') h.1, h.2.1, hn⟩,
   ⟨rfl, rfl, rfl, by simp [World.setCell], fun k hk hne => Below.heap_setCell _ _ _ _ (by intro e; exact hne (by rw [e]))⟩⟩
/-- An error of bytes that can't be read. -/
abbrev ErrU (v : Value) : Prop := Chain 69 v
abbrev ErrM (v : Value) : Prop := Chain 70 v

set_option maxHeartbeats 1000000 in
set_option maxRecDepth 100000 in
theorem take_no (r : Nat) (s : ByteArray) (n k : Nat) (w : World) (h : Rd w r s n) (hk : s.size < k) (hk2 : k ≤ 1000) :
    Calls Tryd.prog 42 #[.pointer (some ⟨r, 0, none⟩), .int .i64 k] w fun e w' => (∃ ev, ErrU ev ∧ e = .returned (.tuple #[.string ⟨#[]⟩, ev])) ∧ w' = w := by
  have c0 := h.c0
  have hh := h.2.1
  have hk' : (s.size : Int) < (k : Int) := by omega
  clear h
  go_enter Tryd.func42, Tryd.ntmps42
  go_wp2_with fail
  go_ret2
  exact ⟨⟨_, Chain.base _, rfl⟩, rfl⟩

set_option maxHeartbeats 1000000 in
set_option maxRecDepth 100000 in
theorem take_ok (r : Nat) (s : ByteArray) (n k : Nat) (w : World) (h : Rd w r s n) (hk : k ≤ s.size) :
    Calls Tryd.prog 42 #[.pointer (some ⟨r, 0, none⟩), .int .i64 k] w fun e w' => e = .returned (.tuple #[.string (s.extract 0 k), .nilIface]) ∧ Rd w' r (s.extract k s.size) n ∧ w.grownBy w' (some r) := by
  have c0 := h.c0
  have f0 := h.f 0
  have hh := h.2.1
  have hk' : ¬ (s.size : Int) < (k : Int) := by omega
  have hz : (s.extract k s.size).size ≤ 9223372036854775807 := by rw [ByteArray.size_extract]; omega
  have HR := hid h
  clear h
  go_enter Tryd.func42, Tryd.ntmps42
  go_wp2_with fail
  go_ret2
  exact ⟨rfl, HR.out.set0 _ hz⟩
end Go.Proofs.YtjohkmkgmbihkaaDoor
