/- What reads an answer: numbers, texts, entries. -/
import Derived.Test.YtjohkmkgmbihkaaDoorAnsA
namespace Go.Proofs.YtjohkmkgmbihkaaDoor
open Go.ChangeShapes Go.WideShapes Go.ChangeAt Go.RowKit
set_option linter.unusedVariables false
theorem ext_byte (s : ByteArray) (h : 1 ≤ s.size) : ∃ c, s.extract 0 1 = ⟨#[c]⟩ ∧ c = s.data.getD 0 0 := by
  refine ⟨s.data.getD 0 0, ?_, rfl⟩
  apply ByteArray.ext
  have h' : 0 < s.data.size := h
  apply Array.ext
  · simp; omega
  · intro i h1 h2
    simp at h2
    subst h2
    show (s.extract 0 1).data[0] = s.data.getD 0 0
    rw [Array.getD, dif_pos h']
    simp [ByteArray.data_extract]

theorem wrap_byte (c : UInt8) : wrap64 (c.toNat : Int) = (c.toNat : Int) := by
  have := c.toNat_lt
  unfold wrap64
  omega
set_option maxHeartbeats 1000000 in
set_option maxRecDepth 100000 in
theorem rnumber_any (r : Nat) (s : ByteArray) (n : Nat) (w : World) (h : Rd w r s n) :
    Calls Tryd.prog 68 #[.pointer (some ⟨r, 0, none⟩)] w fun e w' => w.grownBy w' (some r) ∧ match num s with
      | none => ∃ ev, ErrU ev ∧ e = .returned (.tuple #[.int .i64 0, ev])
      | some (k, s') => e = .returned (.tuple #[.int .i64 (k : Int), .nilIface]) ∧ Rd w' r s' n := by
  by_cases hs : s.size < 1
  · have en : num s = none := by unfold num; rw [if_pos hs]
    rw [en]
    have HR := hid h
    clear h en
    go_enter Tryd.func68, Tryd.ntmps68
    go_wp2_with fail
    refine (take_no r s n 1 w HR.out hs (by omega)).mono ?_
    rintro e w' ⟨⟨ev, hev, rfl⟩, hw⟩
    replace hw := hw.symm
    subst hw
    obtain ⟨t1, u1, rfl⟩ := hev.iface
    have HE := hid hev
    clear hev
    go_wp2_with fail
    go_ret2
    exact ⟨World.grownBy.refl _ _, _, HE.out, rfl⟩
  · have en : num s = some ((s.data.getD 0 0).toNat, s.extract 1 s.size) := by unfold num; rw [if_neg hs]
    rw [en]
    have HR := hid h
    clear h en
    obtain ⟨c, hc, hcd⟩ := ext_byte s (by omega)
    rw [← hcd]
    go_enter Tryd.func68, Tryd.ntmps68
    go_wp2_with fail
    refine (take_ok r s n 1 w HR.out (by omega)).mono ?_
    rintro e w' ⟨rfl, hr, hg⟩
    have H1 := hid hr
    have H2 := hid hg
    rw [hc]
    clear hr hg hc hcd
    go_wp2_with fail
    go_ret2
    have hw : wrap64 (c.toNat : Int) = (c.toNat : Int) := wrap_byte c
    refine ⟨H2.out, ?_, H1.out⟩
    show Ending.returned (Value.tuple #[Value.int IntKind.i64 (wrap64 (c.toNat : Int)), Value.nilIface]) = _
    rw [hw]

/-- A text behind its length. -/
theorem tk_none {s : ByteArray} {n : Nat} (h : tk s n = none) : s.size < n := by
  unfold tk at h; split at h
  · assumption
  · cases h
set_option maxHeartbeats 1000000 in
set_option maxRecDepth 100000 in
theorem rmeasured_any (r : Nat) (s : ByteArray) (n : Nat) (w : World) (h : Rd w r s n) :
    Calls Tryd.prog 67 #[.pointer (some ⟨r, 0, none⟩)] w fun e w' => w.grownBy w' (some r) ∧ match meas s with
      | none => ∃ ev, ErrU ev ∧ e = .returned (.tuple #[.string ⟨#[]⟩, ev])
      | some (k, s') => e = .returned (.tuple #[.string k, .nilIface]) ∧ Rd w' r s' n := by
  have hn := rnumber_any r s n w h
  unfold meas
  cases en : num s with
  | none =>
    rw [en] at hn
    have HN := hid hn
    clear hn en
    go_enter Tryd.func67, Tryd.ntmps67
    go_wp2_with fail
    refine HN.out.mono ?_
    rintro e w1 ⟨hg, ev, hev, rfl⟩
    obtain ⟨t1, u1, rfl⟩ := hev.iface
    have HE := hid hev
    have H2 := hid hg
    clear hev hg
    go_wp2_with fail
    go_ret2
    exact ⟨H2.out, _, HE.out, rfl⟩
  | some p =>
    obtain ⟨k, s1⟩ := p
    rw [en] at hn
    have hk := (num_lt en).1
    have HN := hid hn
    clear hn en
    simp only
    cases et : tk s1 k with
    | none =>
      have hlt := tk_none et
      clear et
      go_enter Tryd.func67, Tryd.ntmps67
      go_wp2_with fail
      refine HN.out.mono ?_
      rintro e w1 ⟨hg, rfl, hr⟩
      have H1 := hid hr
      have H2 := hid hg
      clear hr hg
      go_wp2_with fail
      refine (take_no r s1 n k w1 H1.out hlt (by omega)).mono ?_
      rintro e w2 ⟨⟨ev, hev, rfl⟩, hw⟩
      replace hw := hw.symm
      subst hw
      obtain ⟨t1, u1, rfl⟩ := hev.iface
      have HE := hid hev
      clear hev
      go_wp2_with fail
      go_ret2
      exact ⟨H2.out, _, HE.out, rfl⟩
    | some q =>
      obtain ⟨t, s2⟩ := q
      obtain ⟨ht1, ht2, rfl, rfl⟩ := tk_size et
      clear et ht1
      go_enter Tryd.func67, Tryd.ntmps67
      go_wp2_with fail
      refine HN.out.mono ?_
      rintro e w1 ⟨hg, rfl, hr⟩
      have H1 := hid hr
      have H2 := hid hg
      clear hr hg
      go_wp2_with fail
      refine (take_ok r s1 n k w1 H1.out (by omega)).mono ?_
      rintro e w2 ⟨rfl, hr2, hg2⟩
      have H3 := hid hr2
      have H4 := hid hg2
      clear hr2 hg2
      go_wp2_with fail
      go_ret2
      exact ⟨H2.out.trans H4.out, rfl, H3.out⟩
end Go.Proofs.YtjohkmkgmbihkaaDoor
