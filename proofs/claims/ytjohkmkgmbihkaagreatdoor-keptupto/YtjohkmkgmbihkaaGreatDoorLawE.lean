/- The law's world: looks. -/
import Derived.Test.YtjohkmkgmbihkaaGreatDoorLawD
import Derived.Deep.RegionHeld3
namespace Go.Proofs.YtjohkmkgmbihkaaGreatDoor
set_option linter.unusedVariables false
open Go.ChangeShapes Go.WideShapes Go.ChangeAt Go.RowKit
attribute [local go_sem ↓] Go.wp_at_zero Go.wp_at_succ

theorem grown_get : ∀ (X : List ML) (k : Nat) (x : ML), X[k]? = some x → (X.flatMap ML.grown)[3 * k]? = some x.g1 ∧ (X.flatMap ML.grown)[3 * k + 1]? = some x.g2 ∧ (X.flatMap ML.grown)[3 * k + 2]? = some x.g3 := by
  intro X
  induction X with
  | nil => intro k x h; simp at h
  | cons y X ih =>
    intro k x h
    rw [List.flatMap_cons]
    cases k with
    | zero => simp only [List.getElem?_cons_zero, Option.some.injEq] at h; subst h; simp [ML.grown]
    | succ k =>
      rw [List.getElem?_cons_succ] at h
      obtain ⟨h1, h2, h3⟩ := ih k x h
      have hl : y.grown.length = 3 := rfl
      have e : 3 * (k + 1) = 3 * k + 3 := by omega
      refine ⟨?_, ?_, ?_⟩
      · rw [e, List.getElem?_append_right (by omega), hl, Nat.add_sub_cancel]; exact h1
      · rw [e, List.getElem?_append_right (by omega), hl, show 3 * k + 3 + 1 - 3 = 3 * k + 1 by omega]; exact h2
      · rw [e, List.getElem?_append_right (by omega), hl, show 3 * k + 3 + 2 - 3 = 3 * k + 2 by omega]; exact h3
theorem Lw.cells {bs : Nat} {w : World} {W : Nat} {c0 c1 c2 c3 c4 lsv ls3v : Value} {X : List ML} (h : Lw bs w W c0 c1 c2 c3 c4 lsv ls3v X) :
    w.cell? ⟨W, 0, none⟩ = some c0 ∧ w.cell? ⟨W, 1, none⟩ = some c1 ∧ w.cell? ⟨W, 2, none⟩ = some c2 ∧ w.cell? ⟨W, 3, none⟩ = some c3 ∧ w.cell? ⟨W, 4, none⟩ = some c4 ∧ w.cell? ⟨W, 5, none⟩ = some lsv ∧ w.cell? ⟨W, 6, none⟩ = some ls3v ∧
      ∀ j, w.frozen? ⟨W, j, none⟩ = false := by
  have := h.row
  refine ⟨?_, ?_, ?_, ?_, ?_, ?_, ?_, fun j => frozen_of_row _ _ _ _ _ this⟩ <;> (rw [cell_of_row _ _ _ _ _ _ this]; rfl)
theorem Lw.at {bs : Nat} {w : World} {W : Nat} {c0 c1 c2 c3 c4 lsv ls3v : Value} {X : List ML} (h : Lw bs w W c0 c1 c2 c3 c4 lsv ls3v X) {k : Nat} (hk : k < X.length) :
    ∃ g lc g3 tc a0 b0 a1 b1 a2 b2 a3 b3 n, lsv = .slice (some ⟨g, 0, none⟩) X.length lc ∧ ls3v = .slice (some ⟨g3, 0, none⟩) (3 * X.length) tc ∧ w.cell? ⟨g, k, none⟩ = some (.slice a0 n b0) ∧ w.cell? ⟨g3, 3 * k, none⟩ = some (.slice a1 (n + 1) b1) ∧
      w.cell? ⟨g3, 3 * k + 1, none⟩ = some (.slice a2 (n + 2) b2) ∧ w.cell? ⟨g3, 3 * k + 2, none⟩ = some (.slice a3 (n + 3) b3) ∧
      Mk w (.slice a0 n b0) n (stk k) ∧ Mk w (.slice a1 (n + 1) b1) (n + 1) (stk k) ∧ Mk w (.slice a2 (n + 2) b2) (n + 2) (stk k) ∧ Mk w (.slice a3 (n + 3) b3) (n + 3) (stk k) := by
  obtain ⟨x, hx⟩ : ∃ x, X[k]? = some x := ⟨_, List.getElem?_eq_getElem hk⟩
  obtain ⟨m0, m1, m2, m3⟩ := h.marked k x hx
  obtain ⟨q1, q2, q3⟩ := grown_get X k x hx
  obtain ⟨a0, b0, e0⟩ := m0.shape
  obtain ⟨a1, b1, e1⟩ := m1.shape
  obtain ⟨a2, b2, e2⟩ := m2.shape
  obtain ⟨a3, b3, e3⟩ := m3.shape
  have ho := h.own
  have ho3 := h.own3
  obtain ⟨g, lc, rfl⟩ : ∃ g lc, lsv = .slice (some ⟨g, 0, none⟩) X.length lc := by
    rcases ho.2 with ⟨_, q⟩ | ⟨g, c, cur, q, _⟩
    · omega
    · exact ⟨g, c, q⟩
  obtain ⟨g3, tc, rfl⟩ : ∃ g lc, ls3v = .slice (some ⟨g, 0, none⟩) (3 * X.length) lc := by
    rcases ho3.2 with ⟨_, q⟩ | ⟨g, c, cur, q, _⟩
    · omega
    · exact ⟨g, c, q⟩
  refine ⟨g, lc, g3, tc, a0, b0, a1, b1, a2, b2, a3, b3, x.n, rfl, rfl, ?_, ?_, ?_, ?_, e0 ▸ m0, e1 ▸ m1, e2 ▸ m2, e3 ▸ m3⟩
  · rw [ho.cellAt k (by omega), List.getElem?_map, hx, ← e0]; rfl
  · rw [ho3.cellAt (3 * k) (by omega), q1, e1]
  · rw [ho3.cellAt (3 * k + 1) (by omega), q2, e2]
  · rw [ho3.cellAt (3 * k + 2) (by omega), q3, e3]

set_option maxHeartbeats 4000000 in
set_option maxRecDepth 100000 in
theorem looks_any (bs : Nat) (W : Nat) (came : Nat) (psv kv wv : Value) (A : List Pr) (lsv ls3v : Value) (X : List ML) (w : World) (hW : Wd bs w W came psv kv wv A lsv ls3v X) (hM : X.length ≤ 100000000) :
    Calls Tryz.prog 27 #[.pointer (some ⟨W, 0, none⟩)] w fun e w' => e = .returned (.bool true) ∧ Ext w w' := by
  obtain ⟨z0, z1, z2, z3, z4, z5, z6, _⟩ := hW.lw.cells
  have hk := hW.kept
  have hw := hW.were
  have hA := hW.small
  have pk : Prs w kv A := Prs.own hk
  have pw : Prs w wv A := Prs.own hw
  have HW := hid hW.lw
  have hAm : A.length ≤ maxLen := by unfold maxLen; omega
  obtain ⟨la, lc, rfl⟩ := own_slice hW.lw.own
  obtain ⟨ta, tc, rfl⟩ := own_slice hW.lw.own3
  clear hW hk hw
  go_enter Tryz.func27, Tryz.ntmps27
  go_wp2_with fail
  have PK := hid pk
  have PW := hid pw
  clear pk pw
  go_region_held3 (fun w' => w'.cell? ⟨W, 2, none⟩ = some kv ∧ w'.cell? ⟨W, 3, none⟩ = some wv) (go_keep)
    (first
      | (go_at_call 30; refine (samePairs_any A A kv wv _ (PK.out.ext ((Ext.refl _).drew)) (PW.out.ext ((Ext.refl _).drew)) hAm hAm).mono ?_; rintro e w1 ⟨rfl, hx1'⟩; have hx1 : Ext w w1 := Ext.trans ((Ext.refl _).drew) hx1'; clear hx1'; have k2 := hx1.keep1 z2; have k3 := hx1.keep1 z3; rw [show decide (A = A) = true by simp]))
  have y1 := hx1.keep1 z1
  have y5 := hx1.keep1 z5
  go_wp2_with fail
  have HX1 := hid hx1
  clear hx1 z0 z1 z2 z3 z4 z5 z6 k2 k3 y1 y5
  go_loopw [4] (fun i wr => ∃ k : Nat, k ≤ X.length ∧ i = .int .i64 k ∧ Ext w wr) (fun i _ => X.length - (intOf i).toNat)
  case atStart => exact ⟨0, Nat.zero_le _, rfl, HX1.out⟩
  case round =>
    obtain ⟨k, hk, rfl, hxr⟩ := hrel
    have HL := HW.out.ext hxr
    obtain ⟨_, _, _, _, _, y5, y6, _⟩ := HL.cells
    by_cases hlt : k < X.length
    · obtain ⟨g, lc', g3, tc', a0, b0, a1, b1, a2, b2, a3, b3, n, e1, e2, q0, q1, q2, q3, m0, m1, m2, m3⟩ := HL.at hlt
      simp only [Value.slice.injEq] at e1 e2
      obtain ⟨rfl, _, rfl⟩ := e1
      obtain ⟨rfl, _, rfl⟩ := e2
      have HXR := hid hxr
      have M0 := hid m0
      have M1 := hid m1
      have M2 := hid m2
      have M3 := hid m3
      clear HL m0 m1 m2 m3 hxr
      go_wp2_with fail
      refine (strokes_any k (by omega) _).mono ?_
      rintro e w2 ⟨rfl, hx2⟩
      have y5' := hx2.keep1 y5
      have y6' := hx2.keep1 y6
      have q0' := hx2.keep1 q0
      have q1' := hx2.keep1 q1
      have q2' := hx2.keep1 q2
      have q3' := hx2.keep1 q3
      have HX2 := hid hx2
      clear hx2
      go_wp2_with fail
      refine (full_any n (stk k) _ w2 (M0.out.ext HX2.out).prs).mono ?_
      rintro e w3 ⟨rfl, h3⟩; replace h3 := h3.symm; subst h3
      go_wp2_with fail
      refine (full_any (n + 1) (stk k) _ w2 (M1.out.ext HX2.out).prs).mono ?_
      rintro e w3 ⟨rfl, h3⟩; replace h3 := h3.symm; subst h3
      go_wp2_with fail
      refine (full_any (n + 2) (stk k) _ w2 (M2.out.ext HX2.out).prs).mono ?_
      rintro e w3 ⟨rfl, h3⟩; replace h3 := h3.symm; subst h3
      go_wp2_with fail
      refine (full_any (n + 3) (stk k) _ w2 (M3.out.ext HX2.out).prs).mono ?_
      rintro e w3 ⟨rfl, h3⟩; replace h3 := h3.symm; subst h3
      go_wp2_with fail
      go_roundw
      case rel => exact ⟨k + 1, by omega, by go_num, HXR.out.trans HX2.out⟩
      case measure => simp [intOf]; omega
    · obtain rfl : k = X.length := by omega
      have HXR := hid hxr
      clear HL hxr
      go_wp2_with fail
      go_ret
      exact ⟨rfl, HXR.out⟩
end Go.Proofs.YtjohkmkgmbihkaaGreatDoor
