/- The law's world: takes. -/
import Derived.Test.YtjohkmkgmbihkaaGreatDoorLawE
import Derived.Test.YtjohkmkgmbihkaaGreatDoorKeepF
namespace Go.Proofs.YtjohkmkgmbihkaaGreatDoor
set_option linter.unusedVariables false
open Go.ChangeShapes Go.WideShapes Go.ChangeAt Go.RowKit
attribute [local go_sem ↓] Go.wp_at_zero Go.wp_at_succ

theorem Apart.nil (u : Value) : Apart u (.slice none 0 0) := Apart.symm (.inl rfl)
theorem Apart.of_at {w : World} {base : Nat} {e : TypeId} {s n : Nat} {l kv u : Value} {xs : List Value} (hl : w.ownsRow base e s l n xs) (ho : Apart l kv) {b : Nat} (hb : w.heap.size ≤ b) (hu : u.ownBlock = kv.ownBlock ∨ ∃ g, u.ownBlock = some g ∧ b ≤ g) : Apart u l := by
  rcases hu with h | ⟨g, h, hg⟩
  · have := ho.symm
    unfold Apart at this ⊢
    rw [h]; exact this
  · exact (Apart.fresh hl h (by omega)).symm
set_option maxHeartbeats 4000000 in
set_option maxRecDepth 100000 in
theorem takes_any (bs : Nat) (W : Nat) (came : Nat) (psv kv wv : Value) (A : List Pr) (lsv ls3v : Value) (X : List ML) (w : World) (hW : Wd bs w W came psv kv wv A lsv ls3v X) (hM : X.length ≤ 10000000) (hcame : came ≤ 100000000)
    (a : Option Addr) (cap : Nat) (B : List Pr) (hl : w.ownsRow bs 53 2 (.slice a B.length cap) B.length (pc B)) (hB : B.length ≤ 1000000) (hlk : Apart (.slice a B.length cap) kv) (hlm : ∀ x ∈ X, ∀ u ∈ x.vals, Apart u (.slice a B.length cap)) :
    Calls Tryz.prog 53 #[.pointer (some ⟨W, 0, none⟩), .slice a B.length cap] w fun e w' => e = .returned (.tuple #[]) ∧ ∃ kv' wv' A' lsv' ls3v' X', Wd bs w' W (came + 1) psv kv' wv' A' lsv' ls3v' X' ∧ X'.length ≤ X.length + 2 ∧
      Fw (fun k => some k = kv.ownBlock ∨ some k = (Value.slice a B.length cap).ownBlock) w w' ∧ Fr (fun k => bs ≤ k) w w' := by
  have hpl : Prs w (.slice a B.length cap) B := Prs.own hl
  obtain ⟨wn, w1, hr1, ho1, hg1⟩ := app_prs w.heap.size w (.slice none 0 0) (.slice a B.length cap) [] B (Nat.le_refl _) (World.ownsRow_nil _ _ _ _) hpl (by simp; omega)
  rw [List.nil_append] at ho1
  have hx1 : Ext w w1 := Ext.of_nil hg1
  obtain ⟨na, nc, rfl⟩ := own_slice ho1
  obtain ⟨z0, z1, z2, z3, z4, z5, z6, _⟩ := (hW.lw.ext hx1).cells
  have PK := hid (show Prs w1 kv A from (Prs.own hW.kept).ext hx1)
  have PW := hid (show Prs w1 wv A from (Prs.own hW.were).ext hx1)
  have hAm : A.length ≤ maxLen := by have := hW.small; unfold maxLen; omega
  have hBm : B.length ≤ maxLen := by unfold maxLen; omega
  have HR1 := hid hr1
  have HO1 := hid ho1
  have HX1 := hid hx1
  have HW := hid hW
  have HL := hid hl
  obtain ⟨ka, kc, rfl⟩ := own_slice hW.kept
  obtain ⟨wa, wc, rfl⟩ := own_slice hW.were
  clear hr1 ho1 hg1 hx1 hW hl hpl
  go_enter Tryz.func53, Tryz.ntmps53
  go_wp2_with (at_builtin; refine wpList_append_run rfl _ _ 27 27 rfl (.slice none 0 0) (.slice a B.length cap) rfl rfl _ _ HR1.out ?_)
  go_region_held3 (fun w' => w'.cell? ⟨W, 2, none⟩ = some (.slice ka A.length kc) ∧ w'.cell? ⟨W, 3, none⟩ = some (.slice wa A.length wc)) (go_keep)
    (first
      | (go_at_call 30; refine (samePairs_any A A _ _ _ (PK.out.ext ((Ext.refl _).drew)) (PW.out.ext ((Ext.refl _).drew)) hAm hAm).mono ?_; rintro e w2 ⟨rfl, hx2'⟩; have hx2 : Ext w1 w2 := Ext.trans ((Ext.refl _).drew) hx2'; clear hx2'; have k2 := hx2.keep1 z2; have k3 := hx2.keep1 z3; rw [show decide (A = A) = true by simp]))
  have HX2 := hid hx2
  have hxw2 := HX1.out.trans hx2
  have HW2 := hid (HW.out.lw.ext hxw2)
  have HK2 := hid (owns_ext HW.out.kept hxw2)
  have HS2 := hid hxw2
  clear hx2 hxw2 z0 z1 z2 z3 z4 z5 z6
  go_wp2_with fail
  refine (HW2.out.marks (owns_base HK2.out (Nat.zero_le _)) HW.out.km HW.out.small (by omega)).mono ?_
  rintro e w3 ⟨rfl, lsv3, ls3v3, y, hl3, hat, hfw, hfr3⟩
  have hol := hfw.owns (owns_ext HL.out HS2.out) (hlk.not) (by decide) (by decide)
  have hon := hfw.owns (owns_ext HO1.out HX2.out) (fun g hg e => by
    have h1 := (HO1.out.lt g hg).1
    have h2 := (HW.out.kept.lt g e.symm).2
    omega) (by decide) (by decide)
  have PL := hid (Prs.own hol)
  have PN := hid (Prs.own hon)
  have HOL := hid hol
  have HON := hid hon
  have HL3 := hid hl3
  have HAT := hid hat
  have HFW := hid hfw
  have HFR3 := hid (show Fr (fun k => bs ≤ k) w w3 from (Fr.of_ext HS2.out).trans (hfr3.mono (fun k _ q => q.elim (fun e => (HW.out.kept.lt k e.symm).1) id)))
  clear hfr3 hol hon hl3 hat hfw
  go_wp2_with fail
  refine (samePairs_any B B _ _ w3 PL.out PN.out hBm hBm).mono ?_
  rintro e w4 ⟨rfl, hx4⟩
  rw [show decide (B = B) = true by simp]
  have HX4 := hid hx4
  have HL4 := hid (HL3.out.ext hx4)
  obtain ⟨z0, z1, z2, z3, z4, z5, z6, zf⟩ := HL4.out.cells
  have f0 := zf 0
  have f1 := zf 1
  have f2 := zf 2
  have f3 := zf 3
  have l1 : Lw bs (w4.setCell ⟨W, 1, none⟩ (.bool false)) W (.int .i64 came) (.bool false) (.slice ka A.length kc) (.slice wa A.length wc) psv lsv3 ls3v3 (X ++ [y]) := HL4.out.set 1 _ rfl
  have l2 : Lw bs ((w4.setCell ⟨W, 1, none⟩ (.bool false)).setCell ⟨W, 2, none⟩ (.slice none 0 0)) W (.int .i64 came) (.bool false) (.slice none 0 0) (.slice wa A.length wc) psv lsv3 ls3v3 (X ++ [y]) := l1.set 2 _ rfl
  have l3 : Lw bs (((w4.setCell ⟨W, 1, none⟩ (.bool false)).setCell ⟨W, 2, none⟩ (.slice none 0 0)).setCell ⟨W, 3, none⟩ (.slice none 0 0)) W (.int .i64 came) (.bool false) (.slice none 0 0) (.slice none 0 0) psv lsv3 ls3v3 (X ++ [y]) := l2.set 3 _ rfl
  have l4 : Lw bs ((((w4.setCell ⟨W, 1, none⟩ (.bool false)).setCell ⟨W, 2, none⟩ (.slice none 0 0)).setCell ⟨W, 3, none⟩ (.slice none 0 0)).setCell ⟨W, 0, none⟩ (.int .i64 ((came : Int) + 1))) W (.int .i64 ((came + 1 : Nat) : Int)) (.bool false) (.slice none 0 0) (.slice none 0 0) psv lsv3 ls3v3 (X ++ [y]) := l3.set 0 _ rfl
  have fw4 : ∀ S : Nat → Prop, Fw S w4 ((((w4.setCell ⟨W, 1, none⟩ (.bool false)).setCell ⟨W, 2, none⟩ (.slice none 0 0)).setCell ⟨W, 3, none⟩ (.slice none 0 0)).setCell ⟨W, 0, none⟩ (.int .i64 ((came : Int) + 1))) := fun S =>
    (((Fw.of_set HL4.out.row 1 _).trans (Fw.of_set l1.row 2 _)).trans (Fw.of_set l2.row 3 _)).trans (Fw.of_set l3.row 0 _)
  have hol4 := (fw4 (fun _ => False)).owns (owns_ext HOL.out hx4) (fun _ _ => id) (by decide) (by decide)
  have hon4 := (fw4 (fun _ => False)).owns (owns_ext HON.out hx4) (fun _ _ => id) (by decide) (by decide)
  have hsz : w.heap.size ≤ w2.heap.size := HS2.out.size
  have hmy : ∀ x ∈ X ++ [y], ∀ u ∈ x.vals, Apart u (.slice a B.length cap) := by
    intro x hx u hu
    rcases List.mem_append.1 hx with h | h
    · exact hlm x h u hu
    · simp only [List.mem_cons, List.not_mem_nil, or_false] at h
      subst h
      exact Apart.of_at HL.out hlk hsz (HAT.out u hu)
  have fwA : Fw (fun k => some k = (Value.slice ka A.length kc).ownBlock ∨ some k = (Value.slice a B.length cap).ownBlock) w ((((w4.setCell ⟨W, 1, none⟩ (.bool false)).setCell ⟨W, 2, none⟩ (.slice none 0 0)).setCell ⟨W, 3, none⟩ (.slice none 0 0)).setCell ⟨W, 0, none⟩ (.int .i64 ((came : Int) + 1))) :=
    (((Fw.of_ext HS2.out).trans (HFW.out.mono (fun _ _ h => .inl h))).trans (Fw.of_ext hx4)).trans (fw4 _)
  have hwb := l4.wb
  have FRA := hid (show Fr (fun k => bs ≤ k) w ((((w4.setCell ⟨W, 1, none⟩ (.bool false)).setCell ⟨W, 2, none⟩ (.slice none 0 0)).setCell ⟨W, 3, none⟩ (.slice none 0 0)).setCell ⟨W, 0, none⟩ (.int .i64 ((came : Int) + 1))) from
    (((((HFR3.out.trans (Fr.of_ext hx4)).trans (Fr.of_set _ _ _ hwb)).trans (Fr.of_set _ _ _ hwb)).trans (Fr.of_set _ _ _ hwb)).trans (Fr.of_set _ _ _ hwb)))
  have L4 := hid l4
  have HOL4 := hid hol4
  have HON4 := hid hon4
  have HMY := hid hmy
  have FWA := hid fwA
  have hnw : Apart (.slice a B.length cap) (.slice na B.length nc) := by
    cases hq : (Value.slice na B.length nc).ownBlock with
    | none => exact Apart.symm (.inl hq)
    | some g => exact Apart.fresh HL.out hq (HO1.out.lt g hq).1
  clear hx4 l1 l2 l3 l4 fw4 hol4 hon4 hmy fwA
  go_wp2_with fail
  · refine (L4.out.marks (owns_base HOL4.out (Nat.zero_le _)) HMY.out hB (by simp; omega)).mono ?_
    rintro e w5 ⟨rfl, lsv5, ls3v5, y2, hl5, hat5, hfw5, hfr5⟩
    have HL5 := hid hl5
    have HF5 := hid hfw5
    have HR5 := hid (show Fr (fun k => bs ≤ k) _ _ from FRA.out.trans (hfr5.mono (fun k _ q => q.elim (fun e => (HL.out.lt k e.symm).1) id)))
    clear hl5 hat5 hfw5 hfr5
    go_wp2_with fail
    go_end0
    refine ⟨rfl, _, _, [], _, _, _, ⟨HL5.out, World.ownsRow_nil _ _ _ _, World.ownsRow_nil _ _ _ _, .inl rfl, fun x _ u _ => Apart.nil u, by simp⟩, by simp, FWA.out.trans (HF5.out.mono (fun _ _ h => .inr h)), HR5.out⟩
  · go_end0
    have l5 := L4.out.set 2 (.slice a B.length cap) (d0 := .int .i64 ((came + 1 : Nat) : Int)) (d1 := .bool false) (d2 := .slice a B.length cap) (d3 := .slice none 0 0) (d4 := psv) rfl
    have l6 := l5.set 3 (.slice na B.length nc) (d0 := .int .i64 ((came + 1 : Nat) : Int)) (d1 := .bool false) (d2 := .slice a B.length cap) (d3 := .slice na B.length nc) (d4 := psv) rfl
    have f5 : ∀ S : Nat → Prop, Fw S _ _ := fun S => (Fw.of_set (S := S) L4.out.row 2 (.slice a B.length cap)).trans (Fw.of_set l5.row 3 (.slice na B.length nc))
    refine ⟨rfl, _, _, B, _, _, _, ⟨l6, (f5 (fun _ => False)).owns HOL4.out (fun _ _ => id) (by decide) (by decide), owns_base ((f5 (fun _ => False)).owns HON4.out (fun _ _ => id) (by decide) (by decide)) (Nat.zero_le _), hnw, HMY.out, hB⟩, by simp, FWA.out.trans (f5 _), (FRA.out.trans (Fr.of_set _ _ _ hwb)).trans (Fr.of_set _ _ _ hwb)⟩
end Go.Proofs.YtjohkmkgmbihkaaGreatDoor
