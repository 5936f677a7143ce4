/- What goes over an answer: its pairs. -/
import Derived.Test.YtjohkmkgmbihkaaGreatDoorOverD
namespace Go.Proofs.YtjohkmkgmbihkaaGreatDoor
open Go.ChangeShapes Go.WideShapes Go.ChangeAt Go.RowKit
set_option linter.unusedVariables false

abbrev fP1 (q : Nat) : Value := .func (.func 73) #[] #[.pointer (some ⟨q, 0, none⟩)]
abbrev fP2 (q : Nat) : Value := .func (.func 77) #[] #[]
abbrev fP3 (q : Nat) : Value := .func (.func 78) #[] #[]
def ROwn (w0 w : World) (A : List Pq) (v : Value) : Prop := w.ownsRow w0.heap.size 53 2 v A.length (qc A)
theorem ROwn.it {w0 w : World} {A : List Pq} {v : Value} (h : ROwn w0 w A v) : ItP w v A := ItP.own h
theorem ROwn.shape {w0 w : World} {A : List Pq} {v : Value} (h : ROwn w0 w A v) : ∃ a c, v = .slice a A.length c := by
  obtain ⟨a, c, e, _⟩ := h.it.shape
  exact ⟨a, c, e⟩
set_option maxRecDepth 100000 in
theorem PairsE_any (a b : ByteArray) (w : World) : Calls Tryz.prog 77 #[.agg #[.string a, .string b]] w fun e w' => e = .returned (.slice none 0 0) ∧ Ext w w' := by
  go_enter Tryz.func77, Tryz.ntmps77
  go_wp2_with fail
  go_ret
  exact ⟨rfl, (Ext.refl w).alloc _⟩
set_option maxRecDepth 100000 in
theorem PairsA_any (d a b : ByteArray) (w : World) : Calls Tryz.prog 78 #[.string d, .agg #[.string a, .string b]] w fun e w' => e = .returned (.slice none 0 0) ∧ Ext w w' := by
  go_enter Tryz.func78, Tryz.ntmps78
  go_wp2_with fail
  go_ret
  exact ⟨rfl, (Ext.refl w).alloc _⟩
/-- What is said of a tree's pairs. -/
def PartP (lo hi : ByteArray) (q : Nat) (t : AT) : Prop := ∀ (p : Option Addr) (d a b : ByteArray) (w : World), cnt t ≤ 50 → w.heap[q]? = some (.cells #[.string lo, .string hi] 77) → AIn w t p d →
  Calls Tryz.prog 117 #[.agg #[fP1 q, fP2 q, fP3 q], .agg #[.pointer p, .string d], .agg #[.string a, .string b]] w fun e w' => ∃ v, e = .returned v ∧ Ext w w' ∧ ROwn w w' (prsT lo hi t) v

set_option maxHeartbeats 4000000 in
set_option maxRecDepth 100000 in
theorem partP_empty (lo hi : ByteArray) (q : Nat) : PartP lo hi q .empty := by
  rintro p d a b w hcnt hq ⟨rfl, rfl⟩
  have HE := hid (fun (w' : World) (hx : Ext w w') => PairsE_any a b w')
  have HX := hid ((((Ext.refl w).alloc (.cells #[fP1 q, fP2 q, fP3 q] 141)).alloc (.cells #[.pointer none, .string ⟨#[]⟩] 82)).alloc (.cells #[.string a, .string b] 122))
  clear hq
  go_enter Tryz.func117, Tryz.ntmps117
  go_wp2_with fail
  refine (HE.out _ HX.out).mono ?_
  rintro e w1 ⟨rfl, hx⟩
  have hX1 := HX.out.trans hx
  go_wp2_with fail
  go_ret
  exact ⟨_, rfl, hX1, World.ownsRow_nil _ _ _ _⟩

set_option maxHeartbeats 4000000 in
set_option maxRecDepth 100000 in
theorem partP_alone (lo hi : ByteArray) (q : Nat) (e : ByteArray) : PartP lo hi q (.alone e) := by
  rintro p d a b w hcnt hq ⟨rfl, rfl, h3⟩
  have hne : d.toList.isEmpty = false := by
    have : beq d ⟨#[]⟩ = false := beq_false.2 (fun h => by rw [h] at h3; cases h3)
    rw [beq_empty] at this; exact this
  have HE := hid (fun (w' : World) (hx : Ext w w') => PairsA_any d a b w')
  have HX := hid ((((Ext.refl w).alloc (.cells #[fP1 q, fP2 q, fP3 q] 141)).alloc (.cells #[.pointer none, .string d] 82)).alloc (.cells #[.string a, .string b] 122))
  clear hq
  go_enter Tryz.func117, Tryz.ntmps117
  go_wp2_with fail
  refine (HE.out _ HX.out).mono ?_
  rintro e w1 ⟨rfl, hx⟩
  have hX1 := HX.out.trans hx
  go_wp2_with fail
  go_ret
  exact ⟨_, rfl, hX1, World.ownsRow_nil _ _ _ _⟩

set_option maxHeartbeats 8000000 in
set_option maxRecDepth 100000 in
theorem partP_node (lo hi : ByteArray) (q : Nat) (x : It) (l r : AT) (hl : PartP lo hi q l) (hr : PartP lo hi q r) : PartP lo hi q (.node x l r) := by
  rintro p d a b w hcnt hq ⟨rfl, nb, lp, ls, rp, rs, rfl, hrow, ha1, ha2⟩
  have hc : cnt l + cnt r + 1 ≤ 50 := hcnt
  have CL := hid (fun (w' : World) (hx : Ext w w') => hl lp ls a x.key w' (by omega) (hx.row hq) (ha1.ext hx))
  have CR := hid (fun (w' : World) (hx : Ext w w') => hr rp rs x.key b w' (by omega) (hx.row hq) (ha2.ext hx))
  have hll : (prsT lo hi l).length + (prsT lo hi r).length ≤ 400 := by
    have h1 := prsT_len lo hi l
    have h2 := prsT_len lo hi r
    omega
  have CN := hid (fun (vl vr : Value) (w' : World) (hx : Ext w w') (h1 : ItP w' vl (prsT lo hi l)) (h2 : ItP w' vr (prsT lo hi r)) => PairsN_any lo hi a b q x lp rp ls rs nb _ _ vl vr w' (hx.row hq) (hx.row hrow) h1 h2 hll)
  have n0 : w.cell? ⟨nb, 0, none⟩ = some (.string x.key) := cell_of_row _ _ 0 _ _ _ hrow
  have n3 : w.cell? ⟨nb, 3, none⟩ = some (.pointer lp) := cell_of_row _ _ 3 _ _ _ hrow
  have n4 : w.cell? ⟨nb, 4, none⟩ = some (.string ls) := cell_of_row _ _ 4 _ _ _ hrow
  have n5 : w.cell? ⟨nb, 5, none⟩ = some (.pointer rp) := cell_of_row _ _ 5 _ _ _ hrow
  have n6 : w.cell? ⟨nb, 6, none⟩ = some (.string rs) := cell_of_row _ _ 6 _ _ _ hrow
  obtain ⟨W1, hW1⟩ : ∃ z, z = ((w.alloc (.cells #[fP1 q, fP2 q, fP3 q] 141)).alloc (.cells #[.pointer (some ⟨nb, 0, none⟩), .string ⟨#[]⟩] 82)).alloc (.cells #[.string a, .string b] 122) := ⟨_, rfl⟩
  have Q := hid (fun (w' : World) (hx : Ext W1 w') => (by
    rw [hW1] at hx
    obtain ⟨z0, z1, z2, z3, z4, z5, z6, hy⟩ := box3 hx
    exact ⟨z0, z1, z2, z3, z4, z5, z6, hy.keep1 n0, hy.keep1 n3, hy.keep1 n4, hy.keep1 n5, hy.keep1 n6, hy⟩ :
    w'.cell? ⟨w.heap.size, 0, none⟩ = some (fP1 q) ∧ w'.cell? ⟨w.heap.size, 1, none⟩ = some (fP2 q) ∧ w'.cell? ⟨w.heap.size, 2, none⟩ = some (fP3 q) ∧ w'.cell? ⟨w.heap.size + 1, 0, none⟩ = some (.pointer (some ⟨nb, 0, none⟩)) ∧ w'.cell? ⟨w.heap.size + 1, 1, none⟩ = some (.string ⟨#[]⟩) ∧
      w'.cell? ⟨w.heap.size + 2, 0, none⟩ = some (.string a) ∧ w'.cell? ⟨w.heap.size + 2, 1, none⟩ = some (.string b) ∧ w'.cell? ⟨nb, 0, none⟩ = some (.string x.key) ∧ w'.cell? ⟨nb, 3, none⟩ = some (.pointer lp) ∧ w'.cell? ⟨nb, 4, none⟩ = some (.string ls) ∧ w'.cell? ⟨nb, 5, none⟩ = some (.pointer rp) ∧ w'.cell? ⟨nb, 6, none⟩ = some (.string rs) ∧ Ext w w'))
  have HW1 := hid hW1
  rw [show prsT lo hi (.node x l r) = prsN lo hi x (prsT lo hi l) (prsT lo hi r) from rfl]
  generalize prsT lo hi l = okl at *
  generalize prsT lo hi r = okr at *
  clear hq hrow ha1 ha2 hl hr n0 n3 n4 n5 n6 hW1 hcnt hll hc
  go_enter Tryz.func117, Tryz.ntmps117
  go_wp2_with fail
  rw [← HW1.out]
  obtain ⟨z0, z1, z2, z3, z4, z5, z6, y0, y3, y4, y5, y6, hy⟩ := Q.out W1 (Ext.refl _)
  go_cut [7] (fun v wx => ItP wx v okl ∧ Ext W1 wx)
  case first =>
    go_region_held3 (fun w' => w'.cell? ⟨w.heap.size, 0, none⟩ = some (fP1 q) ∧ w'.cell? ⟨w.heap.size, 1, none⟩ = some (fP2 q) ∧ w'.cell? ⟨w.heap.size, 2, none⟩ = some (fP3 q) ∧ w'.cell? ⟨w.heap.size + 1, 0, none⟩ = some (.pointer (some ⟨nb, 0, none⟩)) ∧
      w'.cell? ⟨w.heap.size + 2, 0, none⟩ = some (.string a) ∧ w'.cell? ⟨w.heap.size + 2, 1, none⟩ = some (.string b) ∧ w'.cell? ⟨nb, 0, none⟩ = some (.string x.key) ∧ w'.cell? ⟨nb, 3, none⟩ = some (.pointer lp) ∧ w'.cell? ⟨nb, 4, none⟩ = some (.string ls)) (go_keep)
      (first
        | (go_at_call 102; refine (Left_any a b x.key _).mono ?_; rintro e w3 ⟨rfl, hx3⟩; have hy3 : Ext W1 w3 := Ext.trans ((Ext.refl _).drew) hx3; obtain ⟨m0, m1, m2, m3, m4, m5, m6, m7, m8, m9, m10, m11, m12⟩ := Q.out _ hy3)
        | (go_at_call 117; refine (CL.out _ m12).mono ?_; rintro e w4 ⟨v4, rfl, hx4, hv4⟩; have hy4 := hy3.trans hx4; obtain ⟨o0, o1, o2, o3, o4, o5, o6, o7, o8, o9, o10, o11, o12⟩ := Q.out _ hy4))
    all_goals (try go_wp2_with fail)
    all_goals go_meet
    all_goals exact ⟨hv4.it, hy4⟩
  case rest =>
    obtain ⟨W2, rfl⟩ : ∃ z, z = wc := ⟨_, rfl⟩
    obtain ⟨hv7, hx7⟩ := hcut
    have HV7 := hid hv7
    have HX7 := hid hx7
    clear z0 z1 z2 z3 z4 z5 z6 y0 y3 y4 y5 y6 hy
    obtain ⟨z0, z1, z2, z3, z4, z5, z6, y0, y3, y4, y5, y6, hy⟩ := Q.out W2 hx7
    clear hv7 hx7
    go_wp2_with fail
    go_cut [8] (fun v wx => ItP wx v okr ∧ Ext W2 wx)
    case first =>
      go_region_held3 (fun w' => w'.cell? ⟨w.heap.size, 0, none⟩ = some (fP1 q) ∧ w'.cell? ⟨w.heap.size, 1, none⟩ = some (fP2 q) ∧ w'.cell? ⟨w.heap.size, 2, none⟩ = some (fP3 q) ∧ w'.cell? ⟨w.heap.size + 1, 0, none⟩ = some (.pointer (some ⟨nb, 0, none⟩)) ∧
        w'.cell? ⟨w.heap.size + 2, 0, none⟩ = some (.string a) ∧ w'.cell? ⟨w.heap.size + 2, 1, none⟩ = some (.string b) ∧ w'.cell? ⟨nb, 0, none⟩ = some (.string x.key) ∧ w'.cell? ⟨nb, 5, none⟩ = some (.pointer rp) ∧ w'.cell? ⟨nb, 6, none⟩ = some (.string rs)) (go_keep)
        (first
          | (go_at_call 103; refine (Right_any a b x.key _).mono ?_; rintro e w3 ⟨rfl, hx3⟩; have hq3 : Ext W2 w3 := Ext.trans ((Ext.refl _).drew) hx3; have hy3 : Ext W1 w3 := HX7.out.trans hq3; obtain ⟨m0, m1, m2, m3, m4, m5, m6, m7, m8, m9, m10, m11, m12⟩ := Q.out _ hy3)
          | (go_at_call 117; refine (CR.out _ m12).mono ?_; rintro e w4 ⟨v4, rfl, hx4, hv4⟩; have hq4 := hq3.trans hx4; have hy4 := hy3.trans hx4; obtain ⟨o0, o1, o2, o3, o4, o5, o6, o7, o8, o9, o10, o11, o12⟩ := Q.out _ hy4))
      all_goals (try go_wp2_with fail)
      all_goals go_meet
      all_goals exact ⟨hv4.it, hq4⟩
    case rest =>
      obtain ⟨W3, rfl⟩ : ∃ z, z = wc := ⟨_, rfl⟩
      obtain ⟨hv8, hq8⟩ := hcut
      have hx8 := HX7.out.trans hq8
      have HV8 := hid hv8
      have HV9 := hid (HV7.out.ext hq8)
      clear z0 z1 z2 z3 z4 z5 z6 y0 y3 y4 y5 y6 hy
      obtain ⟨z0, z1, z2, z3, z4, z5, z6, y0, y3, y4, y5, y6, hy⟩ := Q.out W3 hx8
      clear hv8 hx8 hq8
      go_wp2_with fail
      refine (CN.out _ _ _ hy HV9.out HV8.out).mono ?_
      rintro e w5 ⟨v, rfl, hx5, hv⟩
      have HV := hid (owns_base hv hy.size)
      have hX5 := hy.trans hx5
      obtain ⟨va, vc, rfl⟩ := ROwn.shape hv
      clear hv
      go_wp2_with fail
      go_ret
      exact ⟨_, rfl, hX5, HV.out⟩
theorem partP_any (lo hi : ByteArray) (q : Nat) : ∀ t, PartP lo hi q t
  | .empty => partP_empty lo hi q
  | .alone e => partP_alone lo hi q e
  | .node x l r => partP_node lo hi q x l r (partP_any lo hi q l) (partP_any lo hi q r)
end Go.Proofs.YtjohkmkgmbihkaaGreatDoor
