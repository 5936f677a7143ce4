/- What goes over an answer: its fault. -/
import Derived.Test.YtjohkmkgmbihkaaDoorOverB
namespace Go.Proofs.YtjohkmkgmbihkaaDoor
open Go.ChangeShapes Go.WideShapes Go.ChangeAt Go.RowKit
set_option linter.unusedVariables false
theorem box3 {w w1 : World} {f1 f2 f3 a b c d : Value} {s t u : TypeId} (hx : Ext (((w.alloc (.cells #[f1, f2, f3] s)).alloc (.cells #[a, b] t)).alloc (.cells #[c, d] u)) w1) :
    w1.cell? ⟨w.heap.size, 0, none⟩ = some f1 ∧ w1.cell? ⟨w.heap.size, 1, none⟩ = some f2 ∧ w1.cell? ⟨w.heap.size, 2, none⟩ = some f3 ∧ w1.cell? ⟨w.heap.size + 1, 0, none⟩ = some a ∧ w1.cell? ⟨w.heap.size + 1, 1, none⟩ = some b ∧
      w1.cell? ⟨w.heap.size + 2, 0, none⟩ = some c ∧ w1.cell? ⟨w.heap.size + 2, 1, none⟩ = some d ∧ Ext w w1 := by
  have e : (w.alloc (.cells #[f1, f2, f3] s)).heap.size = w.heap.size + 1 := by simp
  have h0 := ((Ext.refl (w.alloc (.cells #[f1, f2, f3] s))).alloc (.cells #[a, b] t)).alloc (.cells #[c, d] u)
  obtain ⟨h1, _, _⟩ := box_cells (h0.trans hx)
  obtain ⟨g1, g2, g3, g4, _⟩ := box2 hx
  rw [e] at g1 g2 g3 g4
  exact ⟨h1 0, h1 1, h1 2, g1, g2, g3, g4, ((((Ext.refl w).alloc _).alloc _).alloc _).trans hx⟩

abbrev fF1 (q : Nat) : Value := .func (.func 24) #[] #[.pointer (some ⟨q, 0, none⟩)]
abbrev fF2 (q : Nat) : Value := .func (.func 27) #[] #[.pointer (some ⟨q, 0, none⟩)]
abbrev fF3 (q : Nat) : Value := .func (.func 28) #[] #[.pointer (some ⟨q, 0, none⟩)]
/-- What is said of a tree's fault. -/
def PartF (lo hi : ByteArray) (q : Nat) (t : AT) : Prop := ∀ (p : Option Addr) (d a b : ByteArray) (w : World), w.heap[q]? = some (.cells #[.string lo, .string hi] 27) → AIn w t p d →
  Calls Tryd.prog 49 #[.agg #[fF1 q, fF2 q, fF3 q], .agg #[.pointer p, .string d], .agg #[.string a, .string b]] w fun e w' => ∃ v, e = .returned v ∧ Ext w w' ∧ RErr (okT lo hi t a b) v

set_option maxHeartbeats 4000000 in
set_option maxRecDepth 100000 in
theorem partF_empty (lo hi : ByteArray) (q : Nat) : PartF lo hi q .empty := by
  rintro p d a b w hq ⟨rfl, rfl⟩
  have HE := hid (fun (w' : World) (hx : Ext w w') => FaultE_any lo hi a b q w' (hx.row hq))
  have HX := hid ((((Ext.refl w).alloc (.cells #[fF1 q, fF2 q, fF3 q] 86)).alloc (.cells #[.pointer none, .string ⟨#[]⟩] 30)).alloc (.cells #[.string a, .string b] 75))
  clear hq
  go_enter Tryd.func49, Tryd.ntmps49
  go_wp2_with fail
  refine (HE.out _ HX.out).mono ?_
  rintro e w1 ⟨v, rfl, hx, hv⟩
  have HV := hid hv
  have hX1 := HX.out.trans hx
  rcases hv.shape with ⟨_, rfl⟩ | ⟨_, _, t1, u1, rfl⟩
  all_goals
    clear hv
    go_wp2_with fail
    go_ret
    exact ⟨_, rfl, hX1, HV.out⟩

set_option maxHeartbeats 4000000 in
set_option maxRecDepth 100000 in
theorem partF_alone (lo hi : ByteArray) (q : Nat) (e : ByteArray) : PartF lo hi q (.alone e) := by
  rintro p d a b w hq ⟨rfl, rfl, h3⟩
  have hne : d.toList.isEmpty = false := by
    have : beq d ⟨#[]⟩ = false := beq_false.2 (fun h => by rw [h] at h3; cases h3)
    rw [beq_empty] at this; exact this
  have HE := hid (fun (w' : World) (hx : Ext w w') => FaultA_any lo hi a b d q w' (hx.row hq))
  have HX := hid ((((Ext.refl w).alloc (.cells #[fF1 q, fF2 q, fF3 q] 86)).alloc (.cells #[.pointer none, .string d] 30)).alloc (.cells #[.string a, .string b] 75))
  clear hq
  go_enter Tryd.func49, Tryd.ntmps49
  go_wp2_with fail
  refine (HE.out _ HX.out).mono ?_
  rintro e w1 ⟨v, rfl, hx, hv⟩
  have HV := hid hv
  have hX1 := HX.out.trans hx
  rcases hv.shape with ⟨_, rfl⟩ | ⟨_, _, t1, u1, rfl⟩
  all_goals
    clear hv
    go_wp2_with fail
    go_ret
    exact ⟨_, rfl, hX1, HV.out⟩

set_option maxHeartbeats 8000000 in
set_option maxRecDepth 100000 in
theorem partF_node (lo hi : ByteArray) (q : Nat) (x : It) (l r : AT) (hl : PartF lo hi q l) (hr : PartF lo hi q r) : PartF lo hi q (.node x l r) := by
  rintro p d a b w hq ⟨rfl, nb, lp, ls, rp, rs, rfl, hrow, ha1, ha2⟩
  have CL := hid (fun (w' : World) (hx : Ext w w') => hl lp ls a x.key w' (hx.row hq) (ha1.ext hx))
  have CR := hid (fun (w' : World) (hx : Ext w w') => hr rp rs x.key b w' (hx.row hq) (ha2.ext hx))
  have CN := hid (fun (vl vr : Value) (w' : World) (hx : Ext w w') (h1 : RErr (okT lo hi l a x.key) vl) (h2 : RErr (okT lo hi r x.key b) vr) => FaultN_any lo hi a b q x lp rp ls rs nb _ _ vl vr w' (hx.row hq) (hx.row hrow) h1 h2)
  have n0 : w.cell? ⟨nb, 0, none⟩ = some (.string x.key) := cell_of_row _ _ 0 _ _ _ hrow
  have n3 : w.cell? ⟨nb, 3, none⟩ = some (.pointer lp) := cell_of_row _ _ 3 _ _ _ hrow
  have n4 : w.cell? ⟨nb, 4, none⟩ = some (.string ls) := cell_of_row _ _ 4 _ _ _ hrow
  have n5 : w.cell? ⟨nb, 5, none⟩ = some (.pointer rp) := cell_of_row _ _ 5 _ _ _ hrow
  have n6 : w.cell? ⟨nb, 6, none⟩ = some (.string rs) := cell_of_row _ _ 6 _ _ _ hrow
  obtain ⟨W1, hW1⟩ : ∃ z, z = ((w.alloc (.cells #[fF1 q, fF2 q, fF3 q] 86)).alloc (.cells #[.pointer (some ⟨nb, 0, none⟩), .string ⟨#[]⟩] 30)).alloc (.cells #[.string a, .string b] 75) := ⟨_, rfl⟩
  have Q := hid (fun (w' : World) (hx : Ext W1 w') => (by
    rw [hW1] at hx
    obtain ⟨z0, z1, z2, z3, z4, z5, z6, hy⟩ := box3 hx
    exact ⟨z0, z1, z2, z3, z4, z5, z6, hy.keep1 n0, hy.keep1 n3, hy.keep1 n4, hy.keep1 n5, hy.keep1 n6, hy⟩ :
    w'.cell? ⟨w.heap.size, 0, none⟩ = some (fF1 q) ∧ w'.cell? ⟨w.heap.size, 1, none⟩ = some (fF2 q) ∧ w'.cell? ⟨w.heap.size, 2, none⟩ = some (fF3 q) ∧ w'.cell? ⟨w.heap.size + 1, 0, none⟩ = some (.pointer (some ⟨nb, 0, none⟩)) ∧ w'.cell? ⟨w.heap.size + 1, 1, none⟩ = some (.string ⟨#[]⟩) ∧
      w'.cell? ⟨w.heap.size + 2, 0, none⟩ = some (.string a) ∧ w'.cell? ⟨w.heap.size + 2, 1, none⟩ = some (.string b) ∧ w'.cell? ⟨nb, 0, none⟩ = some (.string x.key) ∧ w'.cell? ⟨nb, 3, none⟩ = some (.pointer lp) ∧ w'.cell? ⟨nb, 4, none⟩ = some (.string ls) ∧ w'.cell? ⟨nb, 5, none⟩ = some (.pointer rp) ∧ w'.cell? ⟨nb, 6, none⟩ = some (.string rs) ∧ Ext w w'))
  have HW1 := hid hW1
  have OK := hid (show okT lo hi (.node x l r) a b = (mat lo hi a b && holdB a b x.key && okT lo hi l a x.key && okT lo hi r x.key b) from rfl)
  rw [OK.out]
  generalize okT lo hi l a x.key = okl at *
  generalize okT lo hi r x.key b = okr at *
  clear hq hrow ha1 ha2 hl hr n0 n3 n4 n5 n6 hW1 OK
  go_enter Tryd.func49, Tryd.ntmps49
  go_wp2_with fail
  rw [← HW1.out]
  obtain ⟨z0, z1, z2, z3, z4, z5, z6, y0, y3, y4, y5, y6, hy⟩ := Q.out W1 (Ext.refl _)
  go_cut [7] (fun v wx => RErr okl v ∧ Ext W1 wx)
  case first =>
    go_region_held3 (fun w' => w'.cell? ⟨w.heap.size, 0, none⟩ = some (fF1 q) ∧ w'.cell? ⟨w.heap.size, 1, none⟩ = some (fF2 q) ∧ w'.cell? ⟨w.heap.size, 2, none⟩ = some (fF3 q) ∧ w'.cell? ⟨w.heap.size + 1, 0, none⟩ = some (.pointer (some ⟨nb, 0, none⟩)) ∧
      w'.cell? ⟨w.heap.size + 2, 0, none⟩ = some (.string a) ∧ w'.cell? ⟨w.heap.size + 2, 1, none⟩ = some (.string b) ∧ w'.cell? ⟨nb, 0, none⟩ = some (.string x.key) ∧ w'.cell? ⟨nb, 3, none⟩ = some (.pointer lp) ∧ w'.cell? ⟨nb, 4, none⟩ = some (.string ls)) (go_keep)
      (first
        | (go_at_call 63; refine (Left_any a b x.key _).mono ?_; rintro e w3 ⟨rfl, hx3⟩; have hy3 : Ext W1 w3 := Ext.trans ((Ext.refl _).drew) hx3; obtain ⟨m0, m1, m2, m3, m4, m5, m6, m7, m8, m9, m10, m11, m12⟩ := Q.out _ hy3)
        | (go_at_call 49; refine (CL.out _ m12).mono ?_; rintro e w4 ⟨v4, rfl, hx4, hv4⟩; have hy4 := hy3.trans hx4; obtain ⟨o0, o1, o2, o3, o4, o5, o6, o7, o8, o9, o10, o11, o12⟩ := Q.out _ hy4))
    all_goals (try go_wp2_with fail)
    all_goals go_meet
    all_goals exact ⟨hv4, hy4⟩
  case rest =>
    obtain ⟨W2, rfl⟩ : ∃ z, z = wc := ⟨_, rfl⟩
    obtain ⟨hv7, hx7⟩ := hcut
    have HV7 := hid hv7
    have HX7 := hid hx7
    clear z0 z1 z2 z3 z4 z5 z6 y0 y3 y4 y5 y6 hy
    obtain ⟨z0, z1, z2, z3, z4, z5, z6, y0, y3, y4, y5, y6, hy⟩ := Q.out W2 hx7
    clear hv7 hx7
    go_wp2_with fail
    go_cut [8] (fun v wx => RErr okr v ∧ Ext W1 wx)
    case first =>
      go_region_held3 (fun w' => w'.cell? ⟨w.heap.size, 0, none⟩ = some (fF1 q) ∧ w'.cell? ⟨w.heap.size, 1, none⟩ = some (fF2 q) ∧ w'.cell? ⟨w.heap.size, 2, none⟩ = some (fF3 q) ∧ w'.cell? ⟨w.heap.size + 1, 0, none⟩ = some (.pointer (some ⟨nb, 0, none⟩)) ∧
        w'.cell? ⟨w.heap.size + 2, 0, none⟩ = some (.string a) ∧ w'.cell? ⟨w.heap.size + 2, 1, none⟩ = some (.string b) ∧ w'.cell? ⟨nb, 0, none⟩ = some (.string x.key) ∧ w'.cell? ⟨nb, 5, none⟩ = some (.pointer rp) ∧ w'.cell? ⟨nb, 6, none⟩ = some (.string rs)) (go_keep)
        (first
          | (go_at_call 64; refine (Right_any a b x.key _).mono ?_; rintro e w3 ⟨rfl, hx3⟩; have hy3 : Ext W1 w3 := HX7.out.trans (Ext.trans ((Ext.refl _).drew) hx3); obtain ⟨m0, m1, m2, m3, m4, m5, m6, m7, m8, m9, m10, m11, m12⟩ := Q.out _ hy3)
          | (go_at_call 49; refine (CR.out _ m12).mono ?_; rintro e w4 ⟨v4, rfl, hx4, hv4⟩; have hy4 := hy3.trans hx4; obtain ⟨o0, o1, o2, o3, o4, o5, o6, o7, o8, o9, o10, o11, o12⟩ := Q.out _ hy4))
      all_goals (try go_wp2_with fail)
      all_goals go_meet
      all_goals exact ⟨hv4, hy4⟩
    case rest =>
      obtain ⟨W3, rfl⟩ : ∃ z, z = wc := ⟨_, rfl⟩
      obtain ⟨hv8, hx8⟩ := hcut
      have HV8 := hid hv8
      clear z0 z1 z2 z3 z4 z5 z6 y0 y3 y4 y5 y6 hy
      obtain ⟨z0, z1, z2, z3, z4, z5, z6, y0, y3, y4, y5, y6, hy⟩ := Q.out W3 hx8
      clear hv8 hx8
      go_wp2_with fail
      refine (CN.out _ _ _ hy HV7.out HV8.out).mono ?_
      rintro e w5 ⟨v, rfl, hx5, hv⟩
      have HV := hid hv
      have hX5 := hy.trans hx5
      rcases hv.shape with ⟨_, rfl⟩ | ⟨_, _, t1, u1, rfl⟩
      all_goals
        clear hv
        go_wp2_with fail
        go_ret
        exact ⟨_, rfl, hX5, HV.out⟩
theorem partF_any (lo hi : ByteArray) (q : Nat) : ∀ t, PartF lo hi q t
  | .empty => partF_empty lo hi q
  | .alone e => partF_alone lo hi q e
  | .node x l r => partF_node lo hi q x l r (partF_any lo hi q l) (partF_any lo hi q r)
end Go.Proofs.YtjohkmkgmbihkaaDoor
