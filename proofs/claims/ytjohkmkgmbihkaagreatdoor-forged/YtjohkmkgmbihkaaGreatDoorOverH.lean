/- What goes over an answer: what it tells. -/
import Derived.Test.YtjohkmkgmbihkaaGreatDoorOverG
namespace Go.Proofs.YtjohkmkgmbihkaaGreatDoor
open Go.ChangeShapes Go.WideShapes Go.ChangeAt Go.RowKit
set_option linter.unusedVariables false
abbrev fT1 : Value := .func (.func 111) #[] #[]
abbrev fT2 : Value := .func (.func 113) #[] #[]
abbrev fT3 : Value := .func (.func 114) #[] #[]
abbrev ovT : Obj := .cells #[fT1, fT2, fT3] 181
/-- What is told, in a block of its own. -/
def ToldAt (w : World) (t : AT) (b : Nat) : Prop := ∃ a n c, w.heap[b]? = some (.cells #[.string (digT t), .slice a n c] 131) ∧ ItS w (.slice a n c) (txtT t)
theorem ToldAt.ext {w w' : World} {t : AT} {b : Nat} (h : ToldAt w t b) (hx : Ext w w') : ToldAt w' t b := by
  obtain ⟨a, n, c, h1, h2⟩ := h
  exact ⟨a, n, c, hx.row h1, h2.ext hx⟩
/-- What is told, stored into a block that is older than it. -/
theorem told_store {w0 w : World} {t : AT} {d : ByteArray} {a : Option Addr} {n c b : Nat} {x y : Value} (h : RTold w0 w t (.agg #[.string d, .slice a n c])) (hb : w.heap[b]? = some (.cells #[x, y] 131)) (hlt : b < w0.heap.size) :
    ((w.setCell ⟨b, 0, none⟩ (.string d)).setCell ⟨b, 1, none⟩ (.slice a n c)).heap[b]? = some (.cells #[.string d, .slice a n c] 131) ∧
      RTold w0 ((w.setCell ⟨b, 0, none⟩ (.string d)).setCell ⟨b, 1, none⟩ (.slice a n c)) t (.agg #[.string d, .slice a n c]) := by
  refine ⟨set2 hb _ _, ?_⟩
  obtain ⟨a', n', c', h1, h2, h3⟩ := h
  have hfar : ∀ (b' o c'' : Nat), Value.slice a' n' c' = .slice (some ⟨b', o, none⟩) (txtT t).length c'' → b' ≠ b := fun b' o c'' e => by
    simp only [Value.slice.injEq] at e
    have := h3 _ e.1
    simp only at this
    omega
  exact ⟨a', n', c', h1, (h2.far (fun b' o c'' e => hfar b' o c'' e) _).far (fun b' o c'' e => hfar b' o c'' e) _, h3⟩
theorem RTold.at {w0 w : World} {t : AT} {d : ByteArray} {a : Option Addr} {n c b : Nat} (h : RTold w0 w t (.agg #[.string d, .slice a n c])) (hb : w.heap[b]? = some (.cells #[.string d, .slice a n c] 131)) : ToldAt w t b := by
  obtain ⟨a', n', c', h1, h2, h3⟩ := h
  simp only [Value.agg.injEq, Array.mk.injEq, List.cons.injEq, Value.string.injEq, Value.slice.injEq] at h1
  obtain ⟨rfl, ⟨rfl, rfl, rfl⟩, _⟩ := h1
  exact ⟨a, n, c, hb, h2⟩
theorem box4 {w w1 : World} {f1 f2 f3 a b c d : Value} {s t u : TypeId} {o : Obj} (hx : Ext ((((w.alloc (.cells #[f1, f2, f3] s)).alloc (.cells #[a, b] t)).alloc (.cells #[c, d] u)).alloc o) w1) :
    w1.cell? ⟨w.heap.size, 0, none⟩ = some f1 ∧ w1.cell? ⟨w.heap.size, 1, none⟩ = some f2 ∧ w1.cell? ⟨w.heap.size, 2, none⟩ = some f3 ∧ w1.cell? ⟨w.heap.size + 1, 0, none⟩ = some a ∧ w1.cell? ⟨w.heap.size + 1, 1, none⟩ = some b ∧
      w1.cell? ⟨w.heap.size + 1 + 1, 0, none⟩ = some c ∧ w1.cell? ⟨w.heap.size + 1 + 1, 1, none⟩ = some d ∧ w1.heap[w.heap.size + 1 + 1 + 1]? = some o ∧ Ext w w1 := by
  obtain ⟨h1, h2, h3, h4, h5, h6, h7, h8⟩ := box3 (((Ext.refl _).alloc o).trans hx)
  have e : (((w.alloc (.cells #[f1, f2, f3] s)).alloc (.cells #[a, b] t)).alloc (.cells #[c, d] u)).heap.size = w.heap.size + 1 + 1 + 1 := by simp
  have hn := heap_alloc_new (((w.alloc (.cells #[f1, f2, f3] s)).alloc (.cells #[a, b] t)).alloc (.cells #[c, d] u)) o
  rw [e] at hn
  exact ⟨h1, h2, h3, h4, h5, h6, h7, hx.row hn, h8⟩
/-- What is said of a tree. -/
def PartT (t : AT) : Prop := ∀ (p : Option Addr) (d a b : ByteArray) (w : World), cnt t ≤ 50 → okA t → AIn w t p d →
  Calls Tryz.prog 137 #[.agg #[fT1, fT2, fT3], .agg #[.pointer p, .string d], .agg #[.string a, .string b]] w fun e w' => ∃ v, e = .returned v ∧ Ext w w' ∧ RTold w w' t v
theorem RTold.shape {w0 w : World} {t : AT} {v : Value} (h : RTold w0 w t v) : ∃ d a n c, v = .agg #[.string d, .slice a n c] := by
  obtain ⟨a, n, c, h1, _⟩ := h
  exact ⟨_, a, n, c, h1⟩

set_option maxHeartbeats 4000000 in
set_option maxRecDepth 100000 in
theorem partT_empty : PartT .empty := by
  rintro p d a b w hcnt hok ⟨rfl, rfl⟩
  obtain ⟨W1, hW1⟩ : ∃ z, z = ((((w.alloc ovT).alloc (.cells #[.pointer none, .string ⟨#[]⟩] 82)).alloc (.cells #[.string a, .string b] 122)).alloc nilR) := ⟨_, rfl⟩
  have HE := hid (toldE_any a b W1)
  obtain ⟨-, -, -, -, -, -, -, hb, hx⟩ := box4 (Ext.refl ((((w.alloc ovT).alloc (.cells #[.pointer none, .string ⟨#[]⟩] 82)).alloc (.cells #[.string a, .string b] 122)).alloc nilR))
  rw [← hW1] at hb hx
  have HW1 := hid hW1
  have HX := hid hx
  clear hW1 hx
  go_enter Tryz.func137, Tryz.ntmps137
  go_wp2_with fail
  rw [← HW1.out]
  refine HE.out.mono ?_
  rintro e w1 ⟨v, rfl, hx1, hv⟩
  obtain ⟨dd, a1, n1, c1, rfl⟩ := hv.shape
  have hb1 := hx1.row hb
  have s0 : w1.cell? ⟨w.heap.size + 1 + 1 + 1, 0, none⟩ = some (.string ⟨#[]⟩) := cell_of_row _ _ 0 _ _ _ hb1
  have s1 : w1.cell? ⟨w.heap.size + 1 + 1 + 1, 1, none⟩ = some (.slice none 0 0) := cell_of_row _ _ 1 _ _ _ hb1
  have sf := row_frz hb1
  have HB := hid (told_store hv hb1 (row_lt hb))
  have HX1 := hid (HX.out.trans hx1)
  have HS := hid HX.out.size
  clear hv hx1 hb1 hb
  go_wp2_with fail
  exact ret_R (p := 6) (by kernel_rfl) rfl HB.out.1 ⟨_, rfl, (HX1.out.setCell (by simp; omega) _).setCell (by simp; omega) _, HB.out.2.base HS.out⟩

set_option maxHeartbeats 4000000 in
set_option maxRecDepth 100000 in
theorem partT_alone (e : ByteArray) : PartT (.alone e) := by
  rintro p d a b w hcnt hok ⟨rfl, rfl, h3⟩
  have hne : d.toList.isEmpty = false := by
    have : beq d ⟨#[]⟩ = false := beq_false.2 (fun h => by rw [h] at h3; cases h3)
    rw [beq_empty] at this; exact this
  obtain ⟨W1, hW1⟩ : ∃ z, z = ((((w.alloc ovT).alloc (.cells #[.pointer none, .string d] 82)).alloc (.cells #[.string a, .string b] 122)).alloc nilR) := ⟨_, rfl⟩
  have HE := hid (toldA_any d a b W1)
  obtain ⟨-, -, -, -, -, -, -, hb, hx⟩ := box4 (Ext.refl ((((w.alloc ovT).alloc (.cells #[.pointer none, .string d] 82)).alloc (.cells #[.string a, .string b] 122)).alloc nilR))
  rw [← hW1] at hb hx
  have HW1 := hid hW1
  have HX := hid hx
  clear hW1 hx
  go_enter Tryz.func137, Tryz.ntmps137
  go_wp2_with fail
  rw [← HW1.out]
  refine HE.out.mono ?_
  rintro e w1 ⟨v, rfl, hx1, hv⟩
  obtain ⟨dd, a1, n1, c1, rfl⟩ := hv.shape
  have hb1 := hx1.row hb
  have s0 : w1.cell? ⟨w.heap.size + 1 + 1 + 1, 0, none⟩ = some (.string ⟨#[]⟩) := cell_of_row _ _ 0 _ _ _ hb1
  have s1 : w1.cell? ⟨w.heap.size + 1 + 1 + 1, 1, none⟩ = some (.slice none 0 0) := cell_of_row _ _ 1 _ _ _ hb1
  have sf := row_frz hb1
  have HB := hid (told_store hv hb1 (row_lt hb))
  have HX1 := hid (HX.out.trans hx1)
  have HS := hid HX.out.size
  clear hv hx1 hb1 hb
  go_wp2_with fail
  exact ret_R (p := 6) (by kernel_rfl) rfl HB.out.1 ⟨_, rfl, (HX1.out.setCell (by simp; omega) _).setCell (by simp; omega) _, HB.out.2.base HS.out⟩

set_option maxHeartbeats 8000000 in
set_option maxRecDepth 100000 in
theorem partT_node (x : It) (l r : AT) (hl : PartT l) (hr : PartT r) : PartT (.node x l r) := by
  rintro p d a b w hcnt hok ⟨rfl, nb, lp, ls, rp, rs, rfl, hrow, ha1, ha2⟩
  have hc : cnt l + cnt r + 1 ≤ 50 := hcnt
  have CL := hid (fun (w' : World) (hx : Ext w w') => hl lp ls a x.key w' (by omega) hok.2.1 (ha1.ext hx))
  have CR := hid (fun (w' : World) (hx : Ext w w') => hr rp rs x.key b w' (by omega) hok.2.2 (ha2.ext hx))
  have CN := hid (fun (vl vr : Value) (wl wr0 w' : World) (hx : Ext w w') (h1 : RTold wl w' l vl) (h2 : RTold wr0 w' r vr) => toldN_any a b x l r lp rp ls rs nb vl vr w' (hx.row hrow) wl wr0 h1 h2 hok.1 hok.2.1 hok.2.2 hc)
  obtain ⟨n0, -, -, n3, n4, n5, n6⟩ := n_cells hrow
  obtain ⟨W1, hW1⟩ : ∃ z, z = ((((w.alloc ovT).alloc (.cells #[.pointer (some ⟨nb, 0, none⟩), .string ⟨#[]⟩] 82)).alloc (.cells #[.string a, .string b] 122)).alloc nilR) := ⟨_, rfl⟩
  have Q := hid (fun (w' : World) (hx : Ext W1 w') => (by
    rw [hW1] at hx
    obtain ⟨z0, z1, z2, z3, z4, z5, z6, z7, hy⟩ := box4 hx
    exact ⟨z0, z1, z2, z3, z5, z6, z7, hy.keep1 n0, hy.keep1 n3, hy.keep1 n4, hy.keep1 n5, hy.keep1 n6, hy⟩ :
    w'.cell? ⟨w.heap.size, 0, none⟩ = some fT1 ∧ w'.cell? ⟨w.heap.size, 1, none⟩ = some fT2 ∧ w'.cell? ⟨w.heap.size, 2, none⟩ = some fT3 ∧ w'.cell? ⟨w.heap.size + 1, 0, none⟩ = some (.pointer (some ⟨nb, 0, none⟩)) ∧
      w'.cell? ⟨w.heap.size + 1 + 1, 0, none⟩ = some (.string a) ∧ w'.cell? ⟨w.heap.size + 1 + 1, 1, none⟩ = some (.string b) ∧ w'.heap[w.heap.size + 1 + 1 + 1]? = some nilR ∧ w'.cell? ⟨nb, 0, none⟩ = some (.string x.key) ∧ w'.cell? ⟨nb, 3, none⟩ = some (.pointer lp) ∧ w'.cell? ⟨nb, 4, none⟩ = some (.string ls) ∧ w'.cell? ⟨nb, 5, none⟩ = some (.pointer rp) ∧ w'.cell? ⟨nb, 6, none⟩ = some (.string rs) ∧ Ext w w'))
  have HW1 := hid hW1
  have hws : w.heap.size ≤ w.heap.size + 1 + 1 + 1 := by omega
  clear hrow ha1 ha2 hl hr n0 n3 n4 n5 n6 hW1 hcnt hok hc
  go_enter Tryz.func137, Tryz.ntmps137
  go_wp2_with fail
  rw [← HW1.out]
  clear HW1
  obtain ⟨s0, hs0⟩ : ∃ z, z = w.heap.size := ⟨_, rfl⟩
  have hw0 : w.heap.size ≤ s0 := by omega
  rw [← hs0] at Q hws ⊢
  clear hs0
  generalize s0 + 1 + 1 + 1 = s3 at *
  generalize s0 + 1 + 1 = s2 at *
  generalize s0 + 1 = s1 at *
  obtain ⟨z0, z1, z2, z3, z5, z6, z7, y0, y3, y4, y5, y6, hy⟩ := Q.out W1 (Ext.refl _)
  go_cut [7] (fun v wx => ∃ lb, v = .pointer (some ⟨lb, 0, none⟩) ∧ ToldAt wx l lb ∧ Ext W1 wx)
  case first =>
    obtain ⟨WB, hWB⟩ : ∃ z, z = W1 := ⟨_, rfl⟩
    subst hWB
    have QB := Q
    go_region_held3 (fun w' => w'.cell? ⟨s0, 0, none⟩ = some fT1 ∧ w'.cell? ⟨s0, 1, none⟩ = some fT2 ∧ w'.cell? ⟨s0, 2, none⟩ = some fT3 ∧ w'.cell? ⟨s1, 0, none⟩ = some (.pointer (some ⟨nb, 0, none⟩)) ∧ w'.cell? ⟨s2, 0, none⟩ = some (.string a) ∧ w'.cell? ⟨s2, 1, none⟩ = some (.string b) ∧ w'.cell? ⟨nb, 0, none⟩ = some (.string x.key) ∧ w'.cell? ⟨nb, 3, none⟩ = some (.pointer lp) ∧ w'.cell? ⟨nb, 4, none⟩ = some (.string ls)) (first | go_keep | exact ⟨(QB.out _ (HE.out _ _)).1, (QB.out _ (HE.out _ _)).2.1, (QB.out _ (HE.out _ _)).2.2.1, (QB.out _ (HE.out _ _)).2.2.2.1, (QB.out _ (HE.out _ _)).2.2.2.2.1, (QB.out _ (HE.out _ _)).2.2.2.2.2.1, (QB.out _ (HE.out _ _)).2.2.2.2.2.2.2.1, (QB.out _ (HE.out _ _)).2.2.2.2.2.2.2.2.1, (QB.out _ (HE.out _ _)).2.2.2.2.2.2.2.2.2.1⟩)
      (first
        | (go_at_call 102; refine (Left_any a b x.key _).mono ?_; rintro e w3 ⟨rfl, hx3⟩; (first | (have hy3 : Ext WB w3 := Ext.trans ((Ext.refl WB).drew) hx3; have hu3 := hy3) | (have hz3 : Ext (WB.alloc nilR) w3 := Ext.trans ((Ext.refl (WB.alloc nilR)).drew) hx3; have hu3 := ((Ext.refl WB).alloc nilR).trans hz3)); obtain ⟨m0, m1, m2, m3, m4, m5, m6, m7, m8, m9, m10, m11, m12⟩ := QB.out _ hu3)
        | (go_at_call 137; first
            | (have hg := hz3; refine (CL.out _ m12).mono ?_; rintro e w4 ⟨v4, rfl, hx4, hv4⟩; obtain ⟨dd, a1, n1, c1, rfl⟩ := hv4.shape; have hy4 := hu3.trans hx4; have hb4 := hx4.row (hz3.row (heap_alloc_new WB nilR)); have HE := hid (fun (u v : Value) => (hy4.setCell (p := ⟨WB.heap.size, 0, none⟩) (Nat.le_refl _) u).setCell (p := ⟨WB.heap.size, 1, none⟩) (Nat.le_refl _) v); have TS := hid (told_store hv4 hb4 (row_lt (hz3.row (heap_alloc_new WB nilR)))))
            | (refine (CL.out w3 m12).mono ?_; rintro e w4 ⟨v4, rfl, hx4, hv4⟩; obtain ⟨dd, a1, n1, c1, rfl⟩ := hv4.shape; have hy4 := hu3.trans hx4; have hlast := hid hv4)
            | (refine (CL.out (w3.alloc nilR) (m12.trans ((Ext.refl w3).alloc nilR))).mono ?_; rintro e w4 ⟨v4, rfl, hx4, hv4⟩; obtain ⟨dd, a1, n1, c1, rfl⟩ := hv4.shape; have hy4 := hu3.trans (((Ext.refl w3).alloc nilR).trans hx4); have hb4 := hx4.row (heap_alloc_new w3 nilR); have HE := hid (fun (u v : Value) => (hy4.setCell (p := ⟨w3.heap.size, 0, none⟩) hu3.size u).setCell (p := ⟨w3.heap.size, 1, none⟩) hu3.size v); have TS := hid (told_store hv4 hb4 (row_lt (heap_alloc_new w3 nilR))))
           (try (have l0 := cell_of_row _ _ 0 _ _ _ hb4)); (try (have l1 := cell_of_row _ _ 1 _ _ _ hb4)); (try (have lf := row_frz hb4)); (try (have HB4 := hid hb4; clear hb4)); clear hv4; obtain ⟨o0, o1, o2, o3, o4, o5, o6, o7, o8, o9, o10, o11, o12⟩ := QB.out _ hy4))
    all_goals (try go_wp2_with fail)
    all_goals go_meet
    all_goals first | exact ⟨_, rfl, TS.out.2.at TS.out.1, HE.out _ _⟩ | exact ⟨_, rfl, (hlast.out.ext ((Ext.refl _).alloc _)).at (heap_alloc_new _ _), hy4.alloc _⟩
  case rest =>
    obtain ⟨WB, rfl⟩ : ∃ z, z = wc := ⟨_, rfl⟩
    obtain ⟨lb, rfl, ht7, hx7⟩ := hcut
    have QB := hid (fun (w' : World) (hx : Ext WB w') => Q.out w' (hx7.trans hx))
    have HT7 := hid ht7
    clear z0 z1 z2 z3 z5 z6 z7 y0 y3 y4 y5 y6 hy ht7 hx7 Q
    obtain ⟨z0, z1, z2, z3, z5, z6, z7, y0, y3, y4, y5, y6, hy⟩ := QB.out WB (Ext.refl _)
    go_wp2_with fail
    go_cut [8] (fun v wx => ∃ rb, v = .pointer (some ⟨rb, 0, none⟩) ∧ ToldAt wx r rb ∧ Ext WB wx)
    case first =>
      go_region_held3 (fun w' => w'.cell? ⟨s0, 0, none⟩ = some fT1 ∧ w'.cell? ⟨s0, 1, none⟩ = some fT2 ∧ w'.cell? ⟨s0, 2, none⟩ = some fT3 ∧ w'.cell? ⟨s1, 0, none⟩ = some (.pointer (some ⟨nb, 0, none⟩)) ∧ w'.cell? ⟨s2, 0, none⟩ = some (.string a) ∧ w'.cell? ⟨s2, 1, none⟩ = some (.string b) ∧ w'.cell? ⟨nb, 0, none⟩ = some (.string x.key) ∧ w'.cell? ⟨nb, 5, none⟩ = some (.pointer rp) ∧ w'.cell? ⟨nb, 6, none⟩ = some (.string rs)) (first | go_keep | exact ⟨(QB.out _ (HE.out _ _)).1, (QB.out _ (HE.out _ _)).2.1, (QB.out _ (HE.out _ _)).2.2.1, (QB.out _ (HE.out _ _)).2.2.2.1, (QB.out _ (HE.out _ _)).2.2.2.2.1, (QB.out _ (HE.out _ _)).2.2.2.2.2.1, (QB.out _ (HE.out _ _)).2.2.2.2.2.2.2.1, (QB.out _ (HE.out _ _)).2.2.2.2.2.2.2.2.2.2.1, (QB.out _ (HE.out _ _)).2.2.2.2.2.2.2.2.2.2.2.1⟩)
        (first
          | (go_at_call 103; refine (Right_any a b x.key _).mono ?_; rintro e w3 ⟨rfl, hx3⟩; (first | (have hy3 : Ext WB w3 := Ext.trans ((Ext.refl WB).drew) hx3; have hu3 := hy3) | (have hz3 : Ext (WB.alloc nilR) w3 := Ext.trans ((Ext.refl (WB.alloc nilR)).drew) hx3; have hu3 := ((Ext.refl WB).alloc nilR).trans hz3)); obtain ⟨m0, m1, m2, m3, m4, m5, m6, m7, m8, m9, m10, m11, m12⟩ := QB.out _ hu3)
          | (go_at_call 137; first
              | (have hg := hz3; refine (CR.out _ m12).mono ?_; rintro e w4 ⟨v4, rfl, hx4, hv4⟩; obtain ⟨dd, a1, n1, c1, rfl⟩ := hv4.shape; have hy4 := hu3.trans hx4; have hb4 := hx4.row (hz3.row (heap_alloc_new WB nilR)); have HE := hid (fun (u v : Value) => (hy4.setCell (p := ⟨WB.heap.size, 0, none⟩) (Nat.le_refl _) u).setCell (p := ⟨WB.heap.size, 1, none⟩) (Nat.le_refl _) v); have TS := hid (told_store hv4 hb4 (row_lt (hz3.row (heap_alloc_new WB nilR)))))
              | (refine (CR.out w3 m12).mono ?_; rintro e w4 ⟨v4, rfl, hx4, hv4⟩; obtain ⟨dd, a1, n1, c1, rfl⟩ := hv4.shape; have hy4 := hu3.trans hx4; have hlast := hid hv4)
              | (refine (CR.out (w3.alloc nilR) (m12.trans ((Ext.refl w3).alloc nilR))).mono ?_; rintro e w4 ⟨v4, rfl, hx4, hv4⟩; obtain ⟨dd, a1, n1, c1, rfl⟩ := hv4.shape; have hy4 := hu3.trans (((Ext.refl w3).alloc nilR).trans hx4); have hb4 := hx4.row (heap_alloc_new w3 nilR); have HE := hid (fun (u v : Value) => (hy4.setCell (p := ⟨w3.heap.size, 0, none⟩) hu3.size u).setCell (p := ⟨w3.heap.size, 1, none⟩) hu3.size v); have TS := hid (told_store hv4 hb4 (row_lt (heap_alloc_new w3 nilR))))
             (try (have l0 := cell_of_row _ _ 0 _ _ _ hb4)); (try (have l1 := cell_of_row _ _ 1 _ _ _ hb4)); (try (have lf := row_frz hb4)); (try (have HB4 := hid hb4; clear hb4)); clear hv4; obtain ⟨o0, o1, o2, o3, o4, o5, o6, o7, o8, o9, o10, o11, o12⟩ := QB.out _ hy4))
      all_goals (try go_wp2_with fail)
      all_goals go_meet
      all_goals first | exact ⟨_, rfl, TS.out.2.at TS.out.1, HE.out _ _⟩ | exact ⟨_, rfl, (hlast.out.ext ((Ext.refl _).alloc _)).at (heap_alloc_new _ _), hy4.alloc _⟩
    case rest =>
      obtain ⟨W3, rfl⟩ : ∃ z, z = wc := ⟨_, rfl⟩
      obtain ⟨rb, rfl, ht8, hx8⟩ := hcut
      clear z0 z1 z2 z3 z5 z6 z7 y0 y3 y4 y5 y6 hy
      obtain ⟨z0, z1, z2, z3, z5, z6, z7, y0, y3, y4, y5, y6, hy⟩ := QB.out W3 hx8
      obtain ⟨la, ln, lc, hlr, hli⟩ := HT7.out.ext hx8
      obtain ⟨ra, rn, rc, hrr, hri⟩ := ht8
      have l0 : W3.cell? ⟨lb, 0, none⟩ = some (.string (digT l)) := cell_of_row _ _ 0 _ _ _ hlr
      have l1 : W3.cell? ⟨lb, 1, none⟩ = some (.slice la ln lc) := cell_of_row _ _ 1 _ _ _ hlr
      have r0 : W3.cell? ⟨rb, 0, none⟩ = some (.string (digT r)) := cell_of_row _ _ 0 _ _ _ hrr
      have r1 : W3.cell? ⟨rb, 1, none⟩ = some (.slice ra rn rc) := cell_of_row _ _ 1 _ _ _ hrr
      have CC := hid (CN.out (.agg #[.string (digT l), .slice la ln lc]) (.agg #[.string (digT r), .slice ra rn rc]) { W3 with heap := #[] } { W3 with heap := #[] } W3 hy ⟨la, ln, lc, rfl, hli, fun x _ => Nat.zero_le _⟩ ⟨ra, rn, rc, rfl, hri, fun x _ => Nat.zero_le _⟩)
      have HY := hid hy
      have HZ7 := hid z7
      clear hlr hli hrr hri hx8 hy QB HT7 CL CR CN y3 y4 y5 y6 z7
      generalize digT l = dl at *
      generalize digT r = dr at *
      go_wp2_with fail
      refine CC.out.mono ?_
      rintro e w5 ⟨v, rfl, hx5, hv⟩
      obtain ⟨dd, a1, n1, c1, rfl⟩ := hv.shape
      have hb5 := hx5.row HZ7.out
      have k0 : w5.cell? ⟨s3, 0, none⟩ = some (.string ⟨#[]⟩) := cell_of_row _ _ 0 _ _ _ hb5
      have k1 : w5.cell? ⟨s3, 1, none⟩ = some (.slice none 0 0) := cell_of_row _ _ 1 _ _ _ hb5
      have kf := row_frz hb5
      have HB := hid (told_store hv hb5 (row_lt HZ7.out))
      have HX5 := hid (HY.out.trans hx5)
      have HS := hid HY.out.size
      clear hv hx5 hb5
      go_wp2_with fail
      exact ret_R (p := 6) (by kernel_rfl) rfl HB.out.1 ⟨_, rfl, (HX5.out.setCell (by simp; omega) _).setCell (by simp; omega) _, HB.out.2.base HS.out⟩
theorem partT_any : ∀ t, PartT t
  | .empty => partT_empty
  | .alone e => partT_alone e
  | .node x l r => partT_node x l r (partT_any l) (partT_any r)
end Go.Proofs.YtjohkmkgmbihkaaGreatDoor
