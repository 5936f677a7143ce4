/- What goes over an answer: what it tells of a node. -/
import Derived.Test.YtjohkmkgmbihkaaGreatDoorOverF
namespace Go.Proofs.YtjohkmkgmbihkaaGreatDoor
open Go.ChangeShapes Go.WideShapes Go.ChangeAt Go.RowKit
set_option linter.unusedVariables false

theorem set2_away (w : World) (b g j : Nat) (u v : Value) (hne : b ≠ g) {x : Value} (h : w.cell? ⟨g, j, none⟩ = some x) : ((w.setCell ⟨b, 0, none⟩ u).setCell ⟨b, 1, none⟩ v).cell? ⟨g, j, none⟩ = some x := by
  rw [World.cell?_setCell_other _ _ _ _ (by intro q; injection q; omega), World.cell?_setCell_other _ _ _ _ (by intro q; injection q; omega)]; exact h
theorem ConcatF (w : World) (t : ByteArray) (s1 s2 : Value) (A B : List ByteArray) (h1 : ItS w s1 A) (h2 : ItS w s2 B) (hlen : A.length + B.length ≤ 400) :
    Calls Tryz.prog 112 #[.slice (some ⟨w.heap.size + 1, 0, none⟩) 3 3] ((w.alloc (.cells #[.string t] 9)).alloc (.cells #[.slice (some ⟨w.heap.size, 0, none⟩) 1 1, s1, s2] 129))
      fun e w' => ∃ a n c, e = .returned (.slice a n c) ∧ Ext w w' ∧ ItS w' (.slice a n c) (t :: (A ++ B)) ∧ ∀ x, a = some x → w.heap.size ≤ x.block := by
  have e2 : (w.alloc (.cells #[.string t] 9)).heap.size = w.heap.size + 1 := by simp
  have x1 := (Ext.refl w).alloc (.cells #[.string t] 9)
  have x2 := (Ext.refl (w.alloc (.cells #[.string t] 9))).alloc (.cells #[.slice (some ⟨w.heap.size, 0, none⟩) 1 1, s1, s2] 129)
  have hc := cell_new (w.alloc (.cells #[.string t] 9)) #[.slice (some ⟨w.heap.size, 0, none⟩) 1 1, s1, s2] 129
  rw [e2] at hc
  refine (ConcatT (w.heap.size + 1) w.heap.size t s1 s2 A B _ (by simp) (hc 0) (hc 1) (hc 2) (x2.keep1 (cell_new w #[.string t] 9 0)) (h1.ext (x1.trans x2)) (h2.ext (x1.trans x2)) hlen).mono ?_
  rintro e w' ⟨a, n, c, rfl, hx, hi, hq⟩
  exact ⟨a, n, c, rfl, (x1.trans x2).trans hx, hi, fun x h => Nat.le_trans (x1.trans x2).size (hq x h)⟩
theorem ConcatG (w w3 : World) (t : ByteArray) (s1 s2 : Value) (A B : List ByteArray) (hz : Ext (w.alloc (.cells #[.string t] 9)) w3) (h1 : ItS w s1 A) (h2 : ItS w s2 B) (hlen : A.length + B.length ≤ 400) :
    Calls Tryz.prog 112 #[.slice (some ⟨w3.heap.size, 0, none⟩) 3 3] (w3.alloc (.cells #[.slice (some ⟨w.heap.size, 0, none⟩) 1 1, s1, s2] 129))
      fun e w' => ∃ a n c, e = .returned (.slice a n c) ∧ Ext w3 w' ∧ ItS w' (.slice a n c) (t :: (A ++ B)) ∧ ∀ x, a = some x → w3.heap.size ≤ x.block := by
  have x1 := ((Ext.refl w).alloc (.cells #[.string t] 9)).trans hz
  have x2 := (Ext.refl w3).alloc (.cells #[.slice (some ⟨w.heap.size, 0, none⟩) 1 1, s1, s2] 129)
  have hc := cell_new w3 #[.slice (some ⟨w.heap.size, 0, none⟩) 1 1, s1, s2] 129
  refine (ConcatT w3.heap.size w.heap.size t s1 s2 A B _ (by simp) (hc 0) (hc 1) (hc 2) (x2.keep1 (hz.keep1 (cell_new w #[.string t] 9 0))) (h1.ext (x1.trans x2)) (h2.ext (x1.trans x2)) hlen).mono ?_
  rintro e w' ⟨a, n, c, rfl, hx, hi, hq⟩
  exact ⟨a, n, c, rfl, x2.trans hx, hi, fun x h => Nat.le_trans x2.size (hq x h)⟩
theorem ConcatH (w w3 : World) (t : ByteArray) (s1 s2 : Value) (A B : List ByteArray) (hz : Ext ((w.alloc (.cells #[.string t] 9)).alloc (.cells #[.slice (some ⟨w.heap.size, 0, none⟩) 1 1, s1, s2] 129)) w3) (h1 : ItS w s1 A) (h2 : ItS w s2 B) (hlen : A.length + B.length ≤ 400) :
    Calls Tryz.prog 112 #[.slice (some ⟨w.heap.size + 1, 0, none⟩) 3 3] w3
      fun e w' => ∃ a n c, e = .returned (.slice a n c) ∧ Ext w3 w' ∧ ItS w' (.slice a n c) (t :: (A ++ B)) ∧ ∀ x, a = some x → w3.heap.size ≤ x.block := by
  have e2 : (w.alloc (.cells #[.string t] 9)).heap.size = w.heap.size + 1 := by simp
  have x1 := (Ext.refl w).alloc (.cells #[.string t] 9)
  have x2 := (Ext.refl (w.alloc (.cells #[.string t] 9))).alloc (.cells #[.slice (some ⟨w.heap.size, 0, none⟩) 1 1, s1, s2] 129)
  have hc := cell_new (w.alloc (.cells #[.string t] 9)) #[.slice (some ⟨w.heap.size, 0, none⟩) 1 1, s1, s2] 129
  rw [e2] at hc
  exact ConcatT (w.heap.size + 1) w.heap.size t s1 s2 A B _ (Nat.lt_of_lt_of_le (by simp) hz.size) (hz.keep1 (hc 0)) (hz.keep1 (hc 1)) (hz.keep1 (hc 2)) (hz.keep1 (x2.keep1 (cell_new w #[.string t] 9 0))) (h1.ext ((x1.trans x2).trans hz)) (h2.ext ((x1.trans x2).trans hz)) hlen
set_option maxHeartbeats 8000000 in
set_option maxRecDepth 100000 in
theorem toldN_any (a b : ByteArray) (x : It) (l r : AT) (lp rp : Option Addr) (ls rs : ByteArray) (nb : Nat) (vl vr : Value) (w : World)
    (hn : w.heap[nb]? = some (nodeO x lp ls rp rs)) (wl wr0 : World) (hl : RTold wl w l vl) (hr : RTold wr0 w r vr) (hf : fault x.key x.val x.h = 0) (hol : okA l) (hor : okA r) (hc : cnt l + cnt r + 1 ≤ 50) :
    Calls Tryz.prog 111 #[.pointer (some ⟨nb, 0, none⟩), .agg #[.string a, .string b], vl, vr] w fun e w' => ∃ v, e = .returned v ∧ Ext w w' ∧ RTold w w' (.node x l r) v := by
  obtain ⟨a1, m1, p1, rfl, hl, _⟩ := hl
  obtain ⟨a2, m2, p2, rfl, hr, _⟩ := hr
  obtain ⟨hk, hv, hh⟩ := fault_small hf
  have hdl := digT_size hol
  have hdr := digT_size hor
  have hlen : (txtT l).length + (txtT r).length ≤ 400 := by
    have h1 := txtT_len l
    have h2 := txtT_len r
    omega
  have zh := head_size x
  have TX := hid (Text_any x (digT l) (digT r) hk hv hh hdl hdr)
  have tsz : (head x ++ digT l ++ digT r).size ≤ 50 := by
    rw [ByteArray.size_append, ByteArray.size_append]; omega
  have hD : digT (.node x l r) = Sm.sum (head x ++ digT l ++ digT r) := rfl
  have hT : txtT (.node x l r) = (head x ++ digT l ++ digT r) :: (txtT l ++ txtT r) := rfl
  unfold RTold
  rw [hD, hT]
  clear hD hT
  generalize head x ++ digT l ++ digT r = T at *
  generalize digT l = dl at *
  generalize digT r = dr at *
  generalize txtT l = tl at *
  generalize txtT r = tr at *
  have OF := hid (fun w' => of_any T w' (by unfold maxLen; omega))
  obtain ⟨W1, hW1⟩ : ∃ z, z = (((w.alloc (.cells #[.string a, .string b] 122)).alloc (.cells #[.string dl, .slice a1 m1 p1] 131)).alloc (.cells #[.string dr, .slice a2 m2 p2] 131)).alloc nilR := ⟨_, rfl⟩
  have hx1 : Ext w W1 := by rw [hW1]; exact ((((Ext.refl w).alloc _).alloc _).alloc _).alloc _
  have r1 : W1.heap[w.heap.size + 1]? = some (.cells #[.string dl, .slice a1 m1 p1] 131) := by
    rw [hW1]
    have h0 := heap_alloc2_new w (.cells #[.string a, .string b] 122) (.cells #[.string dl, .slice a1 m1 p1] 131)
    exact (((Ext.refl _).alloc _).alloc _).row h0
  have e2 : (w.alloc (.cells #[.string a, .string b] 122)).heap.size = w.heap.size + 1 := by simp
  have r2 : W1.heap[w.heap.size + 2]? = some (.cells #[.string dr, .slice a2 m2 p2] 131) := by
    rw [hW1]
    have h0 := heap_alloc2_new (w.alloc (.cells #[.string a, .string b] 122)) (.cells #[.string dl, .slice a1 m1 p1] 131) (.cells #[.string dr, .slice a2 m2 p2] 131)
    rw [e2] at h0
    exact ((Ext.refl _).alloc _).row h0
  have r3 : W1.heap[w.heap.size + 3]? = some nilR := by
    rw [hW1]
    have h0 := heap_alloc2_new ((w.alloc (.cells #[.string a, .string b] 122)).alloc (.cells #[.string dl, .slice a1 m1 p1] 131)) (.cells #[.string dr, .slice a2 m2 p2] 131) nilR
    have e3 : ((w.alloc (.cells #[.string a, .string b] 122)).alloc (.cells #[.string dl, .slice a1 m1 p1] 131)).heap.size = w.heap.size + 2 := by simp
    rw [e3] at h0
    exact h0
  obtain ⟨n0, n1, n2, _⟩ := n_cells (hx1.row hn)
  have Q := hid (fun (w' : World) (hx : Ext W1 w') => (⟨hx.keep1 n0, hx.keep1 n1, hx.keep1 n2, cell_of_row _ _ 0 _ _ _ (hx.row r1), cell_of_row _ _ 1 _ _ _ (hx.row r1), cell_of_row _ _ 0 _ _ _ (hx.row r2), cell_of_row _ _ 1 _ _ _ (hx.row r2), hx.row r3⟩ :
    w'.cell? ⟨nb, 0, none⟩ = some (.string x.key) ∧ w'.cell? ⟨nb, 1, none⟩ = some (.string x.val) ∧ w'.cell? ⟨nb, 2, none⟩ = some (.int .i64 x.h) ∧ w'.cell? ⟨w.heap.size + 1, 0, none⟩ = some (.string dl) ∧ w'.cell? ⟨w.heap.size + 1, 1, none⟩ = some (.slice a1 m1 p1) ∧ w'.cell? ⟨w.heap.size + 1 + 1, 0, none⟩ = some (.string dr) ∧ w'.cell? ⟨w.heap.size + 1 + 1, 1, none⟩ = some (.slice a2 m2 p2) ∧ w'.heap[w.heap.size + 1 + 1 + 1]? = some nilR))
  have HW1 := hid hW1
  have HX1 := hid hx1
  have HL := hid (hl.ext hx1)
  have HR := hid (hr.ext hx1)
  have hlt1 : w.heap.size + 1 + 1 + 1 < W1.heap.size := row_lt r3
  clear hn hl hr hf hol hor hc hk hv hh hdl hdr zh hx1 r1 r2 r3 n0 n1 n2 e2 hW1
  go_enter Tryz.func111, Tryz.ntmps111
  go_wp2_with fail
  rw [← HW1.out]
  obtain ⟨q0, q1, q2, q3, q4, q5, q6, q7⟩ := Q.out W1 (Ext.refl _)
  go_cut [9] (fun v wx => v = .string T ∧ Ext W1 wx)
  case first =>
    go_region_held3 (fun w' => w'.cell? ⟨nb, 0, none⟩ = some (.string x.key) ∧ w'.cell? ⟨nb, 1, none⟩ = some (.string x.val) ∧ w'.cell? ⟨nb, 2, none⟩ = some (.int .i64 x.h) ∧ w'.cell? ⟨w.heap.size + 1, 0, none⟩ = some (.string dl) ∧ w'.cell? ⟨w.heap.size + 1 + 1, 0, none⟩ = some (.string dr)) (go_keep)
      (first
        | (go_at_call 99; refine (TX.out _).mono ?_; rintro e w3 ⟨rfl, hx3⟩; have hy3 : Ext W1 w3 := Ext.trans ((Ext.refl _).drew) hx3; obtain ⟨m0, m1', m2', m3, m4, m5, m6, m7⟩ := Q.out _ hy3))
    all_goals (try go_wp2_with fail)
    all_goals go_meet
    all_goals exact ⟨rfl, hy3⟩
  case rest =>
    obtain ⟨W2, rfl⟩ : ∃ z, z = wc := ⟨_, rfl⟩
    obtain ⟨rfl, hx2⟩ := hcut
    have HX2 := hid hx2
    clear q0 q1 q2 q3 q4 q5 q6 q7
    obtain ⟨q0, q1, q2, q3, q4, q5, q6, q7⟩ := Q.out W2 hx2
    clear q0 q1 q2 q3 q5
    have CT := hid (fun (w3 : World) (hy : Ext W2 w3) => ConcatF w3 T (.slice a1 m1 p1) (.slice a2 m2 p2) tl tr (HL.out.ext (HX2.out.trans hy)) (HR.out.ext (HX2.out.trans hy)) hlen)
    have CT2 := hid (fun (w3 : World) (hz : Ext (W2.alloc (.cells #[.string T] 9)) w3) => ConcatG W2 w3 T (.slice a1 m1 p1) (.slice a2 m2 p2) tl tr hz (HL.out.ext HX2.out) (HR.out.ext HX2.out) hlen)
    have CT3 := hid (fun (w3 : World) (hz : Ext ((W2.alloc (.cells #[.string T] 9)).alloc (.cells #[.slice (some ⟨W2.heap.size, 0, none⟩) 1 1, .slice a1 m1 p1, .slice a2 m2 p2] 129)) w3) => ConcatH W2 w3 T (.slice a1 m1 p1) (.slice a2 m2 p2) tl tr hz (HL.out.ext HX2.out) (HR.out.ext HX2.out) hlen)
    have Q5 := hid (fun (w5 : World) (hy5 : Ext W1 w5) => (by
      obtain ⟨o0, o1, o2, o3, o4, o5, o6, o7⟩ := Q.out _ hy5
      exact ⟨cell_of_row _ _ 0 _ _ _ o7, cell_of_row _ _ 1 _ _ _ o7, row_frz o7, o4, o6, o7⟩ :
      w5.cell? ⟨w.heap.size + 1 + 1 + 1, 0, none⟩ = some (.string ⟨#[]⟩) ∧ w5.cell? ⟨w.heap.size + 1 + 1 + 1, 1, none⟩ = some (.slice none 0 0) ∧ (∀ i, w5.frozen? ⟨w.heap.size + 1 + 1 + 1, i, none⟩ = false) ∧
        w5.cell? ⟨w.heap.size + 1, 1, none⟩ = some (.slice a1 m1 p1) ∧ w5.cell? ⟨w.heap.size + 1 + 1, 1, none⟩ = some (.slice a2 m2 p2) ∧ w5.heap[w.heap.size + 1 + 1 + 1]? = some nilR))
    have hws : w.heap.size ≤ w.heap.size + 1 + 1 + 1 := by omega
    have hg3 : w.heap.size + 1 + 1 + 1 < W1.heap.size := hlt1
    clear hlt1
    have n13 : w.heap.size + 1 ≠ w.heap.size + 1 + 1 + 1 := by omega
    have n23 : w.heap.size + 1 + 1 ≠ w.heap.size + 1 + 1 + 1 := by omega
    clear Q q7
    go_wp2_with fail
    generalize w.heap.size + 1 + 1 + 1 = g3 at *
    generalize w.heap.size + 1 + 1 = g2 at *
    generalize w.heap.size + 1 = g1 at *
    go_region_held3 (fun w' => w'.cell? ⟨g1, 1, none⟩ = some (.slice a1 m1 p1) ∧ w'.cell? ⟨g2, 1, none⟩ = some (.slice a2 m2 p2)) (first | go_keep | exact ⟨set2_away _ _ _ _ _ _ (Ne.symm n13) o4, set2_away _ _ _ _ _ _ (Ne.symm n23) o6⟩)
      (first
        | (go_at_call 49; refine (OF.out _).mono ?_; rintro e w3 ⟨rfl, hx3⟩; (first | (have hy3 : Ext W2 w3 := Ext.trans ((Ext.refl W2).drew) hx3; have hw3 := hy3) | (have hz3 : Ext (W2.alloc (.cells #[.string T] 9)) w3 := Ext.trans ((Ext.refl (W2.alloc (.cells #[.string T] 9))).drew) hx3; have hw3 : Ext W2 w3 := ((Ext.refl W2).alloc _).trans hz3) | (have hq3 : Ext ((W2.alloc (.cells #[.string T] 9)).alloc (.cells #[.slice (some ⟨W2.heap.size, 0, none⟩) 1 1, .slice a1 m1 p1, .slice a2 m2 p2] 129)) w3 := Ext.trans ((Ext.refl ((W2.alloc (.cells #[.string T] 9)).alloc (.cells #[.slice (some ⟨W2.heap.size, 0, none⟩) 1 1, .slice a1 m1 p1, .slice a2 m2 p2] 129))).drew) hx3; have hw3 : Ext W2 w3 := (((Ext.refl W2).alloc _).alloc _).trans hq3)); have c4 := hw3.keep1 q4; have c6 := hw3.keep1 q6; have d4 := fun ob => ((Ext.refl w3).alloc ob).keep1 c4; have d6 := fun ob => ((Ext.refl w3).alloc ob).keep1 c6)
        | (go_at_call 112; first | (have hg := hy3; refine (CT.out _ hy3).mono ?_) | (have hg := hz3; refine (CT2.out _ hz3).mono ?_) | (have hg := hq3; refine (CT3.out _ hq3).mono ?_)
           rintro e w5 ⟨ca, cn, cc, rfl, hx5, hit, hbk⟩; have HB5 := hid hbk; clear hbk; have hy5 : Ext W1 w5 := (HX2.out.trans hw3).trans hx5; obtain ⟨s0, s1, sf, o4, o6, o7⟩ := Q5.out _ hy5; clear d4 d6 c4 c6))
    all_goals (try go_wp2_with fail)
    all_goals
      have hfar : ∀ (b o c : Nat), Value.slice ca cn cc = .slice (some ⟨b, o, none⟩) (T :: (tl ++ tr)).length c → b ≠ g3 := fun b o c h => by
        simp only [Value.slice.injEq] at h
        have h1 := HB5.out _ h.1
        have h2 := (HX2.out.trans hw3).size
        simp only at h1
        omega
      exact ret_R (p := 8) (by kernel_rfl) rfl (set2 o7 _ _) ⟨_, rfl, ((HX1.out.trans hy5).setCell hws _).setCell hws _, ca, cn, cc, rfl, (hit.far (fun b o c h => hfar b o c h) _).far (fun b o c h => hfar b o c h) _, fun x h => Nat.le_trans ((HX1.out.trans HX2.out).trans hw3).size (HB5.out x h)⟩
end Go.Proofs.YtjohkmkgmbihkaaGreatDoor
