/- What goes over an answer; Extract; what a book's answer reads as. -/
import Derived.Test.YtjohkmkgmbihkaaDoorOverF
import Derived.Test.YtjohkmkgmbihkaaDoorBookE
import Derived.Deep.RegionHeld3
import Derived.Deep.DeepCutAuto
namespace Go.Proofs.YtjohkmkgmbihkaaDoor
open Go.ChangeShapes Go.WideShapes Go.ChangeAt Go.RowKit
set_option linter.unusedVariables false

theorem set2_away (w : World) (b g j : Nat) (u v : Value) (hne : b ≠ g) {x : Value} (h : w.cell? ⟨g, j, none⟩ = some x) : ((w.setCell ⟨b, 0, none⟩ u).setCell ⟨b, 1, none⟩ v).cell? ⟨g, j, none⟩ = some x := by
  rw [World.cell?_setCell_other _ _ _ _ (by intro q; injection q; omega), World.cell?_setCell_other _ _ _ _ (by intro q; injection q; omega)]; exact h
theorem ConcatF (w : World) (t : ByteArray) (s1 s2 : Value) (A B : List ByteArray) (h1 : ItS w s1 A) (h2 : ItS w s2 B) (hlen : A.length + B.length ≤ 400) :
    Calls Tryd.prog 33 #[.slice (some ⟨w.heap.size + 1, 0, none⟩) 3 3] ((w.alloc (.cells #[.string t] 9)).alloc (.cells #[.slice (some ⟨w.heap.size, 0, none⟩) 1 1, s1, s2] 48))
      fun e w' => ∃ a n c, e = .returned (.slice a n c) ∧ Ext w w' ∧ ItS w' (.slice a n c) (t :: (A ++ B)) ∧ ∀ x, a = some x → w.heap.size ≤ x.block := by
  have e2 : (w.alloc (.cells #[.string t] 9)).heap.size = w.heap.size + 1 := by simp
  have x1 := (Ext.refl w).alloc (.cells #[.string t] 9)
  have x2 := (Ext.refl (w.alloc (.cells #[.string t] 9))).alloc (.cells #[.slice (some ⟨w.heap.size, 0, none⟩) 1 1, s1, s2] 48)
  have hc := cell_new (w.alloc (.cells #[.string t] 9)) #[.slice (some ⟨w.heap.size, 0, none⟩) 1 1, s1, s2] 48
  rw [e2] at hc
  refine (ConcatT (w.heap.size + 1) w.heap.size t s1 s2 A B _ (by simp) (hc 0) (hc 1) (hc 2) (x2.keep1 (cell_new w #[.string t] 9 0)) (h1.ext (x1.trans x2)) (h2.ext (x1.trans x2)) hlen).mono ?_
  rintro e w' ⟨a, n, c, rfl, hx, hi, hq⟩
  exact ⟨a, n, c, rfl, (x1.trans x2).trans hx, hi, fun x h => Nat.le_trans (x1.trans x2).size (hq x h)⟩
theorem ConcatG (w w3 : World) (t : ByteArray) (s1 s2 : Value) (A B : List ByteArray) (hz : Ext (w.alloc (.cells #[.string t] 9)) w3) (h1 : ItS w s1 A) (h2 : ItS w s2 B) (hlen : A.length + B.length ≤ 400) :
    Calls Tryd.prog 33 #[.slice (some ⟨w3.heap.size, 0, none⟩) 3 3] (w3.alloc (.cells #[.slice (some ⟨w.heap.size, 0, none⟩) 1 1, s1, s2] 48))
      fun e w' => ∃ a n c, e = .returned (.slice a n c) ∧ Ext w3 w' ∧ ItS w' (.slice a n c) (t :: (A ++ B)) ∧ ∀ x, a = some x → w3.heap.size ≤ x.block := by
  have x1 := ((Ext.refl w).alloc (.cells #[.string t] 9)).trans hz
  have x2 := (Ext.refl w3).alloc (.cells #[.slice (some ⟨w.heap.size, 0, none⟩) 1 1, s1, s2] 48)
  have hc := cell_new w3 #[.slice (some ⟨w.heap.size, 0, none⟩) 1 1, s1, s2] 48
  refine (ConcatT w3.heap.size w.heap.size t s1 s2 A B _ (by simp) (hc 0) (hc 1) (hc 2) (x2.keep1 (hz.keep1 (cell_new w #[.string t] 9 0))) (h1.ext (x1.trans x2)) (h2.ext (x1.trans x2)) hlen).mono ?_
  rintro e w' ⟨a, n, c, rfl, hx, hi, hq⟩
  exact ⟨a, n, c, rfl, x2.trans hx, hi, fun x h => Nat.le_trans x2.size (hq x h)⟩
theorem ConcatH (w w3 : World) (t : ByteArray) (s1 s2 : Value) (A B : List ByteArray) (hz : Ext ((w.alloc (.cells #[.string t] 9)).alloc (.cells #[.slice (some ⟨w.heap.size, 0, none⟩) 1 1, s1, s2] 48)) w3) (h1 : ItS w s1 A) (h2 : ItS w s2 B) (hlen : A.length + B.length ≤ 400) :
    Calls Tryd.prog 33 #[.slice (some ⟨w.heap.size + 1, 0, none⟩) 3 3] w3
      fun e w' => ∃ a n c, e = .returned (.slice a n c) ∧ Ext w3 w' ∧ ItS w' (.slice a n c) (t :: (A ++ B)) ∧ ∀ x, a = some x → w3.heap.size ≤ x.block := by
  have e2 : (w.alloc (.cells #[.string t] 9)).heap.size = w.heap.size + 1 := by simp
  have x1 := (Ext.refl w).alloc (.cells #[.string t] 9)
  have x2 := (Ext.refl (w.alloc (.cells #[.string t] 9))).alloc (.cells #[.slice (some ⟨w.heap.size, 0, none⟩) 1 1, s1, s2] 48)
  have hc := cell_new (w.alloc (.cells #[.string t] 9)) #[.slice (some ⟨w.heap.size, 0, none⟩) 1 1, s1, s2] 48
  rw [e2] at hc
  exact ConcatT (w.heap.size + 1) w.heap.size t s1 s2 A B _ (Nat.lt_of_lt_of_le (by simp) hz.size) (hz.keep1 (hc 0)) (hz.keep1 (hc 1)) (hz.keep1 (hc 2)) (hz.keep1 (x2.keep1 (cell_new w #[.string t] 9 0))) (h1.ext ((x1.trans x2).trans hz)) (h2.ext ((x1.trans x2).trans hz)) hlen
set_option maxHeartbeats 8000000 in
set_option maxRecDepth 100000 in
theorem toldN_any (a b : ByteArray) (x : It) (l r : AT) (lp rp : Option Addr) (ls rs : ByteArray) (nb : Nat) (vl vr : Value) (w : World)
    (hn : w.heap[nb]? = some (nodeO x lp ls rp rs)) (wl wr0 : World) (hl : RTold wl w l vl) (hr : RTold wr0 w r vr) (hf : fault x.key x.val x.h = 0) (hol : okA l) (hor : okA r) (hc : cnt l + cnt r + 1 ≤ 50) :
    Calls Tryd.prog 30 #[.pointer (some ⟨nb, 0, none⟩), .agg #[.string a, .string b], vl, vr] w fun e w' => ∃ v, e = .returned v ∧ Ext w w' ∧ RTold w w' (.node x l r) v := by
  obtain ⟨a1, m1, p1, rfl, hl, _⟩ := hl
  obtain ⟨a2, m2, p2, rfl, hr, _⟩ := hr
  obtain ⟨hk, hv, hh⟩ := fault_small hf
  have hdl := digT_size hol
  have hdr := digT_size hor
  have hlen : (txtT l).length + (txtT r).length ≤ 400 := by
    have h1 := txtT_len l
    have h2 := txtT_len r
    omega
  have zh := head_size x
  have TX := hid (Text_any x (digT l) (digT r) hk hv hh hdl hdr)
  have tsz : (head x ++ digT l ++ digT r).size ≤ 50 := by
    rw [ByteArray.size_append, ByteArray.size_append]; omega
  have hD : digT (.node x l r) = Sm.sum (head x ++ digT l ++ digT r) := rfl
  have hT : txtT (.node x l r) = (head x ++ digT l ++ digT r) :: (txtT l ++ txtT r) := rfl
  unfold RTold
  rw [hD, hT]
  clear hD hT
  generalize head x ++ digT l ++ digT r = T at *
  generalize digT l = dl at *
  generalize digT r = dr at *
  generalize txtT l = tl at *
  generalize txtT r = tr at *
  have OF := hid (fun w' => of_any T w' (by unfold maxLen; omega))
  obtain ⟨W1, hW1⟩ : ∃ z, z = (((w.alloc (.cells #[.string a, .string b] 75)).alloc (.cells #[.string dl, .slice a1 m1 p1] 50)).alloc (.cells #[.string dr, .slice a2 m2 p2] 50)).alloc nilR := ⟨_, rfl⟩
  have hx1 : Ext w W1 := by rw [hW1]; exact ((((Ext.refl w).alloc _).alloc _).alloc _).alloc _
  have r1 : W1.heap[w.heap.size + 1]? = some (.cells #[.string dl, .slice a1 m1 p1] 50) := by
    rw [hW1]
    have h0 := heap_alloc2_new w (.cells #[.string a, .string b] 75) (.cells #[.string dl, .slice a1 m1 p1] 50)
    exact (((Ext.refl _).alloc _).alloc _).row h0
  have e2 : (w.alloc (.cells #[.string a, .string b] 75)).heap.size = w.heap.size + 1 := by simp
  have r2 : W1.heap[w.heap.size + 2]? = some (.cells #[.string dr, .slice a2 m2 p2] 50) := by
    rw [hW1]
    have h0 := heap_alloc2_new (w.alloc (.cells #[.string a, .string b] 75)) (.cells #[.string dl, .slice a1 m1 p1] 50) (.cells #[.string dr, .slice a2 m2 p2] 50)
    rw [e2] at h0
    exact ((Ext.refl _).alloc _).row h0
  have r3 : W1.heap[w.heap.size + 3]? = some nilR := by
    rw [hW1]
    have h0 := heap_alloc2_new ((w.alloc (.cells #[.string a, .string b] 75)).alloc (.cells #[.string dl, .slice a1 m1 p1] 50)) (.cells #[.string dr, .slice a2 m2 p2] 50) nilR
    have e3 : ((w.alloc (.cells #[.string a, .string b] 75)).alloc (.cells #[.string dl, .slice a1 m1 p1] 50)).heap.size = w.heap.size + 2 := by simp
    rw [e3] at h0
    exact h0
  obtain ⟨n0, n1, n2, _⟩ := n_cells (hx1.row hn)
  have Q := hid (fun (w' : World) (hx : Ext W1 w') => (⟨hx.keep1 n0, hx.keep1 n1, hx.keep1 n2, cell_of_row _ _ 0 _ _ _ (hx.row r1), cell_of_row _ _ 1 _ _ _ (hx.row r1), cell_of_row _ _ 0 _ _ _ (hx.row r2), cell_of_row _ _ 1 _ _ _ (hx.row r2), hx.row r3⟩ :
    w'.cell? ⟨nb, 0, none⟩ = some (.string x.key) ∧ w'.cell? ⟨nb, 1, none⟩ = some (.string x.val) ∧ w'.cell? ⟨nb, 2, none⟩ = some (.int .i64 x.h) ∧ w'.cell? ⟨w.heap.size + 1, 0, none⟩ = some (.string dl) ∧ w'.cell? ⟨w.heap.size + 1, 1, none⟩ = some (.slice a1 m1 p1) ∧ w'.cell? ⟨w.heap.size + 1 + 1, 0, none⟩ = some (.string dr) ∧ w'.cell? ⟨w.heap.size + 1 + 1, 1, none⟩ = some (.slice a2 m2 p2) ∧ w'.heap[w.heap.size + 1 + 1 + 1]? = some nilR))
  have HW1 := hid hW1
  have HX1 := hid hx1
  have HL := hid (hl.ext hx1)
  have HR := hid (hr.ext hx1)
  have hlt1 : w.heap.size + 1 + 1 + 1 < W1.heap.size := row_lt r3
  clear hn hl hr hf hol hor hc hk hv hh hdl hdr zh hx1 r1 r2 r3 n0 n1 n2 e2 hW1
  go_enter Tryd.func30, Tryd.ntmps30
  go_wp2_with fail
  rw [← HW1.out]
  obtain ⟨q0, q1, q2, q3, q4, q5, q6, q7⟩ := Q.out W1 (Ext.refl _)
  go_cut [9] (fun v wx => v = .string T ∧ Ext W1 wx)
  case first =>
    go_region_held3 (fun w' => w'.cell? ⟨nb, 0, none⟩ = some (.string x.key) ∧ w'.cell? ⟨nb, 1, none⟩ = some (.string x.val) ∧ w'.cell? ⟨nb, 2, none⟩ = some (.int .i64 x.h) ∧ w'.cell? ⟨w.heap.size + 1, 0, none⟩ = some (.string dl) ∧ w'.cell? ⟨w.heap.size + 1 + 1, 0, none⟩ = some (.string dr)) (go_keep)
      (first
        | (go_at_call 31; refine (TX.out _).mono ?_; rintro e w3 ⟨rfl, hx3⟩; have hy3 : Ext W1 w3 := Ext.trans ((Ext.refl _).drew) hx3; obtain ⟨m0, m1', m2', m3, m4, m5, m6, m7⟩ := Q.out _ hy3))
    all_goals (try go_wp2_with fail)
    all_goals go_meet
    all_goals exact ⟨rfl, hy3⟩
  case rest =>
    obtain ⟨W2, rfl⟩ : ∃ z, z = wc := ⟨_, rfl⟩
    obtain ⟨rfl, hx2⟩ := hcut
    have HX2 := hid hx2
    clear q0 q1 q2 q3 q4 q5 q6 q7
    obtain ⟨q0, q1, q2, q3, q4, q5, q6, q7⟩ := Q.out W2 hx2
    clear q0 q1 q2 q3 q5
    have CT := hid (fun (w3 : World) (hy : Ext W2 w3) => ConcatF w3 T (.slice a1 m1 p1) (.slice a2 m2 p2) tl tr (HL.out.ext (HX2.out.trans hy)) (HR.out.ext (HX2.out.trans hy)) hlen)
    have CT2 := hid (fun (w3 : World) (hz : Ext (W2.alloc (.cells #[.string T] 9)) w3) => ConcatG W2 w3 T (.slice a1 m1 p1) (.slice a2 m2 p2) tl tr hz (HL.out.ext HX2.out) (HR.out.ext HX2.out) hlen)
    have CT3 := hid (fun (w3 : World) (hz : Ext ((W2.alloc (.cells #[.string T] 9)).alloc (.cells #[.slice (some ⟨W2.heap.size, 0, none⟩) 1 1, .slice a1 m1 p1, .slice a2 m2 p2] 48)) w3) => ConcatH W2 w3 T (.slice a1 m1 p1) (.slice a2 m2 p2) tl tr hz (HL.out.ext HX2.out) (HR.out.ext HX2.out) hlen)
    have Q5 := hid (fun (w5 : World) (hy5 : Ext W1 w5) => (by
      obtain ⟨o0, o1, o2, o3, o4, o5, o6, o7⟩ := Q.out _ hy5
      exact ⟨cell_of_row _ _ 0 _ _ _ o7, cell_of_row _ _ 1 _ _ _ o7, row_frz o7, o4, o6, o7⟩ :
      w5.cell? ⟨w.heap.size + 1 + 1 + 1, 0, none⟩ = some (.string ⟨#[]⟩) ∧ w5.cell? ⟨w.heap.size + 1 + 1 + 1, 1, none⟩ = some (.slice none 0 0) ∧ (∀ i, w5.frozen? ⟨w.heap.size + 1 + 1 + 1, i, none⟩ = false) ∧
        w5.cell? ⟨w.heap.size + 1, 1, none⟩ = some (.slice a1 m1 p1) ∧ w5.cell? ⟨w.heap.size + 1 + 1, 1, none⟩ = some (.slice a2 m2 p2) ∧ w5.heap[w.heap.size + 1 + 1 + 1]? = some nilR))
    have hws : w.heap.size ≤ w.heap.size + 1 + 1 + 1 := by omega
    have hg3 : w.heap.size + 1 + 1 + 1 < W1.heap.size := hlt1
    clear hlt1
    have n13 : w.heap.size + 1 ≠ w.heap.size + 1 + 1 + 1 := by omega
    have n23 : w.heap.size + 1 + 1 ≠ w.heap.size + 1 + 1 + 1 := by omega
    clear Q q7
    go_wp2_with fail
    generalize w.heap.size + 1 + 1 + 1 = g3 at *
    generalize w.heap.size + 1 + 1 = g2 at *
    generalize w.heap.size + 1 = g1 at *
    go_region_held3 (fun w' => w'.cell? ⟨g1, 1, none⟩ = some (.slice a1 m1 p1) ∧ w'.cell? ⟨g2, 1, none⟩ = some (.slice a2 m2 p2)) (first | go_keep | exact ⟨set2_away _ _ _ _ _ _ (Ne.symm n13) o4, set2_away _ _ _ _ _ _ (Ne.symm n23) o6⟩)
      (first
        | (go_at_call 32; refine (OF.out _).mono ?_; rintro e w3 ⟨rfl, hx3⟩; (first | (have hy3 : Ext W2 w3 := Ext.trans ((Ext.refl W2).drew) hx3; have hw3 := hy3) | (have hz3 : Ext (W2.alloc (.cells #[.string T] 9)) w3 := Ext.trans ((Ext.refl (W2.alloc (.cells #[.string T] 9))).drew) hx3; have hw3 : Ext W2 w3 := ((Ext.refl W2).alloc _).trans hz3) | (have hq3 : Ext ((W2.alloc (.cells #[.string T] 9)).alloc (.cells #[.slice (some ⟨W2.heap.size, 0, none⟩) 1 1, .slice a1 m1 p1, .slice a2 m2 p2] 48)) w3 := Ext.trans ((Ext.refl ((W2.alloc (.cells #[.string T] 9)).alloc (.cells #[.slice (some ⟨W2.heap.size, 0, none⟩) 1 1, .slice a1 m1 p1, .slice a2 m2 p2] 48))).drew) hx3; have hw3 : Ext W2 w3 := (((Ext.refl W2).alloc _).alloc _).trans hq3)); have c4 := hw3.keep1 q4; have c6 := hw3.keep1 q6; have d4 := fun ob => ((Ext.refl w3).alloc ob).keep1 c4; have d6 := fun ob => ((Ext.refl w3).alloc ob).keep1 c6)
        | (go_at_call 33; first | (have hg := hy3; refine (CT.out _ hy3).mono ?_) | (have hg := hz3; refine (CT2.out _ hz3).mono ?_) | (have hg := hq3; refine (CT3.out _ hq3).mono ?_)
           rintro e w5 ⟨ca, cn, cc, rfl, hx5, hit, hbk⟩; have HB5 := hid hbk; clear hbk; have hy5 : Ext W1 w5 := (HX2.out.trans hw3).trans hx5; obtain ⟨s0, s1, sf, o4, o6, o7⟩ := Q5.out _ hy5; clear d4 d6 c4 c6))
    all_goals (try go_wp2_with fail)
    all_goals
      have hfar : ∀ (b o c : Nat), Value.slice ca cn cc = .slice (some ⟨b, o, none⟩) (T :: (tl ++ tr)).length c → b ≠ g3 := fun b o c h => by
        simp only [Value.slice.injEq] at h
        have h1 := HB5.out _ h.1
        have h2 := (HX2.out.trans hw3).size
        simp only at h1
        omega
      exact ret_R (p := 8) (by kernel_rfl) rfl (set2 o7 _ _) ⟨_, rfl, ((HX1.out.trans hy5).setCell hws _).setCell hws _, ca, cn, cc, rfl, (hit.far (fun b o c h => hfar b o c h) _).far (fun b o c h => hfar b o c h) _, fun x h => Nat.le_trans ((HX1.out.trans HX2.out).trans hw3).size (HB5.out x h)⟩
end Go.Proofs.YtjohkmkgmbihkaaDoor

namespace Go.Proofs.YtjohkmkgmbihkaaDoor
open Go.ChangeShapes Go.WideShapes Go.ChangeAt Go.RowKit
set_option linter.unusedVariables false
abbrev fT1 : Value := .func (.func 30) #[] #[]
abbrev fT2 : Value := .func (.func 34) #[] #[]
abbrev fT3 : Value := .func (.func 35) #[] #[]
abbrev ovT : Obj := .cells #[fT1, fT2, fT3] 95
/-- What is told, in a block of its own. -/
def ToldAt (w : World) (t : AT) (b : Nat) : Prop := ∃ a n c, w.heap[b]? = some (.cells #[.string (digT t), .slice a n c] 50) ∧ ItS w (.slice a n c) (txtT t)
theorem ToldAt.ext {w w' : World} {t : AT} {b : Nat} (h : ToldAt w t b) (hx : Ext w w') : ToldAt w' t b := by
  obtain ⟨a, n, c, h1, h2⟩ := h
  exact ⟨a, n, c, hx.row h1, h2.ext hx⟩
/-- What is told, stored into a block that is older than it. -/
theorem told_store {w0 w : World} {t : AT} {d : ByteArray} {a : Option Addr} {n c b : Nat} {x y : Value} (h : RTold w0 w t (.agg #[.string d, .slice a n c])) (hb : w.heap[b]? = some (.cells #[x, y] 50)) (hlt : b < w0.heap.size) :
    ((w.setCell ⟨b, 0, none⟩ (.string d)).setCell ⟨b, 1, none⟩ (.slice a n c)).heap[b]? = some (.cells #[.string d, .slice a n c] 50) ∧
      RTold w0 ((w.setCell ⟨b, 0, none⟩ (.string d)).setCell ⟨b, 1, none⟩ (.slice a n c)) t (.agg #[.string d, .slice a n c]) := by
  refine ⟨set2 hb _ _, ?_⟩
  obtain ⟨a', n', c', h1, h2, h3⟩ := h
  have hfar : ∀ (b' o c'' : Nat), Value.slice a' n' c' = .slice (some ⟨b', o, none⟩) (txtT t).length c'' → b' ≠ b := fun b' o c'' e => by
    simp only [Value.slice.injEq] at e
    have := h3 _ e.1
    simp only at this
    omega
  exact ⟨a', n', c', h1, (h2.far (fun b' o c'' e => hfar b' o c'' e) _).far (fun b' o c'' e => hfar b' o c'' e) _, h3⟩
theorem RTold.at {w0 w : World} {t : AT} {d : ByteArray} {a : Option Addr} {n c b : Nat} (h : RTold w0 w t (.agg #[.string d, .slice a n c])) (hb : w.heap[b]? = some (.cells #[.string d, .slice a n c] 50)) : ToldAt w t b := by
  obtain ⟨a', n', c', h1, h2, h3⟩ := h
  simp only [Value.agg.injEq, Array.mk.injEq, List.cons.injEq, Value.string.injEq, Value.slice.injEq] at h1
  obtain ⟨rfl, ⟨rfl, rfl, rfl⟩, _⟩ := h1
  exact ⟨a, n, c, hb, h2⟩
theorem box4 {w w1 : World} {f1 f2 f3 a b c d : Value} {s t u : TypeId} {o : Obj} (hx : Ext ((((w.alloc (.cells #[f1, f2, f3] s)).alloc (.cells #[a, b] t)).alloc (.cells #[c, d] u)).alloc o) w1) :
    w1.cell? ⟨w.heap.size, 0, none⟩ = some f1 ∧ w1.cell? ⟨w.heap.size, 1, none⟩ = some f2 ∧ w1.cell? ⟨w.heap.size, 2, none⟩ = some f3 ∧ w1.cell? ⟨w.heap.size + 1, 0, none⟩ = some a ∧ w1.cell? ⟨w.heap.size + 1, 1, none⟩ = some b ∧
      w1.cell? ⟨w.heap.size + 1 + 1, 0, none⟩ = some c ∧ w1.cell? ⟨w.heap.size + 1 + 1, 1, none⟩ = some d ∧ w1.heap[w.heap.size + 1 + 1 + 1]? = some o ∧ Ext w w1 := by
  obtain ⟨h1, h2, h3, h4, h5, h6, h7, h8⟩ := box3 (((Ext.refl _).alloc o).trans hx)
  have e : (((w.alloc (.cells #[f1, f2, f3] s)).alloc (.cells #[a, b] t)).alloc (.cells #[c, d] u)).heap.size = w.heap.size + 1 + 1 + 1 := by simp
  have hn := heap_alloc_new (((w.alloc (.cells #[f1, f2, f3] s)).alloc (.cells #[a, b] t)).alloc (.cells #[c, d] u)) o
  rw [e] at hn
  exact ⟨h1, h2, h3, h4, h5, h6, h7, hx.row hn, h8⟩
/-- What is said of a tree. -/
def PartT (t : AT) : Prop := ∀ (p : Option Addr) (d a b : ByteArray) (w : World), cnt t ≤ 50 → okA t → AIn w t p d →
  Calls Tryd.prog 54 #[.agg #[fT1, fT2, fT3], .agg #[.pointer p, .string d], .agg #[.string a, .string b]] w fun e w' => ∃ v, e = .returned v ∧ Ext w w' ∧ RTold w w' t v
theorem RTold.shape {w0 w : World} {t : AT} {v : Value} (h : RTold w0 w t v) : ∃ d a n c, v = .agg #[.string d, .slice a n c] := by
  obtain ⟨a, n, c, h1, _⟩ := h
  exact ⟨_, a, n, c, h1⟩

set_option maxHeartbeats 4000000 in
set_option maxRecDepth 100000 in
theorem partT_empty : PartT .empty := by
  rintro p d a b w hcnt hok ⟨rfl, rfl⟩
  obtain ⟨W1, hW1⟩ : ∃ z, z = ((((w.alloc ovT).alloc (.cells #[.pointer none, .string ⟨#[]⟩] 30)).alloc (.cells #[.string a, .string b] 75)).alloc nilR) := ⟨_, rfl⟩
  have HE := hid (toldE_any a b W1)
  obtain ⟨-, -, -, -, -, -, -, hb, hx⟩ := box4 (Ext.refl ((((w.alloc ovT).alloc (.cells #[.pointer none, .string ⟨#[]⟩] 30)).alloc (.cells #[.string a, .string b] 75)).alloc nilR))
  rw [← hW1] at hb hx
  have HW1 := hid hW1
  have HX := hid hx
  clear hW1 hx
  go_enter Tryd.func54, Tryd.ntmps54
  go_wp2_with fail
  rw [← HW1.out]
  refine HE.out.mono ?_
  rintro e w1 ⟨v, rfl, hx1, hv⟩
  obtain ⟨dd, a1, n1, c1, rfl⟩ := hv.shape
  have hb1 := hx1.row hb
  have s0 : w1.cell? ⟨w.heap.size + 1 + 1 + 1, 0, none⟩ = some (.string ⟨#[]⟩) := cell_of_row _ _ 0 _ _ _ hb1
  have s1 : w1.cell? ⟨w.heap.size + 1 + 1 + 1, 1, none⟩ = some (.slice none 0 0) := cell_of_row _ _ 1 _ _ _ hb1
  have sf := row_frz hb1
  have HB := hid (told_store hv hb1 (row_lt hb))
  have HX1 := hid (HX.out.trans hx1)
  have HS := hid HX.out.size
  clear hv hx1 hb1 hb
  go_wp2_with fail
  exact ret_R (p := 6) (by kernel_rfl) rfl HB.out.1 ⟨_, rfl, (HX1.out.setCell (by simp; omega) _).setCell (by simp; omega) _, HB.out.2.base HS.out⟩

set_option maxHeartbeats 4000000 in
set_option maxRecDepth 100000 in
theorem partT_alone (e : ByteArray) : PartT (.alone e) := by
  rintro p d a b w hcnt hok ⟨rfl, rfl, h3⟩
  have hne : d.toList.isEmpty = false := by
    have : beq d ⟨#[]⟩ = false := beq_false.2 (fun h => by rw [h] at h3; cases h3)
    rw [beq_empty] at this; exact this
  obtain ⟨W1, hW1⟩ : ∃ z, z = ((((w.alloc ovT).alloc (.cells #[.pointer none, .string d] 30)).alloc (.cells #[.string a, .string b] 75)).alloc nilR) := ⟨_, rfl⟩
  have HE := hid (toldA_any d a b W1)
  obtain ⟨-, -, -, -, -, -, -, hb, hx⟩ := box4 (Ext.refl ((((w.alloc ovT).alloc (.cells #[.pointer none, .string d] 30)).alloc (.cells #[.string a, .string b] 75)).alloc nilR))
  rw [← hW1] at hb hx
  have HW1 := hid hW1
  have HX := hid hx
  clear hW1 hx
  go_enter Tryd.func54, Tryd.ntmps54
  go_wp2_with fail
  rw [← HW1.out]
  refine HE.out.mono ?_
  rintro e w1 ⟨v, rfl, hx1, hv⟩
  obtain ⟨dd, a1, n1, c1, rfl⟩ := hv.shape
  have hb1 := hx1.row hb
  have s0 : w1.cell? ⟨w.heap.size + 1 + 1 + 1, 0, none⟩ = some (.string ⟨#[]⟩) := cell_of_row _ _ 0 _ _ _ hb1
  have s1 : w1.cell? ⟨w.heap.size + 1 + 1 + 1, 1, none⟩ = some (.slice none 0 0) := cell_of_row _ _ 1 _ _ _ hb1
  have sf := row_frz hb1
  have HB := hid (told_store hv hb1 (row_lt hb))
  have HX1 := hid (HX.out.trans hx1)
  have HS := hid HX.out.size
  clear hv hx1 hb1 hb
  go_wp2_with fail
  exact ret_R (p := 6) (by kernel_rfl) rfl HB.out.1 ⟨_, rfl, (HX1.out.setCell (by simp; omega) _).setCell (by simp; omega) _, HB.out.2.base HS.out⟩

set_option maxHeartbeats 8000000 in
set_option maxRecDepth 100000 in
theorem partT_node (x : It) (l r : AT) (hl : PartT l) (hr : PartT r) : PartT (.node x l r) := by
  rintro p d a b w hcnt hok ⟨rfl, nb, lp, ls, rp, rs, rfl, hrow, ha1, ha2⟩
  have hc : cnt l + cnt r + 1 ≤ 50 := hcnt
  have CL := hid (fun (w' : World) (hx : Ext w w') => hl lp ls a x.key w' (by omega) hok.2.1 (ha1.ext hx))
  have CR := hid (fun (w' : World) (hx : Ext w w') => hr rp rs x.key b w' (by omega) hok.2.2 (ha2.ext hx))
  have CN := hid (fun (vl vr : Value) (wl wr0 w' : World) (hx : Ext w w') (h1 : RTold wl w' l vl) (h2 : RTold wr0 w' r vr) => toldN_any a b x l r lp rp ls rs nb vl vr w' (hx.row hrow) wl wr0 h1 h2 hok.1 hok.2.1 hok.2.2 hc)
  obtain ⟨n0, -, -, n3, n4, n5, n6⟩ := n_cells hrow
  obtain ⟨W1, hW1⟩ : ∃ z, z = ((((w.alloc ovT).alloc (.cells #[.pointer (some ⟨nb, 0, none⟩), .string ⟨#[]⟩] 30)).alloc (.cells #[.string a, .string b] 75)).alloc nilR) := ⟨_, rfl⟩
  have Q := hid (fun (w' : World) (hx : Ext W1 w') => (by
    rw [hW1] at hx
    obtain ⟨z0, z1, z2, z3, z4, z5, z6, z7, hy⟩ := box4 hx
    exact ⟨z0, z1, z2, z3, z5, z6, z7, hy.keep1 n0, hy.keep1 n3, hy.keep1 n4, hy.keep1 n5, hy.keep1 n6, hy⟩ :
    w'.cell? ⟨w.heap.size, 0, none⟩ = some fT1 ∧ w'.cell? ⟨w.heap.size, 1, none⟩ = some fT2 ∧ w'.cell? ⟨w.heap.size, 2, none⟩ = some fT3 ∧ w'.cell? ⟨w.heap.size + 1, 0, none⟩ = some (.pointer (some ⟨nb, 0, none⟩)) ∧
      w'.cell? ⟨w.heap.size + 1 + 1, 0, none⟩ = some (.string a) ∧ w'.cell? ⟨w.heap.size + 1 + 1, 1, none⟩ = some (.string b) ∧ w'.heap[w.heap.size + 1 + 1 + 1]? = some nilR ∧ w'.cell? ⟨nb, 0, none⟩ = some (.string x.key) ∧ w'.cell? ⟨nb, 3, none⟩ = some (.pointer lp) ∧ w'.cell? ⟨nb, 4, none⟩ = some (.string ls) ∧ w'.cell? ⟨nb, 5, none⟩ = some (.pointer rp) ∧ w'.cell? ⟨nb, 6, none⟩ = some (.string rs) ∧ Ext w w'))
  have HW1 := hid hW1
  have hws : w.heap.size ≤ w.heap.size + 1 + 1 + 1 := by omega
  clear hrow ha1 ha2 hl hr n0 n3 n4 n5 n6 hW1 hcnt hok hc
  go_enter Tryd.func54, Tryd.ntmps54
  go_wp2_with fail
  rw [← HW1.out]
  clear HW1
  obtain ⟨s0, hs0⟩ : ∃ z, z = w.heap.size := ⟨_, rfl⟩
  have hw0 : w.heap.size ≤ s0 := by omega
  rw [← hs0] at Q hws ⊢
  clear hs0
  generalize s0 + 1 + 1 + 1 = s3 at *
  generalize s0 + 1 + 1 = s2 at *
  generalize s0 + 1 = s1 at *
  obtain ⟨z0, z1, z2, z3, z5, z6, z7, y0, y3, y4, y5, y6, hy⟩ := Q.out W1 (Ext.refl _)
  go_cut [7] (fun v wx => ∃ lb, v = .pointer (some ⟨lb, 0, none⟩) ∧ ToldAt wx l lb ∧ Ext W1 wx)
  case first =>
    obtain ⟨WB, hWB⟩ : ∃ z, z = W1 := ⟨_, rfl⟩
    subst hWB
    have QB := Q
    go_region_held3 (fun w' => w'.cell? ⟨s0, 0, none⟩ = some fT1 ∧ w'.cell? ⟨s0, 1, none⟩ = some fT2 ∧ w'.cell? ⟨s0, 2, none⟩ = some fT3 ∧ w'.cell? ⟨s1, 0, none⟩ = some (.pointer (some ⟨nb, 0, none⟩)) ∧ w'.cell? ⟨s2, 0, none⟩ = some (.string a) ∧ w'.cell? ⟨s2, 1, none⟩ = some (.string b) ∧ w'.cell? ⟨nb, 0, none⟩ = some (.string x.key) ∧ w'.cell? ⟨nb, 3, none⟩ = some (.pointer lp) ∧ w'.cell? ⟨nb, 4, none⟩ = some (.string ls)) (first | go_keep | exact ⟨(QB.out _ (HE.out _ _)).1, (QB.out _ (HE.out _ _)).2.1, (QB.out _ (HE.out _ _)).2.2.1, (QB.out _ (HE.out _ _)).2.2.2.1, (QB.out _ (HE.out _ _)).2.2.2.2.1, (QB.out _ (HE.out _ _)).2.2.2.2.2.1, (QB.out _ (HE.out _ _)).2.2.2.2.2.2.2.1, (QB.out _ (HE.out _ _)).2.2.2.2.2.2.2.2.1, (QB.out _ (HE.out _ _)).2.2.2.2.2.2.2.2.2.1⟩)
      (first
        | (go_at_call 63; refine (Left_any a b x.key _).mono ?_; rintro e w3 ⟨rfl, hx3⟩; (first | (have hy3 : Ext WB w3 := Ext.trans ((Ext.refl WB).drew) hx3; have hu3 := hy3) | (have hz3 : Ext (WB.alloc nilR) w3 := Ext.trans ((Ext.refl (WB.alloc nilR)).drew) hx3; have hu3 := ((Ext.refl WB).alloc nilR).trans hz3)); obtain ⟨m0, m1, m2, m3, m4, m5, m6, m7, m8, m9, m10, m11, m12⟩ := QB.out _ hu3)
        | (go_at_call 54; first
            | (have hg := hz3; refine (CL.out _ m12).mono ?_; rintro e w4 ⟨v4, rfl, hx4, hv4⟩; obtain ⟨dd, a1, n1, c1, rfl⟩ := hv4.shape; have hy4 := hu3.trans hx4; have hb4 := hx4.row (hz3.row (heap_alloc_new WB nilR)); have HE := hid (fun (u v : Value) => (hy4.setCell (p := ⟨WB.heap.size, 0, none⟩) (Nat.le_refl _) u).setCell (p := ⟨WB.heap.size, 1, none⟩) (Nat.le_refl _) v); have TS := hid (told_store hv4 hb4 (row_lt (hz3.row (heap_alloc_new WB nilR)))))
            | (refine (CL.out w3 m12).mono ?_; rintro e w4 ⟨v4, rfl, hx4, hv4⟩; obtain ⟨dd, a1, n1, c1, rfl⟩ := hv4.shape; have hy4 := hu3.trans hx4; have hlast := hid hv4)
            | (refine (CL.out (w3.alloc nilR) (m12.trans ((Ext.refl w3).alloc nilR))).mono ?_; rintro e w4 ⟨v4, rfl, hx4, hv4⟩; obtain ⟨dd, a1, n1, c1, rfl⟩ := hv4.shape; have hy4 := hu3.trans (((Ext.refl w3).alloc nilR).trans hx4); have hb4 := hx4.row (heap_alloc_new w3 nilR); have HE := hid (fun (u v : Value) => (hy4.setCell (p := ⟨w3.heap.size, 0, none⟩) hu3.size u).setCell (p := ⟨w3.heap.size, 1, none⟩) hu3.size v); have TS := hid (told_store hv4 hb4 (row_lt (heap_alloc_new w3 nilR))))
           (try (have l0 := cell_of_row _ _ 0 _ _ _ hb4)); (try (have l1 := cell_of_row _ _ 1 _ _ _ hb4)); (try (have lf := row_frz hb4)); (try (have HB4 := hid hb4; clear hb4)); clear hv4; obtain ⟨o0, o1, o2, o3, o4, o5, o6, o7, o8, o9, o10, o11, o12⟩ := QB.out _ hy4))
    all_goals (try go_wp2_with fail)
    all_goals go_meet
    all_goals first | exact ⟨_, rfl, TS.out.2.at TS.out.1, HE.out _ _⟩ | exact ⟨_, rfl, (hlast.out.ext ((Ext.refl _).alloc _)).at (heap_alloc_new _ _), hy4.alloc _⟩
  case rest =>
    obtain ⟨WB, rfl⟩ : ∃ z, z = wc := ⟨_, rfl⟩
    obtain ⟨lb, rfl, ht7, hx7⟩ := hcut
    have QB := hid (fun (w' : World) (hx : Ext WB w') => Q.out w' (hx7.trans hx))
    have HT7 := hid ht7
    clear z0 z1 z2 z3 z5 z6 z7 y0 y3 y4 y5 y6 hy ht7 hx7 Q
    obtain ⟨z0, z1, z2, z3, z5, z6, z7, y0, y3, y4, y5, y6, hy⟩ := QB.out WB (Ext.refl _)
    go_wp2_with fail
    go_cut [8] (fun v wx => ∃ rb, v = .pointer (some ⟨rb, 0, none⟩) ∧ ToldAt wx r rb ∧ Ext WB wx)
    case first =>
      go_region_held3 (fun w' => w'.cell? ⟨s0, 0, none⟩ = some fT1 ∧ w'.cell? ⟨s0, 1, none⟩ = some fT2 ∧ w'.cell? ⟨s0, 2, none⟩ = some fT3 ∧ w'.cell? ⟨s1, 0, none⟩ = some (.pointer (some ⟨nb, 0, none⟩)) ∧ w'.cell? ⟨s2, 0, none⟩ = some (.string a) ∧ w'.cell? ⟨s2, 1, none⟩ = some (.string b) ∧ w'.cell? ⟨nb, 0, none⟩ = some (.string x.key) ∧ w'.cell? ⟨nb, 5, none⟩ = some (.pointer rp) ∧ w'.cell? ⟨nb, 6, none⟩ = some (.string rs)) (first | go_keep | exact ⟨(QB.out _ (HE.out _ _)).1, (QB.out _ (HE.out _ _)).2.1, (QB.out _ (HE.out _ _)).2.2.1, (QB.out _ (HE.out _ _)).2.2.2.1, (QB.out _ (HE.out _ _)).2.2.2.2.1, (QB.out _ (HE.out _ _)).2.2.2.2.2.1, (QB.out _ (HE.out _ _)).2.2.2.2.2.2.2.1, (QB.out _ (HE.out _ _)).2.2.2.2.2.2.2.2.2.2.1, (QB.out _ (HE.out _ _)).2.2.2.2.2.2.2.2.2.2.2.1⟩)
        (first
          | (go_at_call 64; refine (Right_any a b x.key _).mono ?_; rintro e w3 ⟨rfl, hx3⟩; (first | (have hy3 : Ext WB w3 := Ext.trans ((Ext.refl WB).drew) hx3; have hu3 := hy3) | (have hz3 : Ext (WB.alloc nilR) w3 := Ext.trans ((Ext.refl (WB.alloc nilR)).drew) hx3; have hu3 := ((Ext.refl WB).alloc nilR).trans hz3)); obtain ⟨m0, m1, m2, m3, m4, m5, m6, m7, m8, m9, m10, m11, m12⟩ := QB.out _ hu3)
          | (go_at_call 54; first
              | (have hg := hz3; refine (CR.out _ m12).mono ?_; rintro e w4 ⟨v4, rfl, hx4, hv4⟩; obtain ⟨dd, a1, n1, c1, rfl⟩ := hv4.shape; have hy4 := hu3.trans hx4; have hb4 := hx4.row (hz3.row (heap_alloc_new WB nilR)); have HE := hid (fun (u v : Value) => (hy4.setCell (p := ⟨WB.heap.size, 0, none⟩) (Nat.le_refl _) u).setCell (p := ⟨WB.heap.size, 1, none⟩) (Nat.le_refl _) v); have TS := hid (told_store hv4 hb4 (row_lt (hz3.row (heap_alloc_new WB nilR)))))
              | (refine (CR.out w3 m12).mono ?_; rintro e w4 ⟨v4, rfl, hx4, hv4⟩; obtain ⟨dd, a1, n1, c1, rfl⟩ := hv4.shape; have hy4 := hu3.trans hx4; have hlast := hid hv4)
              | (refine (CR.out (w3.alloc nilR) (m12.trans ((Ext.refl w3).alloc nilR))).mono ?_; rintro e w4 ⟨v4, rfl, hx4, hv4⟩; obtain ⟨dd, a1, n1, c1, rfl⟩ := hv4.shape; have hy4 := hu3.trans (((Ext.refl w3).alloc nilR).trans hx4); have hb4 := hx4.row (heap_alloc_new w3 nilR); have HE := hid (fun (u v : Value) => (hy4.setCell (p := ⟨w3.heap.size, 0, none⟩) hu3.size u).setCell (p := ⟨w3.heap.size, 1, none⟩) hu3.size v); have TS := hid (told_store hv4 hb4 (row_lt (heap_alloc_new w3 nilR))))
             (try (have l0 := cell_of_row _ _ 0 _ _ _ hb4)); (try (have l1 := cell_of_row _ _ 1 _ _ _ hb4)); (try (have lf := row_frz hb4)); (try (have HB4 := hid hb4; clear hb4)); clear hv4; obtain ⟨o0, o1, o2, o3, o4, o5, o6, o7, o8, o9, o10, o11, o12⟩ := QB.out _ hy4))
      all_goals (try go_wp2_with fail)
      all_goals go_meet
      all_goals first | exact ⟨_, rfl, TS.out.2.at TS.out.1, HE.out _ _⟩ | exact ⟨_, rfl, (hlast.out.ext ((Ext.refl _).alloc _)).at (heap_alloc_new _ _), hy4.alloc _⟩
    case rest =>
      obtain ⟨W3, rfl⟩ : ∃ z, z = wc := ⟨_, rfl⟩
      obtain ⟨rb, rfl, ht8, hx8⟩ := hcut
      clear z0 z1 z2 z3 z5 z6 z7 y0 y3 y4 y5 y6 hy
      obtain ⟨z0, z1, z2, z3, z5, z6, z7, y0, y3, y4, y5, y6, hy⟩ := QB.out W3 hx8
      obtain ⟨la, ln, lc, hlr, hli⟩ := HT7.out.ext hx8
      obtain ⟨ra, rn, rc, hrr, hri⟩ := ht8
      have l0 : W3.cell? ⟨lb, 0, none⟩ = some (.string (digT l)) := cell_of_row _ _ 0 _ _ _ hlr
      have l1 : W3.cell? ⟨lb, 1, none⟩ = some (.slice la ln lc) := cell_of_row _ _ 1 _ _ _ hlr
      have r0 : W3.cell? ⟨rb, 0, none⟩ = some (.string (digT r)) := cell_of_row _ _ 0 _ _ _ hrr
      have r1 : W3.cell? ⟨rb, 1, none⟩ = some (.slice ra rn rc) := cell_of_row _ _ 1 _ _ _ hrr
      have CC := hid (CN.out (.agg #[.string (digT l), .slice la ln lc]) (.agg #[.string (digT r), .slice ra rn rc]) { W3 with heap := #[] } { W3 with heap := #[] } W3 hy ⟨la, ln, lc, rfl, hli, fun x _ => Nat.zero_le _⟩ ⟨ra, rn, rc, rfl, hri, fun x _ => Nat.zero_le _⟩)
      have HY := hid hy
      have HZ7 := hid z7
      clear hlr hli hrr hri hx8 hy QB HT7 CL CR CN y3 y4 y5 y6 z7
      generalize digT l = dl at *
      generalize digT r = dr at *
      go_wp2_with fail
      refine CC.out.mono ?_
      rintro e w5 ⟨v, rfl, hx5, hv⟩
      obtain ⟨dd, a1, n1, c1, rfl⟩ := hv.shape
      have hb5 := hx5.row HZ7.out
      have k0 : w5.cell? ⟨s3, 0, none⟩ = some (.string ⟨#[]⟩) := cell_of_row _ _ 0 _ _ _ hb5
      have k1 : w5.cell? ⟨s3, 1, none⟩ = some (.slice none 0 0) := cell_of_row _ _ 1 _ _ _ hb5
      have kf := row_frz hb5
      have HB := hid (told_store hv hb5 (row_lt HZ7.out))
      have HX5 := hid (HY.out.trans hx5)
      have HS := hid HY.out.size
      clear hv hx5 hb5
      go_wp2_with fail
      exact ret_R (p := 6) (by kernel_rfl) rfl HB.out.1 ⟨_, rfl, (HX5.out.setCell (by simp; omega) _).setCell (by simp; omega) _, HB.out.2.base HS.out⟩
theorem partT_any : ∀ t, PartT t
  | .empty => partT_empty
  | .alone e => partT_alone e
  | .node x l r => partT_node x l r (partT_any l) (partT_any r)
end Go.Proofs.YtjohkmkgmbihkaaDoor

namespace Go.Proofs.YtjohkmkgmbihkaaDoor
open Go.ChangeShapes Go.WideShapes Go.ChangeAt Go.RowKit
set_option linter.unusedVariables false
abbrev e0 : ByteArray := ⟨#[]⟩

set_option maxHeartbeats 2000000 in
set_option maxRecDepth 100000 in
theorem wholeF_any (lo hi : ByteArray) (q : Nat) (t : AT) (p : Option Addr) (d : ByteArray) (w : World) (hq : w.heap[q]? = some (.cells #[.string lo, .string hi] 27)) (ha : AIn w t p d) :
    Calls Tryd.prog 29 #[.agg #[fF1 q, fF2 q, fF3 q], .agg #[.pointer p, .string d]] w fun e w' => ∃ v, e = .returned v ∧ Ext w w' ∧ RErr (okT lo hi t e0 e0) v := by
  have hx := ((Ext.refl w).alloc (.cells #[fF1 q, fF2 q, fF3 q] 86)).alloc (.cells #[.pointer p, .string d] 30)
  have HC := hid (partF_any lo hi q t p d e0 e0 _ (hx.row hq) (ha.ext hx))
  have HX := hid hx
  clear hq ha hx
  go_enter Tryd.func29, Tryd.ntmps29
  go_wp2_with fail
  refine HC.out.mono ?_
  rintro e w1 ⟨v, rfl, hx1, hv⟩
  have HV := hid hv
  have hX1 := HX.out.trans hx1
  rcases hv.shape with ⟨_, rfl⟩ | ⟨_, _, t1, u1, rfl⟩
  all_goals
    clear hv
    go_wp2_with fail
    go_ret
    exact ⟨_, rfl, hX1, HV.out⟩

set_option maxHeartbeats 2000000 in
set_option maxRecDepth 100000 in
theorem TFault_any (lo hi : ByteArray) (t : AT) (p : Option Addr) (d : ByteArray) (w : World) (ha : AIn w t p d) :
    Calls Tryd.prog 14 #[.agg #[.pointer p, .string d], .agg #[.string lo, .string hi]] w fun e w' => ∃ v, e = .returned v ∧ Ext w w' ∧ RErr (okT lo hi t e0 e0) v := by
  have hx := ((Ext.refl w).alloc (.cells #[.pointer p, .string d] 30)).alloc (.cells #[.string lo, .string hi] 27)
  have hq := heap_alloc2_new w (.cells #[.pointer p, .string d] 30) (.cells #[.string lo, .string hi] 27)
  have HC := hid (wholeF_any lo hi (w.heap.size + 1) t p d _ hq (ha.ext hx))
  have HX := hid hx
  clear hq ha hx
  go_enter Tryd.func14, Tryd.ntmps14
  go_wp2_with fail
  refine HC.out.mono ?_
  rintro e w1 ⟨v, rfl, hx1, hv⟩
  have HV := hid hv
  have hX1 := HX.out.trans hx1
  rcases hv.shape with ⟨_, rfl⟩ | ⟨_, _, t1, u1, rfl⟩
  all_goals
    clear hv
    go_wp2_with fail
    go_ret
    exact ⟨_, rfl, hX1, HV.out⟩

set_option maxHeartbeats 2000000 in
set_option maxRecDepth 100000 in
theorem wholeT_any (t : AT) (hc : cnt t ≤ 50) (ho : okA t) (p : Option Addr) (d : ByteArray) (w : World) (ha : AIn w t p d) :
    Calls Tryd.prog 36 #[.agg #[fT1, fT2, fT3], .agg #[.pointer p, .string d]] w fun e w' => ∃ v, e = .returned v ∧ Ext w w' ∧ RTold w w' t v := by
  have hx := (((Ext.refl w).alloc ovT).alloc (.cells #[.pointer p, .string d] 30)).alloc nilR
  have hb := heap_alloc2_new (w.alloc ovT) (.cells #[.pointer p, .string d] 30) nilR
  have es : (w.alloc ovT).heap.size = w.heap.size + 1 := by simp
  rw [es] at hb
  have HC := hid (partT_any t p d e0 e0 _ hc ho (ha.ext hx))
  have HX := hid hx
  clear ha hx es
  go_enter Tryd.func36, Tryd.ntmps36
  go_wp2_with fail
  refine HC.out.mono ?_
  rintro e w1 ⟨v, rfl, hx1, hv⟩
  obtain ⟨dd, a1, n1, c1, rfl⟩ := hv.shape
  have hb1 := hx1.row hb
  have s0 : w1.cell? ⟨w.heap.size + 1 + 1, 0, none⟩ = some (.string ⟨#[]⟩) := cell_of_row _ _ 0 _ _ _ hb1
  have s1 : w1.cell? ⟨w.heap.size + 1 + 1, 1, none⟩ = some (.slice none 0 0) := cell_of_row _ _ 1 _ _ _ hb1
  have sf := row_frz hb1
  have HB := hid (told_store hv hb1 (row_lt hb))
  have HX1 := hid (HX.out.trans hx1)
  have HS := hid HX.out.size
  clear hv hx1 hb1 hb
  go_wp2_with fail
  exact ret_R (p := 4) (by kernel_rfl) rfl HB.out.1 ⟨_, rfl, (HX1.out.setCell (by simp; omega) _).setCell (by simp; omega) _, HB.out.2.base HS.out⟩

set_option maxHeartbeats 2000000 in
set_option maxRecDepth 100000 in
theorem Told_any (t : AT) (hc : cnt t ≤ 50) (ho : okA t) (p : Option Addr) (d : ByteArray) (w : World) (ha : AIn w t p d) :
    Calls Tryd.prog 15 #[.agg #[.pointer p, .string d]] w fun e w' => ∃ v, e = .returned v ∧ Ext w w' ∧ RTold w w' t v := by
  have hx := ((Ext.refl w).alloc (.cells #[.pointer p, .string d] 30)).alloc nilR
  have hb := heap_alloc2_new w (.cells #[.pointer p, .string d] 30) nilR
  have HC := hid (wholeT_any t hc ho p d _ (ha.ext hx))
  have HX := hid hx
  clear ha hx
  go_enter Tryd.func15, Tryd.ntmps15
  go_wp2_with fail
  refine HC.out.mono ?_
  rintro e w1 ⟨v, rfl, hx1, hv⟩
  obtain ⟨dd, a1, n1, c1, rfl⟩ := hv.shape
  have hb1 := hx1.row hb
  have s0 : w1.cell? ⟨w.heap.size + 1, 0, none⟩ = some (.string ⟨#[]⟩) := cell_of_row _ _ 0 _ _ _ hb1
  have s1 : w1.cell? ⟨w.heap.size + 1, 1, none⟩ = some (.slice none 0 0) := cell_of_row _ _ 1 _ _ _ hb1
  have sf := row_frz hb1
  have HB := hid (told_store hv hb1 (row_lt hb))
  have HX1 := hid (HX.out.trans hx1)
  have HS := hid HX.out.size
  clear hv hx1 hb1 hb
  go_wp2_with fail
  exact ret_R (p := 2) (by kernel_rfl) rfl HB.out.1 ⟨_, rfl, (HX1.out.setCell (by simp) _).setCell (by simp) _, HB.out.2.base HS.out⟩

set_option maxHeartbeats 2000000 in
set_option maxRecDepth 100000 in
theorem TDigest_any (t : AT) (hc : cnt t ≤ 50) (ho : okA t) (p : Option Addr) (d : ByteArray) (w : World) (ha : AIn w t p d) :
    Calls Tryd.prog 7 #[.agg #[.pointer p, .string d]] w fun e w' => e = .returned (.string (digT t)) ∧ Ext w w' := by
  have hx := (Ext.refl w).alloc (.cells #[.pointer p, .string d] 30)
  have hfl : ∀ x y w, (Instr.field 50 (.agg #[.string x, y]) 0).run Tryd.prog w = .ok (.string x) w := fun x y w => by first | kernel_rfl | rfl
  have HC := hid (Told_any t hc ho p d _ (ha.ext hx))
  have HX := hid hx
  clear ha hx
  go_enter Tryd.func7, Tryd.ntmps7
  go_wp2_with fail
  refine HC.out.mono ?_
  rintro e w1 ⟨v, rfl, hx1, a1, n1, c1, rfl, _⟩
  go_wp2_with fail
  go_ret
  exact ⟨rfl, HX.out.trans hx1⟩
end Go.Proofs.YtjohkmkgmbihkaaDoor

namespace Go.Proofs.YtjohkmkgmbihkaaDoor
set_option linter.unusedVariables false
/-- What a reader gives. -/
def Gives (g : Rdr) : Prop := ∀ s n t r m, g s n = some (t, r, m) → okA t ∧ cnt t + n = m
theorem ent_ok {s r : ByteArray} {x : It} (h : ent s = some (x, r)) : fault x.key x.val x.h = 0 := by
  unfold ent at h
  split at h
  · cases h
  next k r1 h1 =>
  split at h
  · cases h
  next v r2 h2 =>
  split at h
  · cases h
  next hh r3 h3 =>
  split at h
  next hf =>
    simp only [Option.some.injEq, Prod.mk.injEq] at h
    obtain ⟨rfl, _⟩ := h
    exact hf
  · cases h
theorem rdN_gives {g : Rdr} (hg : Gives g) {s r : ByteArray} {n m : Nat} {t : AT} (h : rdN g s n = some (t, r, m)) : okA t ∧ cnt t + n = m := by
  unfold rdN at h
  split at h
  · cases h
  split at h
  · cases h
  next x s1 h1 =>
  split at h
  · cases h
  next l s2 n2 h2 =>
  split at h
  · cases h
  next q s3 n3 h3 =>
  simp only [Option.some.injEq, Prod.mk.injEq] at h
  obtain ⟨rfl, rfl, rfl⟩ := h
  have a := ent_ok h1
  have b := hg _ _ _ _ _ h2
  have c := hg _ _ _ _ _ h3
  exact ⟨⟨a, b.1, c.1⟩, by simp only [cnt]; omega⟩
theorem rdS_gives {s r : ByteArray} {n m : Nat} {t : AT} (h : rdS s n = some (t, r, m)) : okA t ∧ cnt t + n = m := by
  unfold rdS at h
  split at h
  · cases h
  next d q hq =>
  split at h
  · simp only [Option.some.injEq, Prod.mk.injEq] at h
    obtain ⟨rfl, rfl, rfl⟩ := h
    exact ⟨(tk_size hq).1, by simp [cnt]⟩
  · cases h
theorem rdW_gives {g : Rdr} (hg : Gives g) : Gives (rdW g) := by
  intro s n t r m h
  unfold rdW at h
  split at h
  · cases h
  split at h
  · exact rdN_gives hg h
  split at h
  · simp only [Option.some.injEq, Prod.mk.injEq] at h
    obtain ⟨rfl, rfl, rfl⟩ := h
    exact ⟨trivial, by simp [cnt]⟩
  split at h
  · exact rdS_gives h
  · cases h
theorem rd_gives : ∀ f, Gives (rd f)
  | 0 => rdW_gives (fun s n t r m h => by cases h)
  | f + 1 => rdW_gives (rd_gives f)
theorem rdA_gives {s : ByteArray} {t : AT} (h : rdA s = some t) : okA t ∧ cnt t ≤ 50 := by
  unfold rdA at h
  split at h
  · cases h
  next q r n hq =>
  split at h
  · simp only [Option.some.injEq] at h
    subst h
    have a := rd_gives 50 _ _ _ _ _ hq
    have b := rd_less 50 _ _ _ _ _ hq (by omega)
    exact ⟨a.1, by omega⟩
  · cases h
end Go.Proofs.YtjohkmkgmbihkaaDoor

namespace Go.Proofs.YtjohkmkgmbihkaaDoor
open Go.ChangeShapes Go.WideShapes Go.ChangeAt Go.RowKit
set_option linter.unusedVariables false
/-- What is wrong with bytes as an answer to a question (but for the digest). -/
def lookE (lo hi s : ByteArray) : Int := if askE lo hi ≠ 0 then askE lo hi else match rdA s with
  | none => 7
  | some t => if okT lo hi t e0 e0 then 0 else 8
theorem ret_T4 {fn : Func} {Q : Ending → World → Prop} {tmps : Array Value} {w : World} {b : Nat} {x y ev : Value} {f : Nat × Nat} (h : fn.results = #[.cell 4 30, .tmp 5])
    (hp : tmps.getD 4 undef = .pointer (some ⟨b, 0, none⟩)) (he : tmps.getD 5 undef = ev) (hb : w.heap[b]? = some (.cells #[x, y] 30 f)) (hq : Q (.returned (.tuple #[.agg #[x, y], ev])) w) :
    bodyPost Tryd.prog fn Q .ret ⟨tmps, []⟩ w := by
  refine bodyPost_ret (v := .tuple #[.agg #[x, y], ev]) ?_ rfl hq
  rw [results_cell_tmp h, hp, he]
  simp [asAddr, Result.andThen, load_T w b x y f hb]

set_option maxHeartbeats 4000000 in
set_option maxRecDepth 100000 in
theorem read_any (lo hi s : ByteArray) (hs : s.size ≤ 9223372036854775807) (w : World) (hg : ErrT w) :
    Calls Tryd.prog 6 #[.agg #[.string lo, .string hi], .string s] w fun e w' => Ext w w' ∧
      ((lookE lo hi s ≠ 0 ∧ e = .returned (.tuple #[nilT, .int .i64 (lookE lo hi s)])) ∨
        (lookE lo hi s = 0 ∧ ∃ t p d, rdA s = some t ∧ e = .returned (.tuple #[.agg #[.pointer p, .string d], .int .i64 0]) ∧ AIn w' t p d)) := by
  obtain ⟨W1, hW1⟩ : ∃ z, z = (w.alloc (.cells #[.string lo, .string hi] 27)).alloc oT := ⟨_, rfl⟩
  have hx1 : Ext w W1 := by rw [hW1]; exact ((Ext.refl w).alloc _).alloc _
  have hb1 : W1.heap[w.heap.size + 1]? = some oT := by rw [hW1]; exact heap_alloc2_new w _ _
  have hq1 : W1.heap[w.heap.size]? = some (.cells #[.string lo, .string hi] 27) := by rw [hW1]; exact ((Ext.refl _).alloc _).row (heap_alloc_new w _)
  have Q := hid (fun (w' : World) (hx : Ext W1 w') => (⟨cell_of_row _ _ 0 _ _ _ (hx.row hb1), cell_of_row _ _ 1 _ _ _ (hx.row hb1), row_frz (hx.row hb1), cell_of_row _ _ 0 _ _ _ (hx.row hq1), cell_of_row _ _ 1 _ _ _ (hx.row hq1), hx.row hb1⟩ :
    w'.cell? ⟨w.heap.size + 1, 0, none⟩ = some (.pointer none) ∧ w'.cell? ⟨w.heap.size + 1, 1, none⟩ = some (.string ⟨#[]⟩) ∧ (∀ i, w'.frozen? ⟨w.heap.size + 1, i, none⟩ = false) ∧ w'.cell? ⟨w.heap.size, 0, none⟩ = some (.string lo) ∧ w'.cell? ⟨w.heap.size, 1, none⟩ = some (.string hi) ∧ w'.heap[w.heap.size + 1]? = some oT))
  have HW1 := hid hW1
  have HX1 := hid hx1
  have HG := hid hg
  clear hW1 hx1 hb1 hq1 hg
  by_cases ha : askE lo hi = 0
  · have HA := hid ha
    cases hr : rdA s with
    | none =>
      have hE : lookE lo hi s = 7 := by unfold lookE; rw [if_neg (by simp [ha]), hr]
      rw [hE]
      have HR := hid (Read_any s hs)
      rw [hr] at HR
      clear ha hr hE
      go_enter Tryd.func6, Tryd.ntmps6
      go_wp2_with fail
      rw [← HW1.out]
      refine (Ask_any lo hi _).mono ?_
      rintro e w2 ⟨rfl, hx2⟩
      rw [HA.out]
      go_wp2_with fail
      refine (HR.out _).mono ?_
      rintro e w3 ⟨hx3, ev, hev, rfl⟩
      obtain ⟨t1, u1, rfl⟩ := hev.iface
      have HEv := hid hev
      have hy3 := hx2.trans hx3
      clear hev
      have x4 := (Ext.refl w3).alloc oT
      have HE := hid (errno_U _ HEv.out _ (HG.out.ext ((HX1.out.trans hy3).trans x4)))
      go_wp2_with fail
      refine HE.out.mono ?_
      rintro e w4 ⟨rfl, hx4⟩
      have hy4 := (hy3.trans x4).trans hx4
      obtain ⟨q0, q1, qf, -, -, qb⟩ := Q.out _ hy4
      have HY := hid (HX1.out.trans hy4)
      have HB := hid qb
      clear x4 hx4 hy4 hy3 hx3 hx2 qb
      go_wp2_with fail
      exact ret_T4 (by kernel_rfl) rfl rfl (set2 HB.out _ _) ⟨(HY.out.setCell (by simp) _).setCell (by simp) _, .inl ⟨by decide, rfl⟩⟩
    | some t =>
      have HR := hid (Read_any s hs)
      rw [hr] at HR
      cases ho : okT lo hi t e0 e0 with
      | false =>
        have hE : lookE lo hi s = 8 := by unfold lookE; rw [if_neg (by simp [ha]), hr]; simp [ho]
        rw [hE]
        have HO := hid ho
        clear ha hr hE ho
        go_enter Tryd.func6, Tryd.ntmps6
        go_wp2_with fail
        rw [← HW1.out]
        refine (Ask_any lo hi _).mono ?_
        rintro e w2 ⟨rfl, hx2⟩
        rw [HA.out]
        go_wp2_with fail
        refine (HR.out _).mono ?_
        rintro e w3 ⟨hx3, p, d, rfl, hai⟩
        have hy3 := hx2.trans hx3
        have x4 := (Ext.refl w3).alloc (.cells #[.pointer p, .string d] 30)
        have HF := hid (TFault_any lo hi t p d _ (hai.ext x4))
        have hy4 := hy3.trans x4
        obtain ⟨-, -, -, q3, q4, -⟩ := Q.out _ hy4
        clear hai
        go_wp2_with fail
        refine HF.out.mono ?_
        rintro e w4 ⟨v, rfl, hx4, hv⟩
        rw [HO.out] at hv
        rcases hv.shape with ⟨h, _⟩ | ⟨_, hm, t1, u1, rfl⟩
        · cases h
        have hy5 := hy4.trans hx4
        have HE := hid (errno_M _ hm _ (HG.out.ext (HX1.out.trans hy5)))
        clear hm hv
        go_wp2_with fail
        refine HE.out.mono ?_
        rintro e w5 ⟨rfl, hx5⟩
        have hy6 := hy5.trans hx5
        obtain ⟨q0, q1, qf, -, -, qb⟩ := Q.out _ hy6
        have HY := hid (HX1.out.trans hy6)
        have HB := hid qb
        clear x4 hx4 hy4 hy3 hx3 hx2 qb hy5 hy6 hx5
        go_wp2_with fail
        exact ret_T4 (by kernel_rfl) rfl rfl (set2 HB.out _ _) ⟨(HY.out.setCell (by simp) _).setCell (by simp) _, .inl ⟨by decide, rfl⟩⟩
      | true =>
        have hE : lookE lo hi s = 0 := by unfold lookE; rw [if_neg (by simp [ha]), hr]; simp [ho]
        rw [hE]
        have HO := hid ho
        clear ha hr hE ho
        go_enter Tryd.func6, Tryd.ntmps6
        go_wp2_with fail
        rw [← HW1.out]
        refine (Ask_any lo hi _).mono ?_
        rintro e w2 ⟨rfl, hx2⟩
        rw [HA.out]
        go_wp2_with fail
        refine (HR.out _).mono ?_
        rintro e w3 ⟨hx3, p, d, rfl, hai⟩
        have hy3 := hx2.trans hx3
        have x4 := (Ext.refl w3).alloc (.cells #[.pointer p, .string d] 30)
        have HF := hid (TFault_any lo hi t p d _ (hai.ext x4))
        have hy4 := hy3.trans x4
        obtain ⟨-, -, -, q3, q4, -⟩ := Q.out _ hy4
        have hn3 := heap_alloc_new w3 (.cells #[.pointer p, .string d] 30)
        have HAI := hid (hai.ext x4)
        clear hai
        go_wp2_with fail
        refine HF.out.mono ?_
        rintro e w4 ⟨v, rfl, hx4, hv⟩
        rw [HO.out] at hv
        rcases hv.shape with ⟨_, rfl⟩ | ⟨h, _⟩
        rotate_left
        · cases h
        have hy5 := hy4.trans hx4
        obtain ⟨q0, q1, qf, -, -, qb⟩ := Q.out _ hy5
        have t0 : w4.cell? ⟨w3.heap.size, 0, none⟩ = some (.pointer p) := cell_of_row _ _ 0 _ _ _ (hx4.row hn3)
        have t1 : w4.cell? ⟨w3.heap.size, 1, none⟩ = some (.string d) := cell_of_row _ _ 1 _ _ _ (hx4.row hn3)
        have HY := hid (HX1.out.trans hy5)
        have HB := hid qb
        have HAJ := hid (HAI.out.ext hx4)
        clear x4 hx4 hy4 hy3 hx3 hx2 qb hy5 hv hn3
        go_wp2_with fail
        exact ret_T4 (by kernel_rfl) rfl rfl (set2 HB.out _ _) ⟨(HY.out.setCell (by simp) _).setCell (by simp) _, .inr ⟨by first | trivial | rfl, t, p, d, by first | trivial | rfl, rfl,
          AIn.set (tree_row HB.out 0 (.pointer p) #[.pointer p, .string ⟨#[]⟩] (by rfl)) (AIn.set HB.out HAJ.out 0 _) 1 _⟩⟩
  · have hE : lookE lo hi s = askE lo hi := by unfold lookE; rw [if_pos ha]
    rw [hE]
    clear hE
    have AK := hid (Ask_any lo hi)
    generalize askE lo hi = ak at *
    go_enter Tryd.func6, Tryd.ntmps6
    go_wp2_with fail
    rw [← HW1.out]
    refine (AK.out _).mono ?_
    rintro e w2 ⟨rfl, hx2⟩
    obtain ⟨q0, q1, qf, -, -, qb⟩ := Q.out _ hx2
    have HY := hid (HX1.out.trans hx2)
    have HB := hid qb
    clear hx2 qb
    go_wp2_with fail
    exact ret_T4 (by kernel_rfl) rfl rfl (set2 HB.out _ _) ⟨(HY.out.setCell (by simp) _).setCell (by simp) _, .inl ⟨ha, rfl⟩⟩
end Go.Proofs.YtjohkmkgmbihkaaDoor

namespace Go.Proofs.YtjohkmkgmbihkaaDoor
open Go.ChangeShapes Go.WideShapes Go.ChangeAt Go.RowKit
set_option linter.unusedVariables false
/-- What Check answers. -/
def chkE (dg lo hi s : ByteArray) : Int := if lookE lo hi s ≠ 0 then lookE lo hi s else match rdA s with
  | none => 9
  | some t => if beq (digT t) dg then 0 else 9
def chkL (dg lo hi s : ByteArray) : List Pq := if chkE dg lo hi s ≠ 0 then [] else match rdA s with
  | none => []
  | some t => prsT lo hi t

theorem look_some {lo hi s : ByteArray} (h : lookE lo hi s = 0) : ∃ t, rdA s = some t := by
  unfold lookE at h
  split at h
  next ha => exact absurd h ha
  · cases hr : rdA s with
    | none => rw [hr] at h; simp at h
    | some t => exact ⟨t, rfl⟩
end Go.Proofs.YtjohkmkgmbihkaaDoor

namespace Go.Proofs.YtjohkmkgmbihkaaDoor
open Go.ChangeShapes Go.WideShapes Go.ChangeAt Go.RowKit
set_option linter.unusedVariables false
/-- The first two texts that are not the same. -/
def dif : List ByteArray → List ByteArray → Option (ByteArray × ByteArray)
  | a :: A, b :: B => if beq a b then dif A B else some (a, b)
  | _, _ => none
theorem dif_step {A B : List ByteArray} {k : Nat} (h1 : k < A.length) (h2 : k < B.length) : dif (A.drop k) (B.drop k) = if beq A[k] B[k] then dif (A.drop (k + 1)) (B.drop (k + 1)) else some (A[k], B[k]) := by
  rw [← List.getElem_cons_drop h1, ← List.getElem_cons_drop h2]; rfl
theorem dif_end {A B : List ByteArray} {k : Nat} (h : A.length ≤ k ∨ B.length ≤ k) : dif (A.drop k) (B.drop k) = none := by
  rcases h with h | h
  · rw [List.drop_eq_nil_of_le h]; cases B.drop k <;> rfl
  · rw [List.drop_eq_nil_of_le h]; cases A.drop k <;> rfl
theorem its_at {w : World} {a : Option Addr} {n c : Nat} {A : List ByteArray} (h : ItS w (.slice a n c) A) {k : Nat} (hk : k < A.length) : ∃ b o, a = some ⟨b, o, none⟩ ∧ b < w.heap.size ∧ w.cell? ⟨b, o + k, none⟩ = some (.string A[k]) := by
  rcases h.2 with ⟨_, h2⟩ | ⟨b, o, cap, hv, h3, h4, h5, h6⟩
  · omega
  · simp only [Value.slice.injEq] at hv
    exact ⟨b, o, hv.1, h5, h6 k _ (by simp [sc, hk])⟩
def difT (t1 t2 : AT) : Option (ByteArray × ByteArray) := dif (txtT t1) (txtT t2)
def difV (o : Option (ByteArray × ByteArray)) : Value := match o with
  | none => .tuple #[.string ⟨#[]⟩, .string ⟨#[]⟩, .bool false]
  | some (x, y) => .tuple #[.string x, .string y, .bool true]

set_option maxHeartbeats 4000000 in
set_option maxRecDepth 100000 in
theorem Differ_any (t1 t2 : AT) (hc1 : cnt t1 ≤ 50) (ho1 : okA t1) (hc2 : cnt t2 ≤ 50) (ho2 : okA t2) (p1 p2 : Option Addr) (d1 d2 : ByteArray) (w : World) (ha1 : AIn w t1 p1 d1) (ha2 : AIn w t2 p2 d2) :
    Calls Tryd.prog 8 #[.agg #[.pointer p1, .string d1], .agg #[.pointer p2, .string d2]] w fun e w' => e = .returned (difV (difT t1 t2)) ∧ Ext w w' := by
  have hfl : ∀ x a n c w, (Instr.field 50 (.agg #[.string x, .slice a n c]) 1).run Tryd.prog w = .ok (.slice a n c) w := fun x a n c w => by first | kernel_rfl | rfl
  have C1 := hid (fun (w' : World) (hx : Ext w w') => Told_any t1 hc1 ho1 p1 d1 w' (ha1.ext hx))
  have C2 := hid (fun (w' : World) (hx : Ext w w') => Told_any t2 hc2 ho2 p2 d2 w' (ha2.ext hx))
  have l1 := txtT_len t1
  have l2 := txtT_len t2
  obtain ⟨W1, hW1⟩ : ∃ z, z = (w.alloc (.cells #[.pointer p1, .string d1] 30)).alloc (.cells #[.pointer p2, .string d2] 30) := ⟨_, rfl⟩
  have Q := hid (fun (w' : World) (hx : Ext W1 w') => (by rw [hW1] at hx; exact box2 hx :
    w'.cell? ⟨w.heap.size, 0, none⟩ = some (.pointer p1) ∧ w'.cell? ⟨w.heap.size, 1, none⟩ = some (.string d1) ∧ w'.cell? ⟨w.heap.size + 1, 0, none⟩ = some (.pointer p2) ∧ w'.cell? ⟨w.heap.size + 1, 1, none⟩ = some (.string d2) ∧ Ext w w'))
  have HW1 := hid hW1
  have A0 : (txtT t1).length ≤ 101 := by omega
  have B0 : (txtT t2).length ≤ 101 := by omega
  unfold difT
  clear ha1 ha2 hc1 hc2 ho1 ho2 hW1 l1 l2
  obtain ⟨A, hA⟩ : ∃ z, txtT t1 = z := ⟨_, rfl⟩
  obtain ⟨B, hB⟩ : ∃ z, txtT t2 = z := ⟨_, rfl⟩
  have RA := hid (fun (w0 w' : World) (v : Value) (h : RTold w0 w' t1 v) => (by obtain ⟨a, n, c, h1, h2, _⟩ := h; rw [hA] at h2; exact ⟨digT t1, a, n, c, h1, h2⟩ : ∃ d a n c, v = .agg #[.string d, .slice a n c] ∧ ItS w' (.slice a n c) A))
  have RB := hid (fun (w0 w' : World) (v : Value) (h : RTold w0 w' t2 v) => (by obtain ⟨a, n, c, h1, h2, _⟩ := h; rw [hB] at h2; exact ⟨digT t2, a, n, c, h1, h2⟩ : ∃ d a n c, v = .agg #[.string d, .slice a n c] ∧ ItS w' (.slice a n c) B))
  rw [hA] at A0 ⊢
  rw [hB] at B0 ⊢
  clear hA hB
  go_enter Tryd.func8, Tryd.ntmps8
  go_wp2_with fail
  rw [← HW1.out]
  obtain ⟨z0, z1, z2, z3, hy⟩ := Q.out W1 (Ext.refl _)
  go_cut [7, 8] (fun a b wx => ∃ a1 n1 c1 a2 n2 c2, a = .slice a1 n1 c1 ∧ b = .slice a2 n2 c2 ∧ ItS wx (.slice a1 n1 c1) A ∧ ItS wx (.slice a2 n2 c2) B ∧ Ext w wx)
  case first =>
    go_region_held3 (fun w' => w'.cell? ⟨w.heap.size, 0, none⟩ = some (.pointer p1) ∧ w'.cell? ⟨w.heap.size, 1, none⟩ = some (.string d1) ∧ w'.cell? ⟨w.heap.size + 1, 0, none⟩ = some (.pointer p2) ∧ w'.cell? ⟨w.heap.size + 1, 1, none⟩ = some (.string d2)) (go_keep)
      (first
        | (go_at_call_of 15 (Value.string d1); refine (C1.out _ (by first | exact hy.drew | exact hy)).mono ?_; rintro e w3 ⟨v3, rfl, hx3, hv3⟩; obtain ⟨e1, b1, k1, c1, rfl, hi1⟩ := RA.out _ _ _ hv3; have hy3 : Ext W1 w3 := Ext.trans ((Ext.refl _).drew) hx3; clear hv3; obtain ⟨m0, m1, m2, m3, m4⟩ := Q.out _ hy3)
        | (go_at_call_of 15 (Value.string d2); refine (C2.out _ m4).mono ?_; rintro e w4 ⟨v4, rfl, hx4, hv4⟩; obtain ⟨e2, b2, k2, c2, rfl, hi2⟩ := RB.out _ _ _ hv4; have hy4 := hy3.trans hx4; have hi3 := hi1.ext hx4; clear hv4; obtain ⟨o0, o1, o2, o3, o4⟩ := Q.out _ hy4))
    all_goals (try go_wp2_with fail)
    all_goals go_meet
    all_goals exact ⟨_, _, _, _, _, _, rfl, rfl, hi3, hi2, o4⟩
  case rest =>
    obtain ⟨W2, rfl⟩ : ∃ z, z = wc := ⟨_, rfl⟩
    obtain ⟨a1, n1, c1, a2, n2, c2, rfl, rfl, h1, h2, hx2⟩ := hcut
    obtain ⟨x1, y1, e1, g1, g2⟩ := h1.shape
    obtain ⟨x2, y2, e2, g3, g4⟩ := h2.shape
    simp only [Value.slice.injEq] at e1 e2
    obtain ⟨-, rfl, -⟩ := e1
    obtain ⟨-, rfl, -⟩ := e2
    have H1 := hid h1
    have H2 := hid h2
    have HX2 := hid hx2
    clear h1 h2 hx2 z0 z1 z2 z3 hy g1 g2 g3 g4
    obtain ⟨N, hN, hNA, hNB⟩ : ∃ N : Nat, N = min A.length B.length ∧ N ≤ A.length ∧ N ≤ B.length := ⟨_, rfl, by omega, by omega⟩
    have HN := hid hN
    clear hN
    go_upto_region 2 with (fail)
    go_cut [20, 21] (fun m i wx => m = .int .i64 (N : Int) ∧ i = .int .i64 0 ∧ wx = W2)
    case first =>
      go_wp2_with fail
      all_goals go_meet
      all_goals first | exact ⟨by rw [show N = A.length by have := HN.out; omega], rfl, rfl⟩ | exact ⟨by rw [show N = B.length by have := HN.out; omega], rfl, rfl⟩
    case rest =>
      obtain ⟨rfl, rfl, hw2⟩ := hcut
      replace hw2 := hw2.symm
      subst hw2
      go_wp2_with fail
      go_loopw [9, 21] (fun _ i wr => ∃ k : Nat, k ≤ N ∧ i = .int .i64 k ∧ dif A B = dif (A.drop k) (B.drop k) ∧ Ext W2 wr) (fun _ i _ => N - (intOf i).toNat)
      case atStart => exact ⟨0, Nat.zero_le _, rfl, by simp, Ext.refl _⟩
      case round =>
        obtain ⟨k, hk1, rfl, hd, hx⟩ := hrel
        have HD := hid hd
        have HX := hid hx
        clear hd hx
        by_cases hlt : k < N
        · obtain ⟨hA, hB⟩ : k < A.length ∧ k < B.length := by omega
          have hst := dif_step hA hB
          obtain ⟨b1, o1, rfl, hb1, q1⟩ := its_at H1.out hA
          obtain ⟨b2, o2, rfl, hb2, q2⟩ := its_at H2.out hB
          replace q1 := HX.out.keep1 q1
          replace q2 := HX.out.keep1 q2
          generalize A[k] = xa at *
          generalize B[k] = xb at *
          have i0 : (0 : Int) ≤ (k : Int) := by omega
          have i1 : (k : Int) < (A.length : Int) := by omega
          have i2 : (k : Int) < (B.length : Int) := by omega
          cases hb : beq xa xb with
          | true =>
            rw [hb] at hst
            simp only [if_true] at hst
            have hbb : (xa.toList == xb.toList) = true := hb
            obtain rfl := beq_iff.1 hb
            have HST := hid (HD.out.trans hst)
            clear hst hb
            go_wp2_with fail
            go_quiet (fail)
            go_wp2_with fail
            go_roundw
            case rel => exact ⟨k + 1, by omega, by go_num, HST.out, by first | exact HX.out.drewN _ | exact HX.out.drew | exact HX.out⟩
            case measure => simp [intOf] <;> omega
          | false =>
            rw [hb] at hst
            simp only [Bool.false_eq_true, if_false] at hst
            have hbb : (xa.toList == xb.toList) = false := hb
            have HST := hid (HD.out.trans hst)
            clear hst hb
            go_wp2_with fail
            go_quiet (fail)
            go_wp2_with fail
            go_quiet (fail)
            go_wp2_with fail
            go_ret3
            exact ⟨by rw [HST.out]; rfl, HX2.out.trans (by first | exact (HX.out.drewN _).drewN _ | exact HX.out.drewN _ | exact HX.out.drew.drew | exact HX.out.drew)⟩
        · have HE := hid (HD.out.trans (dif_end (A := A) (B := B) (k := k) (by have := HN.out; omega)))
          go_wp2_with fail
          go_ret3
          exact ⟨by rw [HE.out]; rfl, HX2.out.trans HX.out⟩
end Go.Proofs.YtjohkmkgmbihkaaDoor

namespace Go.Proofs.YtjohkmkgmbihkaaDoor
open Go.ChangeShapes Go.WideShapes Go.ChangeAt Go.RowKit
set_option linter.unusedVariables false
/-- Of two answers without fault: are their digests the same; their first difference. -/
def extD : Bool → Option (ByteArray × ByteArray) → Int × ByteArray × ByteArray
  | false, _ => (9, e0, e0)
  | true, none => (10, e0, e0)
  | true, some (x, y) => (0, x, y)
/-- What Extract answers. -/
def extO (lo hi s1 s2 : ByteArray) : Int × ByteArray × ByteArray :=
  if lookE lo hi s1 ≠ 0 then (lookE lo hi s1, e0, e0) else if lookE lo hi s2 ≠ 0 then (lookE lo hi s2, e0, e0) else match rdA s1, rdA s2 with
  | some t1, some t2 => extD (beq (digT t1) (digT t2)) (difT t1 t2)
  | _, _ => (9, e0, e0)
def extV (o : Int × ByteArray × ByteArray) : Value := .tuple #[.string o.2.1, .string o.2.2, .int .i64 o.1]

set_option maxHeartbeats 8000000 in
set_option maxRecDepth 100000 in
theorem Extract_any (lo hi s1 s2 : ByteArray) (hs1 : s1.size ≤ 9223372036854775807) (hs2 : s2.size ≤ 9223372036854775807) (w : World) (hg : ErrT w) :
    Calls Tryd.prog 4 #[.string lo, .string hi, .string s1, .string s2] w fun e w' => e = .returned (extV (extO lo hi s1 s2)) ∧ Ext w w' := by
  obtain ⟨W1, hW1⟩ : ∃ z, z = w.alloc (.cells #[.string lo, .string hi] 27) := ⟨_, rfl⟩
  have hx1 : Ext w W1 := by rw [hW1]; exact (Ext.refl w).alloc _
  have hq1 : W1.heap[w.heap.size]? = some (.cells #[.string lo, .string hi] 27) := by rw [hW1]; exact heap_alloc_new w _
  have Q := hid (fun (w' : World) (hx : Ext W1 w') => q_cells (hx.row hq1))
  have HR1 := hid (read_any lo hi s1 hs1 W1 (hg.ext hx1))
  have HR2 := hid (fun (w' : World) (hx : Ext W1 w') => read_any lo hi s2 hs2 w' (hg.ext (hx1.trans hx)))
  have HW1 := hid hW1
  have HX1 := hid hx1
  clear hW1 hx1 hq1 hg hs1 hs2
  by_cases h1 : lookE lo hi s1 = 0
  · obtain ⟨t1, hr1⟩ := look_some h1
    obtain ⟨ok1, cn1⟩ := rdA_gives hr1
    have L1 := hid h1
    have R1 := hid hr1
    by_cases h2 : lookE lo hi s2 = 0
    · obtain ⟨t2, hr2⟩ := look_some h2
      obtain ⟨ok2, cn2⟩ := rdA_gives hr2
      have L2 := hid h2
      have R2 := hid hr2
      have hO : extO lo hi s1 s2 = extD (beq (digT t1) (digT t2)) (difT t1 t2) := by
        unfold extO
        rw [if_neg (by simp [h1]), if_neg (by simp [h2]), hr1, hr2]
      rw [hO]
      have D1 := hid (fun (p : Option Addr) (d : ByteArray) (w' : World) (h : AIn w' t1 p d) => TDigest_any t1 cn1 ok1 p d w' h)
      have D2 := hid (fun (p : Option Addr) (d : ByteArray) (w' : World) (h : AIn w' t2 p d) => TDigest_any t2 cn2 ok2 p d w' h)
      have DF := hid (fun (p1 p2 : Option Addr) (d1 d2 : ByteArray) (w' : World) (h1 : AIn w' t1 p1 d1) (h2 : AIn w' t2 p2 d2) => Differ_any t1 t2 cn1 ok1 cn2 ok2 p1 p2 d1 d2 w' h1 h2)
      clear hO h1 h2 hr1 hr2 ok1 ok2 cn1 cn2
      obtain ⟨g1, hg1⟩ : ∃ z, digT t1 = z := ⟨_, rfl⟩
      obtain ⟨g2, hg2⟩ : ∃ z, digT t2 = z := ⟨_, rfl⟩
      obtain ⟨o, hdo⟩ : ∃ z, difT t1 t2 = z := ⟨_, rfl⟩
      rw [hg1, hg2, hdo]
      rw [hg1] at D1
      rw [hg2] at D2
      rw [hdo] at DF
      clear hg1 hg2 hdo
      have hb : ∃ b, beq g1 g2 = b := ⟨_, rfl⟩
      obtain ⟨bq, hbq⟩ := hb
      have hbb : (g1.toList == g2.toList) = bq := hbq
      rw [hbq]
      clear hbq
      go_enter Tryd.func4, Tryd.ntmps4
      go_wp2_with fail
      rw [← HW1.out]
      refine HR1.out.mono ?_
      rintro e w2 ⟨hx2, h⟩
      rcases h with ⟨h, _⟩ | ⟨_, t1', p1, d1, hr', rfl, hai1⟩
      · exact absurd L1.out h
      obtain rfl : t1 = t1' := Option.some.inj (R1.out.symm.trans hr')
      have x3 := (Ext.refl w2).alloc (.cells #[.pointer p1, .string d1] 30)
      have hn3 := heap_alloc_new w2 (.cells #[.pointer p1, .string d1] 30)
      have hy3 := hx2.trans x3
      obtain ⟨q0, q1⟩ := Q.out _ hy3
      have HY3 := hid hy3
      have HN3 := hid hn3
      have A3 := hid (hai1.ext x3)
      clear hr' hai1 x3 hx2 hy3 hn3
      go_wp2_with fail
      refine (HR2.out _ HY3.out).mono ?_
      rintro e w4 ⟨hx4, h⟩
      rcases h with ⟨h, _⟩ | ⟨_, t2', p2, d2, hr', rfl, hai2⟩
      · exact absurd L2.out h
      obtain rfl : t2 = t2' := Option.some.inj (R2.out.symm.trans hr')
      have x5 := (Ext.refl w4).alloc (.cells #[.pointer p2, .string d2] 30)
      have hn5 := heap_alloc_new w4 (.cells #[.pointer p2, .string d2] 30)
      obtain ⟨W5, hW5⟩ : ∃ z, z = w4.alloc (.cells #[.pointer p2, .string d2] 30) := ⟨_, rfl⟩
      rw [← hW5] at x5 hn5
      have hn4 := (hx4.trans x5).row HN3.out
      have Q5 := hid (fun (w' : World) (hx : Ext W5 w') => (⟨cell_of_row _ _ 0 _ _ _ (hx.row hn4), cell_of_row _ _ 1 _ _ _ (hx.row hn4), cell_of_row _ _ 0 _ _ _ (hx.row hn5), cell_of_row _ _ 1 _ _ _ (hx.row hn5)⟩ :
        w'.cell? ⟨w2.heap.size, 0, none⟩ = some (.pointer p1) ∧ w'.cell? ⟨w2.heap.size, 1, none⟩ = some (.string d1) ∧ w'.cell? ⟨w4.heap.size, 0, none⟩ = some (.pointer p2) ∧ w'.cell? ⟨w4.heap.size, 1, none⟩ = some (.string d2)))
      have A5 := hid (A3.out.ext (hx4.trans x5))
      have B5 := hid (hai2.ext x5)
      have HY5 := hid (HX1.out.trans ((HY3.out.trans hx4).trans x5))
      have HW5 := hid hW5
      clear hr' hai2 x5 hx4 hn5 hn4 hW5 q0 q1
      go_wp2_with fail
      rw [← HW5.out]
      obtain ⟨z0, z1, z2, z3⟩ := Q5.out W5 (Ext.refl _)
      have E1 := hid (fun (w' : World) (hx : Ext W5 w') => D1.out p1 d1 w' (A5.out.ext hx))
      have E2 := hid (fun (w' : World) (hx : Ext W5 w') => D2.out p2 d2 w' (B5.out.ext hx))
      go_cut [43] (fun b wx => b = .bool (!bq) ∧ Ext W5 wx)
      case first =>
        go_region_held3 (fun w' => w'.cell? ⟨w2.heap.size, 0, none⟩ = some (.pointer p1) ∧ w'.cell? ⟨w2.heap.size, 1, none⟩ = some (.string d1) ∧ w'.cell? ⟨w4.heap.size, 0, none⟩ = some (.pointer p2) ∧ w'.cell? ⟨w4.heap.size, 1, none⟩ = some (.string d2)) (go_keep)
          (first
            | (go_at_call_of 7 (Value.string d1); refine (E1.out _ ((Ext.refl _).drew)).mono ?_; rintro e w6 ⟨rfl, hx6⟩; have hy6 : Ext W5 w6 := Ext.trans ((Ext.refl _).drew) hx6; obtain ⟨m0, m1, m2, m3⟩ := Q5.out _ hy6)
            | (go_at_call_of 7 (Value.string d2); refine (E2.out _ hy6).mono ?_; rintro e w7 ⟨rfl, hx7⟩; have hy7 := hy6.trans hx7; obtain ⟨m0, m1, m2, m3⟩ := Q5.out _ hy7))
        all_goals (try go_wp2_with fail)
        all_goals go_meet
        all_goals exact ⟨rfl, hy7⟩
      case rest =>
        obtain ⟨W6, rfl⟩ : ∃ z, z = wc := ⟨_, rfl⟩
        obtain ⟨rfl, hx6⟩ := hcut
        clear z0 z1 z2 z3
        obtain ⟨z0, z1, z2, z3⟩ := Q5.out W6 hx6
        have F6 := hid (DF.out p1 p2 d1 d2 W6 (A5.out.ext hx6) (B5.out.ext hx6))
        have HY6 := hid (HY5.out.trans hx6)
        clear hx6
        cases bq with
        | false =>
          go_wp2_with fail
          go_ret3
          exact ⟨rfl, HY6.out⟩
        | true =>
          go_wp2_with fail
          refine F6.out.mono ?_
          rintro e w7 ⟨rfl, hx7⟩
          have HY7 := hid (HY6.out.trans hx7)
          cases o with
          | none =>
            simp only [difV]
            go_wp2_with fail
            go_ret3
            exact ⟨rfl, HY7.out⟩
          | some xy =>
            obtain ⟨xx, yy⟩ := xy
            simp only [difV]
            go_wp2_with fail
            go_ret3
            exact ⟨rfl, HY7.out⟩
    · have hO : extO lo hi s1 s2 = (lookE lo hi s2, e0, e0) := by
        unfold extO
        rw [if_neg (by simp [h1]), if_pos h2]
      rw [hO]
      clear hO h1 hr1 ok1 cn1
      generalize lookE lo hi s2 = le at *
      go_enter Tryd.func4, Tryd.ntmps4
      go_wp2_with fail
      rw [← HW1.out]
      refine HR1.out.mono ?_
      rintro e w2 ⟨hx2, h⟩
      rcases h with ⟨h, _⟩ | ⟨_, t1', p1, d1, hr', rfl, hai1⟩
      · exact absurd L1.out h
      have x3 := (Ext.refl w2).alloc (.cells #[.pointer p1, .string d1] 30)
      have hy3 := hx2.trans x3
      obtain ⟨q0, q1⟩ := Q.out _ hy3
      have HY3 := hid hy3
      clear hr' hai1 x3 hx2 hy3
      go_wp2_with fail
      refine (HR2.out _ HY3.out).mono ?_
      rintro e w4 ⟨hx4, h⟩
      rcases h with ⟨_, rfl⟩ | ⟨h, _⟩
      rotate_left
      · exact absurd h h2
      have HX5 := hid ((HX1.out.trans (HY3.out.trans hx4)).alloc oT)
      clear hx4
      go_wp2_with fail
      go_ret3
      exact ⟨rfl, HX5.out⟩
  · have hO : extO lo hi s1 s2 = (lookE lo hi s1, e0, e0) := by
      unfold extO
      rw [if_pos h1]
    rw [hO]
    clear hO
    generalize lookE lo hi s1 = le at *
    go_enter Tryd.func4, Tryd.ntmps4
    go_wp2_with fail
    rw [← HW1.out]
    refine HR1.out.mono ?_
    rintro e w2 ⟨hx2, h⟩
    rcases h with ⟨_, rfl⟩ | ⟨h, _⟩
    rotate_left
    · exact absurd h h1
    have HX5 := hid ((HX1.out.trans hx2).alloc oT)
    clear hx2
    go_wp2_with fail
    go_ret3
    exact ⟨rfl, HX5.out⟩
end Go.Proofs.YtjohkmkgmbihkaaDoor

namespace Go.Proofs.YtjohkmkgmbihkaaDoor
set_option linter.unusedVariables false
theorem ext_left (a r : ByteArray) : (a ++ r).extract 0 a.size = a := by
  apply ByteArray.ext
  rw [ByteArray.data_extract, ByteArray.data_append]
  show (a.data ++ r.data).extract 0 a.data.size = a.data
  simp
theorem ext_right (a r : ByteArray) : (a ++ r).extract a.size (a ++ r).size = r := by
  apply ByteArray.ext
  rw [ByteArray.data_extract, ByteArray.size_append, ByteArray.data_append]
  show (a.data ++ r.data).extract a.data.size (a.data.size + r.data.size) = r.data
  rw [Array.extract_append]
  rw [Array.extract_empty_of_size_le_start (by exact Nat.le_refl _)]
  simp
theorem tk_app (a r : ByteArray) (n : Nat) (h : a.size = n) : tk (a ++ r) n = some (a, r) := by
  subst h
  unfold tk
  rw [if_neg (by rw [ByteArray.size_append]; omega), ext_left, ext_right]
theorem num_app (n : Nat) (r : ByteArray) (h : n < 256) : num (byte n ++ r) = some (n, r) := by
  unfold num
  rw [if_neg (by rw [ByteArray.size_append, byte_size]; omega)]
  have e1 : (byte n ++ r).extract 1 (byte n ++ r).size = r := ext_right (byte n) r
  have e2 : (byte n ++ r).data.getD 0 0 = UInt8.ofNat n := by
    rw [ByteArray.data_append]
    show (#[UInt8.ofNat n] ++ r.data).getD 0 0 = _
    simp [Array.getD]
  rw [e1, e2]
  congr 2
  simp
  omega
theorem meas_app (k r : ByteArray) (h : k.size < 256) : meas (byte k.size ++ (k ++ r)) = some (k, r) := by
  unfold meas
  rw [num_app _ _ h]
  exact tk_app k r _ rfl
theorem ent_app (x : It) (r : ByteArray) (hf : fault x.key x.val x.h = 0) :
    ent (byte x.key.size ++ (x.key ++ (byte x.val.size ++ (x.val ++ (byte x.h ++ r))))) = some (x, r) := by
  obtain ⟨h1, h2, h3⟩ := fault_small hf
  unfold ent
  rw [meas_app _ _ (by omega)]
  simp only
  rw [meas_app _ _ (by omega)]
  simp only
  rw [num_app _ _ (by omega)]
  simp only
  rw [if_pos hf]
theorem head_app (x : It) (r : ByteArray) : head x ++ r = ⟨#[78]⟩ ++ (byte x.key.size ++ (x.key ++ (byte x.val.size ++ (x.val ++ (byte x.h ++ r))))) := by
  unfold head
  simp only [ByteArray.append_assoc]
/-- The tree that a book's answer tells. -/
def ofF (lo hi : ByteArray) : Nat → List It → ByteArray → ByteArray → AT
  | 0, L, low, high => if mat lo hi low high then .empty else .alone (dig L)
  | n + 1, L, low, high => if mat lo hi low high then match L[top L]? with
      | none => .empty
      | some x => .node x (ofF lo hi n (L.take (top L)) low x.key) (ofF lo hi n (L.drop (top L + 1)) x.key high)
    else .alone (dig L)
theorem ofF_cnt (lo hi : ByteArray) : ∀ (n : Nat) (L : List It) (low high : ByteArray), L.length ≤ n → cnt (ofF lo hi n L low high) ≤ L.length
  | 0, L, low, high, h => by unfold ofF; split <;> simp [cnt]
  | n + 1, L, low, high, h => by
    unfold ofF
    split
    · by_cases h0 : L = []
      · subst h0; simp [cnt]
      · have ht := top_lt h0
        rw [List.getElem?_eq_getElem ht]
        have h1 := ofF_cnt lo hi n (L.take (top L)) low (L[top L]).key (by simp; omega)
        have h2 := ofF_cnt lo hi n (L.drop (top L + 1)) (L[top L]).key high (by simp; omega)
        simp only [List.length_take, List.length_drop] at h1 h2
        simp only [cnt]
        omega
    · simp [cnt]
theorem rdW_E (g : Rdr) (r : ByteArray) (k : Nat) : rdW g (tE ++ r) k = some (.empty, r, k) := by
  unfold rdW
  rw [tk_app tE r 1 rfl]
  have h1 : beq tE ⟨#[78]⟩ = false := by decide +kernel
  have h2 : beq tE ⟨#[69]⟩ = true := by decide +kernel
  simp [h1, h2]
theorem rdW_S (g : Rdr) (d r : ByteArray) (k : Nat) (hd : isDig d = true) (h3 : d.size = 3) : rdW g (tS ++ d ++ r) k = some (.alone d, r, k) := by
  unfold rdW
  rw [ByteArray.append_assoc, tk_app tS _ 1 rfl]
  have h1 : beq tS ⟨#[78]⟩ = false := by decide +kernel
  have h2 : beq tS ⟨#[69]⟩ = false := by decide +kernel
  have h4 : beq tS ⟨#[83]⟩ = true := by decide +kernel
  simp only [h1, h2, h4, if_true, Bool.false_eq_true, if_false]
  unfold rdS
  rw [tk_app d r 3 h3]
  simp [hd]
theorem rdW_N (g : Rdr) (x : It) (r : ByteArray) (k : Nat) (hk : k ≠ 50) (hf : fault x.key x.val x.h = 0) (l q : AT) (s2 s3 : ByteArray) (n2 n3 : Nat) (h1 : g r (k + 1) = some (l, s2, n2)) (h2 : g s2 n2 = some (q, s3, n3)) :
    rdW g (head x ++ r) k = some (.node x l q, s3, n3) := by
  unfold rdW
  rw [head_app, tk_app ⟨#[78]⟩ _ 1 rfl]
  have h0 : beq (⟨#[78]⟩ : ByteArray) ⟨#[78]⟩ = true := by decide +kernel
  simp only [h0, if_true]
  unfold rdN
  rw [if_neg hk, ent_app x r hf]
  simp only [h1, h2]
end Go.Proofs.YtjohkmkgmbihkaaDoor

namespace Go.Proofs.YtjohkmkgmbihkaaDoor
set_option linter.unusedVariables false
theorem hexB_fin : ∀ k : Fin 16, hexB (Sm.hex k.val) = true := by decide +kernel
theorem isDig_sum (s : ByteArray) : isDig (Sm.sum s) = true := by
  obtain ⟨h0, h1⟩ := Sm.num_bd s.data.toList
  unfold Sm.sum
  generalize Sm.num s.data.toList = n at *
  have a := hexB_fin ⟨n.toNat / 256, by omega⟩
  have b := hexB_fin ⟨n.toNat / 16 % 16, by omega⟩
  have c := hexB_fin ⟨n.toNat % 16, by omega⟩
  simp only at a b c
  unfold isDig Sm.three
  simp [a, b, c]
  rfl
theorem isDig_dig (L : List It) : isDig (dig L) = true := by
  by_cases h : L = []
  · subst h; exact isDig_sum _
  · rw [dig_node h]; exact isDig_sum _
theorem rd_ans (lo hi : ByteArray) : ∀ (n : Nat) (L : List It) (low high : ByteArray) (f k : Nat) (rest : ByteArray), L.length ≤ n → (∀ x ∈ L, fault x.key x.val x.h = 0) → cnt (ofF lo hi n L low high) ≤ f → k + cnt (ofF lo hi n L low high) ≤ 50 →
    rd f (ansF lo hi n L low high ++ rest) k = some (ofF lo hi n L low high, rest, k + cnt (ofF lo hi n L low high))
  | 0, L, low, high, f, k, rest, hn, hf, h1, h2 => by
    unfold ansF ofF
    split
    · cases f <;> exact rdW_E _ _ _
    · cases f <;> exact rdW_S _ _ _ _ (isDig_dig L) (dig_size L)
  | n + 1, L, low, high, f, k, rest, hn, hf, h1, h2 => by
    unfold ansF ofF
    unfold ofF at h1 h2
    cases hm : mat lo hi low high with
    | false =>
      simp only [Bool.false_eq_true, if_false]
      cases f <;> exact rdW_S _ _ _ _ (isDig_dig L) (dig_size L)
    | true =>
      rw [hm] at h1 h2
      simp only [if_true] at h1 h2 ⊢
      by_cases h0 : L = []
      · subst h0
        simp only [List.getElem?_nil]
        cases f <;> exact rdW_E _ _ _
      · have ht := top_lt h0
        rw [List.getElem?_eq_getElem ht] at h1 h2 ⊢
        simp only [cnt] at h1 h2 ⊢
        cases f with
        | zero => omega
        | succ f =>
          have i1 := rd_ans lo hi n (L.take (top L)) low (L[top L]).key f (k + 1) (ansF lo hi n (L.drop (top L + 1)) (L[top L]).key high ++ rest) (by simp; omega) (fun x hx => hf x (List.mem_of_mem_take hx)) (by omega) (by omega)
          have i2 := rd_ans lo hi n (L.drop (top L + 1)) (L[top L]).key high f (k + 1 + cnt (ofF lo hi n (L.take (top L)) low (L[top L]).key)) rest (by simp; omega) (fun x hx => hf x (List.mem_of_mem_drop hx)) (by omega) (by omega)
          have := rdW_N (rd f) (L[top L]) _ k (by omega) (hf _ (List.getElem_mem ht)) _ _ _ _ _ _ i1 i2
          rw [ByteArray.append_assoc, ByteArray.append_assoc]
          rw [show rd (f + 1) = rdW (rd f) from rfl, this]
          congr 3
          omega
theorem digT_of (lo hi : ByteArray) : ∀ (n : Nat) (L : List It) (low high : ByteArray), L.length ≤ n → digT (ofF lo hi n L low high) = dig L
  | 0, L, low, high, hn => by
    obtain rfl : L = [] := List.eq_nil_of_length_eq_zero (by omega)
    unfold ofF
    split <;> rfl
  | n + 1, L, low, high, hn => by
    unfold ofF
    split
    · by_cases h0 : L = []
      · subst h0; rfl
      · have ht := top_lt h0
        rw [List.getElem?_eq_getElem ht]
        simp only [digT]
        rw [digT_of lo hi n (L.take (top L)) low _ (by simp; omega), digT_of lo hi n (L.drop (top L + 1)) _ high (by simp; omega), ← dig_node h0]
    · rfl
/-- What a book's answer reads as. -/
def ofL (lo hi : ByteArray) (L : List It) : AT := ofF lo hi L.length L e0 e0
theorem rdA_ans (lo hi : ByteArray) (L : List It) (hf : ∀ x ∈ L, fault x.key x.val x.h = 0) (hn : L.length ≤ 50) : rdA (ans lo hi L e0 e0) = some (ofL lo hi L) := by
  have hc := ofF_cnt lo hi L.length L e0 e0 (Nat.le_refl _)
  have h := rd_ans lo hi L.length L e0 e0 50 0 ⟨#[]⟩ (Nat.le_refl _) hf (by omega) (by omega)
  have e : ansF lo hi L.length L e0 e0 ++ ⟨#[]⟩ = ans lo hi L e0 e0 := by
    apply ByteArray.ext
    rw [ByteArray.data_append]
    simp [ans]
  rw [e] at h
  unfold rdA
  rw [h]
  have hb : beq (⟨#[]⟩ : ByteArray) ⟨#[]⟩ = true := beq_iff.2 rfl
  simp [hb, ofL]
theorem digT_ofL (lo hi : ByteArray) (L : List It) : digT (ofL lo hi L) = dig L := digT_of lo hi _ L _ _ (Nat.le_refl _)
end Go.Proofs.YtjohkmkgmbihkaaDoor

namespace Go.Proofs.YtjohkmkgmbihkaaDoor
set_option linter.unusedVariables false
theorem ask_beq (lo hi k : ByteArray) : askB lo hi k = ((lt lo k || beq lo k) && (lt k hi || beq k hi)) := rfl
theorem not_asked {lo hi low high k : ByteArray} (hm : mat lo hi low high = false) (hh : holdB low high k = true) : askB lo hi k = false := by
  rw [ask_beq]
  unfold holdB at hh
  unfold mat at hm
  rw [Bool.and_eq_true, Bool.or_eq_true, Bool.or_eq_true] at hh
  cases hq : ((lt lo k || beq lo k) && (lt k hi || beq k hi)) with
  | false => rfl
  | true =>
    exfalso
    rw [Bool.and_eq_true, Bool.or_eq_true, Bool.or_eq_true] at hq
    have g1 : (beq low ⟨#[]⟩ || lt low hi) = true := by
      rcases hh.1 with h | h
      · rw [h]; rfl
      · rcases hq.2 with q | q
        · rw [lt_trans h q, Bool.or_true]
        · rw [← beq_iff.1 q, h, Bool.or_true]
    have g2 : (beq high ⟨#[]⟩ || lt lo high) = true := by
      rcases hh.2 with h | h
      · rw [h]; rfl
      · rcases hq.1 with q | q
        · rw [lt_trans q h, Bool.or_true]
        · rw [beq_iff.1 q, h, Bool.or_true]
    rw [g1, g2] at hm
    cases hm
theorem hold_take {L : List It} (hs : Sorted L) {low high : ByteArray} (hh : ∀ x ∈ L, holdB low high x.key = true) {i : Nat} (hi : i < L.length) : ∀ y ∈ L.take i, holdB low L[i].key y.key = true := by
  intro y hy
  obtain ⟨j, hj, rfl⟩ := List.mem_take_iff_getElem.1 hy
  have h1 := hh _ (List.getElem_mem (show j < L.length by omega))
  have h2 := sorted_get hs (show j < i by omega) hi
  unfold holdB at h1 ⊢
  rw [Bool.and_eq_true] at h1 ⊢
  exact ⟨h1.1, by rw [h2, Bool.or_true]⟩
theorem hold_drop {L : List It} (hs : Sorted L) {low high : ByteArray} (hh : ∀ x ∈ L, holdB low high x.key = true) {i : Nat} (hi : i < L.length) : ∀ y ∈ L.drop (i + 1), holdB L[i].key high y.key = true := by
  intro y hy
  obtain ⟨j, hj, rfl⟩ := List.mem_drop_iff_getElem.1 hy
  have h1 := hh _ (List.getElem_mem (show i + 1 + j < L.length by omega))
  have h2 := sorted_get hs (show i < i + 1 + j by omega) (by omega)
  unfold holdB at h1 ⊢
  rw [Bool.and_eq_true] at h1 ⊢
  exact ⟨by rw [h2, Bool.or_true], h1.2⟩
theorem sorted_take {L : List It} (hs : Sorted L) (i : Nat) : Sorted (L.take i) := List.Pairwise.sublist (List.take_sublist i L) hs
theorem sorted_drop {L : List It} (hs : Sorted L) (i : Nat) : Sorted (L.drop i) := List.Pairwise.sublist (List.drop_sublist i L) hs
theorem okT_of (lo hi : ByteArray) : ∀ (n : Nat) (L : List It) (low high : ByteArray), L.length ≤ n → Sorted L → (∀ x ∈ L, holdB low high x.key = true) → okT lo hi (ofF lo hi n L low high) low high = true
  | 0, L, low, high, hn, hs, hh => by
    unfold ofF
    cases hm : mat lo hi low high <;> simp [okT, hm]
  | n + 1, L, low, high, hn, hs, hh => by
    unfold ofF
    cases hm : mat lo hi low high with
    | false => simp [okT, hm]
    | true =>
      simp only [if_true]
      by_cases h0 : L = []
      · subst h0; simp [okT, hm]
      · have ht := top_lt h0
        rw [List.getElem?_eq_getElem ht]
        simp only [okT, hm, hh _ (List.getElem_mem ht), Bool.true_and]
        rw [okT_of lo hi n _ _ _ (by simp; omega) (sorted_take hs _) (hold_take hs hh ht), okT_of lo hi n _ _ _ (by simp; omega) (sorted_drop hs _) (hold_drop hs hh ht)]
        rfl
def askL (lo hi : ByteArray) (L : List It) : List Pq := (L.filter fun x => askB lo hi x.key).map fun x => (x.key, x.val)
theorem askL_none {lo hi low high : ByteArray} (hm : mat lo hi low high = false) {L : List It} (hh : ∀ x ∈ L, holdB low high x.key = true) : askL lo hi L = [] := by
  unfold askL
  rw [List.filter_eq_nil_iff.2 (fun x hx => by rw [not_asked hm (hh x hx)]; simp)]
  rfl
theorem prsT_of (lo hi : ByteArray) : ∀ (n : Nat) (L : List It) (low high : ByteArray), L.length ≤ n → Sorted L → (∀ x ∈ L, holdB low high x.key = true) → prsT lo hi (ofF lo hi n L low high) = askL lo hi L
  | 0, L, low, high, hn, hs, hh => by
    obtain rfl : L = [] := List.eq_nil_of_length_eq_zero (by omega)
    unfold ofF
    split <;> rfl
  | n + 1, L, low, high, hn, hs, hh => by
    unfold ofF
    cases hm : mat lo hi low high with
    | false => rw [if_neg (by simp), askL_none hm hh]; rfl
    | true =>
      simp only [if_true]
      by_cases h0 : L = []
      · subst h0; rfl
      · have ht := top_lt h0
        rw [List.getElem?_eq_getElem ht]
        simp only [prsT]
        rw [prsT_of lo hi n _ _ _ (by simp; omega) (sorted_take hs _) (hold_take hs hh ht), prsT_of lo hi n _ _ _ (by simp; omega) (sorted_drop hs _) (hold_drop hs hh ht)]
        have e : L = L.take (top L) ++ L[top L] :: L.drop (top L + 1) := by
          rw [List.getElem_cons_drop, List.take_append_drop]
        have e2 : askL lo hi L = askL lo hi (L.take (top L) ++ L[top L] :: L.drop (top L + 1)) := congrArg (askL lo hi) e
        rw [e2]
        unfold prsN askL
        rw [List.filter_append, List.filter_cons]
        split
        · simp
        · simp
theorem okT_ofL (lo hi : ByteArray) {L : List It} (hs : Sorted L) : okT lo hi (ofL lo hi L) e0 e0 = true :=
  okT_of lo hi _ L _ _ (Nat.le_refl _) hs (fun x _ => by simp [holdB, beq])
theorem prsT_ofL (lo hi : ByteArray) {L : List It} (hs : Sorted L) : prsT lo hi (ofL lo hi L) = askL lo hi L :=
  prsT_of lo hi _ L _ _ (Nat.le_refl _) hs (fun x _ => by simp [holdB, beq])
end Go.Proofs.YtjohkmkgmbihkaaDoor
