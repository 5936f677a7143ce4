/- What goes over an answer: what it tells of a tree: the digest, and all texts. -/
import Derived.Test.YtjohkmkgmbihkaaDoorOverD
import Derived.Test.YtjohkmkgmbihkaaDoorTreeB
namespace Go.Proofs.YtjohkmkgmbihkaaDoor
open Go.ChangeShapes Go.WideShapes Go.ChangeAt Go.RowKit
set_option linter.unusedVariables false
def digT : AT → ByteArray
  | .empty => Sm.sum tE
  | .alone d => d
  | .node x l r => Sm.sum (head x ++ digT l ++ digT r)
def txtT : AT → List ByteArray
  | .empty => [tE]
  | .alone _ => []
  | .node x l r => (head x ++ digT l ++ digT r) :: (txtT l ++ txtT r)
/-- All that is read may be what it is. -/
def okA : AT → Prop
  | .empty => True
  | .alone d => d.size = 3
  | .node x l r => fault x.key x.val x.h = 0 ∧ okA l ∧ okA r
theorem digT_size : ∀ {t : AT}, okA t → (digT t).size = 3
  | .empty, _ => rfl
  | .alone _, h => h
  | .node _ _ _, _ => rfl
theorem txtT_len : ∀ t, (txtT t).length ≤ 2 * cnt t + 1
  | .empty => by simp [txtT, cnt]
  | .alone _ => by simp [txtT, cnt]
  | .node x l r => by
    have h1 := txtT_len l
    have h2 := txtT_len r
    simp only [txtT, cnt, List.length_cons, List.length_append]
    omega
theorem fault_small {k v : ByteArray} {h : Nat} (hf : fault k v h = 0) : k.size ≤ 8 ∧ v.size ≤ 20 ∧ h ≤ 15 := by
  unfold fault at hf
  split at hf
  · split at hf
    · split at hf
      next h1 h2 h3 =>
        simp only [keyB, valB, hgtB, decide_eq_true_eq] at h1 h2 h3
        omega
      · cases hf
    · cases hf
  · cases hf
/-- The end: what is handed back lies in a block of its own. -/
theorem ret_R {fn : Func} {Q : Ending → World → Prop} {tmps : Array Value} {w : World} {b : Nat} {x y : Value} {f : Nat × Nat} {p : Tmp} (h : fn.results = #[.cell p 50])
    (hp : tmps.getD p undef = .pointer (some ⟨b, 0, none⟩)) (hb : w.heap[b]? = some (.cells #[x, y] 50 f)) (hq : Q (.returned (.agg #[x, y])) w) :
    bodyPost Tryd.prog fn Q .ret ⟨tmps, []⟩ w :=
  bodyPost_ret (v := .agg #[x, y]) (results_cell_row h tmps w b _ _ f _ hp hb Tryd.underlying50 rfl (by kernel_rfl)) rfl hq
abbrev nilR : Obj := .cells #[.string ⟨#[]⟩, .slice none 0 0] 50
/-- What is told, in memory. -/
def RTold (w0 w : World) (t : AT) (v : Value) : Prop := ∃ a n c, v = .agg #[.string (digT t), .slice a n c] ∧ ItS w (.slice a n c) (txtT t) ∧ ∀ x, a = some x → w0.heap.size ≤ x.block
theorem RTold.ext {w0 w w' : World} {t : AT} {v : Value} (h : RTold w0 w t v) (hx : Ext w w') : RTold w0 w' t v := by
  obtain ⟨a, n, c, h1, h2, h3⟩ := h
  exact ⟨a, n, c, h1, h2.ext hx, h3⟩
theorem RTold.base {w0 w1 w : World} {t : AT} {v : Value} (h : RTold w1 w t v) (hx : w0.heap.size ≤ w1.heap.size) : RTold w0 w t v := by
  obtain ⟨a, n, c, h1, h2, h3⟩ := h
  exact ⟨a, n, c, h1, h2, fun x e => Nat.le_trans hx (h3 x e)⟩

theorem ItS.far {w : World} {v : Value} {A : List ByteArray} (h : ItS w v A) {a : Addr} (hb : ∀ b o c, v = .slice (some ⟨b, o, none⟩) A.length c → b ≠ a.block) (u : Value) : ItS (w.setCell a u) v A := by
  refine ⟨h.1, ?_⟩
  rcases h.2 with h2 | ⟨b, o, cap, hv, h3, h4, h5, h6⟩
  · exact .inl h2
  · refine .inr ⟨b, o, cap, hv, h3, h4, by simpa [World.setCell] using h5, fun j x hx => ?_⟩
    rw [World.cell?_setCell_other _ _ _ _ (by intro q; exact hb b o cap hv (by rw [q]))]
    exact h6 j x hx
set_option maxHeartbeats 1000000 in
set_option maxRecDepth 100000 in
theorem toldA_any (d a b : ByteArray) (w : World) : Calls Tryd.prog 35 #[.string d, .agg #[.string a, .string b]] w fun e w' => ∃ v, e = .returned v ∧ Ext w w' ∧ RTold w w' (.alone d) v := by
  go_enter Tryd.func35, Tryd.ntmps35
  go_wp2_with fail
  have hb := heap_alloc2_new w (.cells #[.string a, .string b] 75) (.cells #[.string d, .slice none 0 0] 50)
  exact ret_R (p := 4) (by kernel_rfl) rfl hb ⟨_, rfl, ((Ext.refl w).alloc _).alloc _, _, _, _, rfl, Seg.nil _ _, fun x h => by cases h⟩

set_option maxHeartbeats 1000000 in
set_option maxRecDepth 100000 in
theorem toldE_any (a b : ByteArray) (w : World) : Calls Tryd.prog 34 #[.agg #[.string a, .string b]] w fun e w' => ∃ v, e = .returned v ∧ Ext w w' ∧ RTold w w' .empty v := by
  have hx0 := ((Ext.refl w).alloc (.cells #[.string a, .string b] 75)).alloc nilR
  have hb0 := heap_alloc2_new w (.cells #[.string a, .string b] 75) nilR
  go_enter Tryd.func34, Tryd.ntmps34
  go_wp2_with fail
  refine (of_any _ _ (by decide)).mono ?_
  rintro e w1 ⟨rfl, hx1⟩
  have hb1 := hx1.row hb0
  have c0 : w1.cell? ⟨w.heap.size + 1, 0, none⟩ = some (.string ⟨#[]⟩) := cell_of_row _ _ 0 _ _ _ hb1
  have c1 : w1.cell? ⟨w.heap.size + 1, 1, none⟩ = some (.slice none 0 0) := cell_of_row _ _ 1 _ _ _ hb1
  have y0 := fun ob => ((Ext.refl w1).alloc ob).keep1 c0
  have y1 := fun ob => ((Ext.refl w1).alloc ob).keep1 c1
  have z0 : ∀ ob i, (w1.alloc ob).frozen? ⟨w.heap.size + 1, i, none⟩ = false := fun ob i => row_frz (((Ext.refl w1).alloc ob).row hb1) i
  have HB := hid hb1
  have HX := hid (hx0.trans hx1)
  clear hb1 hx1 hb0 hx0
  go_wp2_with fail
  have hlt : w.heap.size + 1 < w1.heap.size := row_lt HB.out
  exact ret_R (p := 2) (by kernel_rfl) rfl (set2 (((Ext.refl w1).alloc _).row HB.out) _ _) ⟨_, rfl, ((HX.out.alloc _).setCell (by simp) _).setCell (by simp) _, _, _, _, rfl,
    ((itS_one w1 _ 9).far (fun b o c h => by cases h; simp; omega) _).far (fun b o c h => by cases h; simp; omega) _, fun x h => by cases h; simp; omega⟩

/-- Three parts joined: one text, and two lists. -/
theorem ConcatT (g g1 : Nat) (t : ByteArray) (s1 s2 : Value) (A B : List ByteArray) (w : World) (hg : g < w.heap.size) (c0 : w.cell? ⟨g, 0, none⟩ = some (.slice (some ⟨g1, 0, none⟩) 1 1)) (c1 : w.cell? ⟨g, 1, none⟩ = some s1) (c2 : w.cell? ⟨g, 2, none⟩ = some s2)
    (ht : w.cell? ⟨g1, 0, none⟩ = some (.string t)) (h1 : ItS w s1 A) (h2 : ItS w s2 B) (hlen : A.length + B.length ≤ 400) :
    Calls Tryd.prog 33 #[.slice (some ⟨g, 0, none⟩) 3 3] w fun e w' => ∃ a n c, e = .returned (.slice a n c) ∧ Ext w w' ∧ ItS w' (.slice a n c) (t :: (A ++ B)) ∧ ∀ x, a = some x → w.heap.size ≤ x.block := by
  have e : flatS [(.slice (some ⟨g1, 0, none⟩) 1 1, [t]), (s1, A), (s2, B)] = t :: (A ++ B) := by simp [flatS]
  refine (Concat_anyS [(.slice (some ⟨g1, 0, none⟩) 1 1, [t]), (s1, A), (s2, B)] g 3 w (by simp) (by rw [e]; simp; omega) hg ?_ ?_).mono ?_
  · intro i hi
    match i, hi with
    | 0, _ => exact c0
    | 1, _ => exact c1
    | 2, _ => exact c2
  · intro i hi
    match i, hi with
    | 0, _ =>
      refine ⟨by simp [sc_length], .inr ⟨g1, 0, 1, rfl, by simp, by simp [maxLen], World.block_lt_of_cell? w _ ht, ?_⟩⟩
      intro j u hu
      match j, hu with
      | 0, hu => simp [sc] at hu; subst hu; simpa using ht
      | j + 1, hu => simp [sc] at hu
    | 1, _ => exact h1
    | 2, _ => exact h2
  · rintro e' w' ⟨v, rfl, hx, hown⟩
    rw [e] at hown
    obtain ⟨a, c, ev, _⟩ := (ItS.own hown).shape
    subst ev
    refine ⟨a, _, c, rfl, hx, ItS.own hown, fun x hxa => ?_⟩
    rcases hown.2 with ⟨_, hq⟩ | ⟨g', cap, cur, hq, hb, _⟩
    · simp at hq
    · simp only [Value.slice.injEq] at hq
      obtain ⟨rfl, _, _⟩ := hq
      cases hxa
      exact hb
end Go.Proofs.YtjohkmkgmbihkaaDoor
