/- The law's whole state; open. -/
import Derived.Test.YtjohkmkgmbihkaaGreatDoorLawG
namespace Go.Proofs.YtjohkmkgmbihkaaGreatDoor
set_option linter.unusedVariables false
open Go.ChangeShapes Go.WideShapes Go.ChangeAt Go.RowKit
attribute [local go_sem ↓] Go.wp_at_zero Go.wp_at_succ

theorem Fr.owns_type {S : Nat → Prop} {w w' : World} (h : Fr S w w') {base : Nat} {e : TypeId} {size : Nat} {v : Value} {n : Nat} {xs : List Value} (ho : w.ownsRow base e size v n xs) (hs : ∀ k c f, w.heap[k]? = some (.cells c e f) → ¬ S k) : w'.ownsRow base e size v n xs :=
  h.owns ho (fun g hg => by obtain ⟨c, f, q⟩ := own_type ho hg; exact hs _ _ _ q)
/-- S holds no block of the law's own. -/
def Free (S : Nat → Prop) (w : World) : Prop := ∀ k c t f, w.heap[k]? = some (.cells c t f) → S k → t ≠ 60 ∧ t ≠ 27 ∧ t ≠ 53
theorem Lw.fr {S : Nat → Prop} {w w' : World} (f : Fr S w w') (hs : Free S w) {bs : Nat} {W : Nat} {c0 c1 c2 c3 c4 lsv ls3v : Value} {X : List ML} (h : Lw bs w W c0 c1 c2 c3 c4 lsv ls3v X) : Lw bs w' W c0 c1 c2 c3 c4 lsv ls3v X := by
  have m : ∀ (u : Value) (c : Nat) (q : ByteArray), Mk w u c q → Mk w' u c q := fun u c q hm => f.owns_type hm (fun k c f' hk s => (hs k c _ f' hk s).2.2 rfl)
  exact ⟨f.row h.row (fun s => (hs _ _ _ _ h.row s).1 rfl), Nat.le_trans h.hbs f.size, h.wb, f.owns_type h.own (fun k c f' hk s => (hs k c _ f' hk s).2.1 rfl), f.owns_type h.own3 (fun k c f' hk s => (hs k c _ f' hk s).2.1 rfl), h.off,
    fun i x hx => ⟨m _ _ _ (h.marked i x hx).1, m _ _ _ (h.marked i x hx).2.1, m _ _ _ (h.marked i x hx).2.2.1, m _ _ _ (h.marked i x hx).2.2.2⟩⟩
theorem Wd.fr {S : Nat → Prop} {w w' : World} (f : Fr S w w') (hs : Free S w) {bs : Nat} {W came : Nat} {psv kv wv : Value} {A : List Pr} {lsv ls3v : Value} {X : List ML} (h : Wd bs w W came psv kv wv A lsv ls3v X) : Wd bs w' W came psv kv wv A lsv ls3v X :=
  ⟨h.lw.fr f hs, f.owns_type h.kept (fun k c f' hk s => (hs k c _ f' hk s).2.2 rfl), f.owns_type h.were (fun k c f' hk s => (hs k c _ f' hk s).2.2 rfl), h.kw, h.km, h.small⟩
theorem Wd.ext {w w' : World} (hx : Ext w w') {bs : Nat} {W came : Nat} {psv kv wv : Value} {A : List Pr} {lsv ls3v : Value} {X : List ML} (h : Wd bs w W came psv kv wv A lsv ls3v X) : Wd bs w' W came psv kv wv A lsv ls3v X :=
  Wd.fr (S := fun _ => False) (Fr.of_ext hx) (fun _ _ _ _ _ s => s.elim) h
theorem PB.ok.ext {w w' : World} {p : PB} (h : p.ok w) (hx : Ext w w') : p.ok w' := ⟨h.1.ext hx, h.2.ext hx⟩

/-- The whole. -/
structure Law (bs : Nat) (w : World) (W : Nat) (came : Nat) (psv kv wv : Value) (A : List Pr) (lsv ls3v : Value) (X : List ML) (P : List PB) : Prop where
  wd : Wd bs w W came psv kv wv A lsv ls3v X
  ps : w.ownsRow bs 101 2 psv P.length (P.flatMap PB.cells)
  bk : ∀ (i : Nat) (p : PB), P[i]? = some p → p.ok w
  dist : ∀ (i j : Nat) (p q : PB), P[i]? = some p → P[j]? = some q → i ≠ j → p.off q
  pb : ∀ (i : Nat) (p : PB), P[i]? = some p → bs ≤ p.b ∧ bs ≤ p.r ∧ ∀ g, p.rv.ownBlock = some g → bs ≤ g
theorem Law.ext {w w' : World} (hx : Ext w w') {bs : Nat} {W came : Nat} {psv kv wv : Value} {A : List Pr} {lsv ls3v : Value} {X : List ML} {P : List PB} (h : Law bs w W came psv kv wv A lsv ls3v X P) : Law bs w' W came psv kv wv A lsv ls3v X P :=
  ⟨h.wd.ext hx, owns_ext h.ps hx, fun i p hp => (h.bk i p hp).ext hx, h.dist, h.pb⟩

theorem infoLpair : ∃ i, Tryz.prog.info? 101 = some i ∧ i.zero = some (.agg #[.pointer none, .pointer none]) ∧ i.size = 2 ∧ i.bytes = 16 := info_of (by kernel_rfl)
theorem app_lpair {bs : Nat} (w : World) (hbs : bs ≤ w.heap.size) (v : Value) (n : Nat) (ls : List Value) (x y : Addr) (hown : w.ownsRow bs 101 2 v n ls) (hn : n ≤ 1000000000) :
    ∃ v' w', (Builtin.append_ #[57, 57] 57 #[v, .slice (some ⟨w.heap.size, 0, none⟩) 1 1]).run Tryz.prog (w.alloc (.cells #[.pointer (some x), .pointer (some y)] 101)) = .ok v' w' ∧
      w'.ownsRow bs 101 2 v' (n + 1) (ls ++ [.pointer (some x), .pointer (some y)]) ∧ w.grownBy w' v.ownBlock := by
  obtain ⟨i, hi, hz, hs, hb⟩ := infoLpair
  obtain ⟨v', w', hr, ho, hg, _, hat⟩ := run_append_own_at (P := Tryz.prog) (w.alloc (.cells #[.pointer (some x), .pointer (some y)] 101)) bs 57 57 101 i _ 2 16 Tryz.underlying57 hi hz hs hb rfl (by decide) v n ls (hown.alloc _) ⟨w.heap.size, 0, none⟩ 1 1 [.pointer (some x), .pointer (some y)] rfl
    (by intro j u hj; rw [addr_add, Nat.zero_add, cell_new]; simpa using hj) (by intro u hu; simp at hu; rcases hu with rfl | rfl <;> rfl) (by unfold maxLen; omega) (by omega) (by simp; omega)
  refine ⟨v', w', hr, ho, ⟨hg.os, hg.tape, hg.output, Nat.le_trans (by simp) hg.size, fun q hq hne => ?_⟩⟩
  rw [hg.block q (by simp; omega) hne, Below.heap_alloc _ _ _ hq]

theorem alloc_row' (w : World) (o : Obj) : (w.alloc o).heap[w.heap.size]? = some o := heap_alloc_new w o
theorem alloc_size' (w : World) (o : Obj) : (w.alloc o).heap.size = w.heap.size + 1 := by simp
set_option maxHeartbeats 4000000 in
set_option maxRecDepth 100000 in
theorem open_any (bs : Nat) (W : Nat) (came : Nat) (psv kv wv : Value) (A : List Pr) (lsv ls3v : Value) (X : List ML) (P : List PB) (w : World) (h : Law bs w W came psv kv wv A lsv ls3v X P) (hP : P.length ≤ 100000000) :
    Calls Tryz.prog 25 #[.pointer (some ⟨W, 0, none⟩)] w fun e w' => e = .returned (.bool true) ∧ (∃ psv' p, Law bs w' W came psv' kv wv A lsv ls3v X (P ++ [p])) ∧ Fr (fun k => bs ≤ k) w w' := by
  have HL := hid h
  clear h
  go_enter Tryz.func25, Tryz.ntmps25
  go_wp2_with fail
  refine (New_any w).mono ?_
  rintro e w1 ⟨rfl, hx1, hb1⟩
  have hxr := hx1.alloc (.cells #[.slice none 0 0] 99)
  have L2 := HL.out.ext hxr
  have rf : Rf (w1.alloc (.cells #[.slice none 0 0] 99)) w1.heap.size (.slice none 0 0) [] := ⟨alloc_row' _ _, World.ownsRow_nil _ _ _ _, Good.nil⟩
  have hb2 := hb1.ext ((Ext.refl w1).alloc (.cells #[.slice none 0 0] 99))
  obtain ⟨pv, w3, hr3, ho3, hg3⟩ := app_lpair (w1.alloc (.cells #[.slice none 0 0] 99)) L2.wd.lw.hbs psv P.length _ ⟨w.heap.size, 0, none⟩ ⟨w1.heap.size, 0, none⟩ L2.ps (by omega)
  rw [show (w1.alloc (.cells #[.slice none 0 0] 99)).heap.size = w1.heap.size + 1 from alloc_size' _ _] at hr3
  obtain ⟨pa, pc', rfl⟩ := own_slice ho3
  obtain ⟨qa, qc, rfl⟩ := own_slice L2.ps
  have fr3 : Fr (fun k => some k = (Value.slice qa P.length qc).ownBlock) (w1.alloc (.cells #[.slice none 0 0] 99)) w3 := Fr.of_grown hg3 (fun k hk => hk.symm)
  have ty : ∀ k c t f, (w1.alloc (.cells #[.slice none 0 0] 99)).heap[k]? = some (.cells c t f) → some k = (Value.slice qa P.length qc).ownBlock → t = 101 := by
    intro k c t f hk e
    obtain ⟨c', f', q⟩ := own_type L2.ps e.symm
    rw [q] at hk; simp only [Option.some.injEq, Obj.cells.injEq] at hk; exact hk.2.1.symm
  have wd3 := L2.wd.fr fr3 (fun k c t f hk e => by rw [ty k c t f hk e]; decide)
  have bk3 : ∀ (q : PB), q.ok (w1.alloc (.cells #[.slice none 0 0] 99)) → q.ok w3 := fun q hq =>
    ⟨⟨fr3.row hq.1.1 (fun e => absurd (ty _ _ _ _ hq.1.1 e) (by decide)), fr3.owns_type hq.1.2.1 (fun k c f hk e => absurd (ty _ _ _ _ hk e) (by decide)), hq.1.2.2⟩,
      ⟨fr3.row hq.2.1 (fun e => absurd (ty _ _ _ _ hq.2.1 e) (by decide)), fr3.owns_type hq.2.2.1 (fun k c f hk e => absurd (ty _ _ _ _ hk e) (by decide)), hq.2.2.2⟩⟩
  have wd4 : Wd bs (w3.setCell ⟨W, 4, none⟩ (.slice pa (P.length + 1) pc')) W came (.slice pa (P.length + 1) pc') kv wv A lsv ls3v X :=
    ⟨wd3.lw.set 4 _ rfl, set_owns wd3.lw.row 4 _ wd3.kept (by decide), set_owns wd3.lw.row 4 _ wd3.were (by decide), wd3.kw, wd3.km, wd3.small⟩
  have bk4 : ∀ (q : PB), q.ok (w1.alloc (.cells #[.slice none 0 0] 99)) → q.ok (w3.setCell ⟨W, 4, none⟩ (.slice pa (P.length + 1) pc')) := fun q hq => by
    have f := Fr.of_set (S := fun k => k = W) w3 ⟨W, 4, none⟩ (.slice pa (P.length + 1) pc') rfl
    have hq' := bk3 q hq
    have hw := wd3.lw.row
    refine ⟨⟨f.row hq'.1.1 ?_, f.owns_type hq'.1.2.1 ?_, hq'.1.2.2⟩, ⟨f.row hq'.2.1 ?_, f.owns_type hq'.2.2.1 ?_, hq'.2.2.2⟩⟩
    · intro e; have := hq'.1.1; rw [e, hw] at this; simp only [Option.some.injEq, Obj.cells.injEq] at this; exact absurd this.2.1 (by decide)
    · intro k c f hk e; rw [e, hw] at hk; simp only [Option.some.injEq, Obj.cells.injEq] at hk; exact absurd hk.2.1 (by decide)
    · intro e; have := hq'.2.1; rw [e, hw] at this; simp only [Option.some.injEq, Obj.cells.injEq] at this; exact absurd this.2.1 (by decide)
    · intro k c f hk e; rw [e, hw] at hk; simp only [Option.some.injEq, Obj.cells.injEq] at hk; exact absurd hk.2.1 (by decide)
  have hs1 := hx1.size
  have FIN := hid (show Law bs (w3.setCell ⟨W, 4, none⟩ (.slice pa (P.length + 1) pc')) W came (.slice pa (P.length + 1) pc') kv wv A lsv ls3v X (P ++ [⟨w.heap.size, .slice none 0 0, w1.heap.size, .slice none 0 0, []⟩]) by
    have old : ∀ (i : Nat) (p : PB), P[i]? = some p → p.off ⟨w.heap.size, .slice none 0 0, w1.heap.size, .slice none 0 0, []⟩ := fun i p hp => by
      have := HL.out.bk i p hp
      have h1 := this.1.lt
      have h2 := this.2.lt
      exact ⟨by simp; omega, by simp; omega, Apart.nil _, Apart.nil _⟩
    refine ⟨wd4, ?_, ?_, ?_, ?_⟩
    · have := set_owns wd3.lw.row 4 (.slice pa (P.length + 1) pc') ho3 (by decide)
      simpa [PB.cells] using this
    · intro i p hp
      by_cases hi : i < P.length
      · rw [List.getElem?_append_left hi] at hp
        exact bk4 p (L2.bk i p hp)
      · have hlt := (List.getElem?_eq_some_iff.1 hp).1
        simp only [List.length_append, List.length_cons, List.length_nil] at hlt
        obtain rfl : i = P.length := by omega
        simp only [List.getElem?_concat_length, Option.some.injEq] at hp
        subst hp
        exact bk4 _ ⟨hb2, rf⟩
    · intro i j p q hp hq hij
      have hil := (List.getElem?_eq_some_iff.1 hp).1
      have hjl := (List.getElem?_eq_some_iff.1 hq).1
      simp only [List.length_append, List.length_cons, List.length_nil] at hil hjl
      by_cases hi : i < P.length
      · rw [List.getElem?_append_left hi] at hp
        by_cases hj : j < P.length
        · rw [List.getElem?_append_left hj] at hq
          exact HL.out.dist i j p q hp hq hij
        · obtain rfl : j = P.length := by omega
          simp only [List.getElem?_concat_length, Option.some.injEq] at hq
          subst hq
          exact old i p hp
      · obtain rfl : i = P.length := by omega
        rw [List.getElem?_append_left (by omega)] at hq
        simp only [List.getElem?_concat_length, Option.some.injEq] at hp
        subst hp
        obtain ⟨a1, a2, a3, a4⟩ := old j q hq
        exact ⟨a1.symm, a2.symm, a3.symm, a4.symm⟩
    · intro i p hp
      have hb0 := HL.out.wd.lw.hbs
      by_cases hi : i < P.length
      · rw [List.getElem?_append_left hi] at hp
        exact HL.out.pb i p hp
      · have hlt := (List.getElem?_eq_some_iff.1 hp).1
        simp only [List.length_append, List.length_cons, List.length_nil] at hlt
        obtain rfl : i = P.length := by omega
        simp only [List.getElem?_concat_length, Option.some.injEq] at hp
        subst hp
        exact ⟨hb0, Nat.le_trans hb0 hs1, fun g hg => by cases hg⟩)
  have FRA := hid (show Fr (fun k => bs ≤ k) w (w3.setCell ⟨W, 4, none⟩ (.slice pa (P.length + 1) pc')) from
    ((Fr.of_ext hxr).trans (fr3.mono (fun k _ e => (L2.ps.lt k e.symm).1))).trans (Fr.of_set _ _ _ HL.out.wd.lw.wb))
  obtain ⟨_, _, _, _, z4, _, _, _⟩ := (HL.out.ext hx1).wd.lw.cells
  obtain ⟨_, _, _, _, y4, _, _, zf⟩ := wd3.lw.cells
  have f4 := zf 4
  have HR := hid hr3
  clear zf hr3 ho3 hg3 fr3 ty wd3 bk3 wd4 bk4 hxr L2 rf hb2 hb1 hx1
  go_wp2_with (at_builtin; refine wpList_append_run rfl _ _ 57 57 rfl (.slice qa P.length qc) (.slice (some ⟨w1.heap.size + 1, 0, none⟩) 1 1) rfl rfl _ _ HR.out ?_)
  go_ret
  exact ⟨rfl, ⟨_, _, FIN.out⟩, FRA.out⟩
end Go.Proofs.YtjohkmkgmbihkaaGreatDoor
