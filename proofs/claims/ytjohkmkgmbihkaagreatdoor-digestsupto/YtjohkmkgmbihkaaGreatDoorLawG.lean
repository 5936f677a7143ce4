/- The law's books. -/
import Derived.Test.YtjohkmkgmbihkaaGreatDoorLawF
import Derived.Test.YtjohkmkgmbihkaaGreatDoorRefD
namespace Go.Proofs.YtjohkmkgmbihkaaGreatDoor
set_option linter.unusedVariables false
open Go.ChangeShapes Go.WideShapes Go.ChangeAt Go.RowKit
attribute [local go_sem ↓] Go.wp_at_zero Go.wp_at_succ

/-- A book, and the document's. -/
structure PB where
  b : Nat
  v : Value
  r : Nat
  rv : Value
  L : List It
def PB.cells (p : PB) : List Value := [.pointer (some ⟨p.b, 0, none⟩), .pointer (some ⟨p.r, 0, none⟩)]
def PB.ok (w : World) (p : PB) : Prop := Bk w p.b p.v p.L ∧ Rf w p.r p.rv p.L
def PB.off (p q : PB) : Prop := p.b ≠ q.b ∧ p.r ≠ q.r ∧ Apart p.v q.v ∧ Apart p.rv q.rv
/-- The blocks that a step writes. -/
def PB.at (p : PB) (k : Nat) : Prop := k = p.b ∨ k = p.r ∨ some k = p.rv.ownBlock
theorem PB.at_type {w : World} {p : PB} (h : p.ok w) {k : Nat} {c : Array Value} {t : TypeId} {f : Nat × Nat} (hk : w.heap[k]? = some (.cells c t f)) (ha : p.at k) : t = 91 ∨ t = 99 ∨ t = 110 := by
  rcases ha with rfl | rfl | ha
  · rw [h.1.1] at hk; simp only [Option.some.injEq, Obj.cells.injEq] at hk; exact .inl hk.2.1.symm
  · rw [h.2.1] at hk; simp only [Option.some.injEq, Obj.cells.injEq] at hk; exact .inr (.inl hk.2.1.symm)
  · obtain ⟨c', f', q⟩ := own_type h.2.2.1 ha.symm
    rw [q] at hk; simp only [Option.some.injEq, Obj.cells.injEq] at hk; exact .inr (.inr hk.2.1.symm)
theorem Bk.fr {S : Nat → Prop} {w w' : World} (f : Fr S w w') {b : Nat} {v : Value} {L : List It} (h : Bk w b v L) (hb : ¬ S b) (hv : ∀ g, v.ownBlock = some g → ¬ S g) : Bk w' b v L := ⟨f.row h.1 hb, f.owns h.2.1 hv, h.2.2⟩
theorem Rf.fr {S : Nat → Prop} {w w' : World} (f : Fr S w w') {b : Nat} {v : Value} {L : List It} (h : Rf w b v L) (hb : ¬ S b) (hv : ∀ g, v.ownBlock = some g → ¬ S g) : Rf w' b v L := ⟨f.row h.1 hb, f.owns h.2.1 hv, h.2.2⟩
theorem Fr.of_mod2 {w w' : World} {r : Nat} {o : Option Nat} (h : Mod2 w w' r o) : Fr (fun k => k = r ∨ some k = o) w w' := ⟨h.os, h.tape, h.output, h.size, fun k hk hs => h.block k hk (fun e => hs (.inl e)) (fun e => hs (.inr e))⟩
theorem PB.br {w : World} {p : PB} (h : p.ok w) : p.b ≠ p.r ∧ (∀ g, p.v.ownBlock = some g → g ≠ p.r ∧ some g ≠ p.rv.ownBlock ∧ g ≠ p.b) ∧ (∀ g, p.rv.ownBlock = some g → g ≠ p.b) ∧ some p.b ≠ p.rv.ownBlock := by
  have e1 := h.1.1
  have e2 := h.2.1
  refine ⟨?_, ?_, ?_, ?_⟩
  · intro q; rw [q, e2] at e1; simp only [Option.some.injEq, Obj.cells.injEq] at e1; exact absurd e1.2.1 (by decide)
  · intro g hg
    obtain ⟨c, f, q⟩ := own_type h.1.2.1 hg
    refine ⟨?_, ?_, ?_⟩
    · rintro rfl; rw [e2] at q; simp only [Option.some.injEq, Obj.cells.injEq] at q; exact absurd q.2.1 (by decide)
    · intro e; exact rows_ne q h.2.2.1 (by decide) e.symm
    · rintro rfl; rw [e1] at q; simp only [Option.some.injEq, Obj.cells.injEq] at q; exact absurd q.2.1 (by decide)
  · intro g hg e; subst e; exact rows_ne e1 h.2.2.1 (by decide) hg
  · intro e; exact rows_ne e1 h.2.2.1 (by decide) e.symm

/-- What a step of a book leaves: the book and the document's hold the same. -/
def Did (w : World) (p : PB) (w' : World) : Prop := ∃ v' rv' L', Bk w' p.b v' L' ∧ Rf w' p.r rv' L' ∧ Fr p.at w w' ∧ (v' = p.v ∨ ∀ g, v'.ownBlock = some g → w.heap.size ≤ g) ∧ (rv' = p.rv ∨ ∀ g, rv'.ownBlock = some g → w.heap.size ≤ g)
theorem Did.same {w w' : World} {p : PB} (h : p.ok w) (hx : Ext w w') : Did w p w' := ⟨p.v, p.rv, p.L, h.1.ext hx, h.2.ext hx, Fr.of_ext hx, .inl rfl, .inl rfl⟩
theorem Did.both {w w1 w2 : World} {p : PB} {v' rv' : Value} {L' : List It} (h : p.ok w) (hb : Bk w1 p.b v' L') (hg : w.grownBy w1 (some p.b)) (hv : v' = p.v ∨ ∀ g, v'.ownBlock = some g → w.heap.size ≤ g)
    (hr : Rf w2 p.r rv' L') (hm : Mod2 w1 w2 p.r p.rv.ownBlock) (hrv : rv' = p.rv ∨ ∀ g, rv'.ownBlock = some g → w1.heap.size ≤ g) : Did w p w2 := by
  obtain ⟨q1, q2, q3, q4⟩ := PB.br h
  have hsz := hg.size
  have hlr := h.2.lt
  refine ⟨v', rv', L', hb.fr (Fr.of_mod2 hm) ?_ ?_, hr, ?_, hv, hrv.imp id (fun k g hg' => Nat.le_trans hsz (k g hg'))⟩
  · rintro (e | e)
    · exact q1 e
    · exact q4 e
  · intro g hgv
    rintro (e | e)
    · rcases hv with rfl | hv
      · exact (q2 g hgv).1 e
      · have := hv g hgv; omega
    · rcases hv with rfl | hv
      · exact (q2 g hgv).2.1 e
      · have := hv g hgv
        have := (h.2.2.1.lt g e.symm).2
        omega
  · exact (Fr.of_grown hg (fun k hk => .inl (by simpa using hk.symm))).trans ((Fr.of_mod2 hm).mono (fun k _ hk => hk.elim (fun e => .inr (.inl e)) (fun e => .inr (.inr e))))
theorem Rf.grown {w w' : World} {p : PB} (h : p.ok w) (hg : w.grownBy w' (some p.b)) : Rf w' p.r p.rv p.L :=
  h.2.fr (Fr.of_grown (S := fun k => k = p.b) hg (fun k hk => by simpa using hk.symm)) (fun e => (PB.br h).1 e.symm) (fun g hg' => (PB.br h).2.2.1 g hg')

theorem Did.of_ext {w w0 w' : World} {p : PB} (hx : Ext w w0) (h : Did w0 p w') : Did w p w' := by
  obtain ⟨v', rv', L', h1, h2, h3, h4, h5⟩ := h
  exact ⟨v', rv', L', h1, h2, (Fr.of_ext hx).trans h3, h4.imp id (fun k g hg => Nat.le_trans hx.size (k g hg)), h5.imp id (fun k g hg => Nat.le_trans hx.size (k g hg))⟩
theorem lbox2 (w : World) (c1 c2 : Array Value) (t1 t2 : TypeId) : Ext w ((w.alloc (.cells c1 t1)).alloc (.cells c2 t2)) ∧ (∀ j u, c1[j]? = some u → ((w.alloc (.cells c1 t1)).alloc (.cells c2 t2)).cell? ⟨w.heap.size, j, none⟩ = some u) ∧
    (∀ j u, c2[j]? = some u → ((w.alloc (.cells c1 t1)).alloc (.cells c2 t2)).cell? ⟨w.heap.size + 1, j, none⟩ = some u) ∧ w.heap.size + 1 < ((w.alloc (.cells c1 t1)).alloc (.cells c2 t2)).heap.size := by
  refine ⟨((Ext.refl w).alloc _).alloc _, fun j u hu => ?_, fun j u hu => ?_, by simp⟩
  · exact ((Ext.refl (w.alloc (.cells c1 t1))).alloc _).keep1 ((cell_new w c1 t1 j).trans hu)
  · have := (cell_new (w.alloc (.cells c1 t1)) c2 t2 j).trans hu
    simpa using this

set_option maxHeartbeats 4000000 in
set_option maxRecDepth 100000 in
theorem does_any (p : PB) (k bk h : Int) (S T : ByteArray) (w : World) (hp : p.ok w) :
    Calls Tryz.prog 56 #[.agg #[.pointer (some ⟨p.b, 0, none⟩), .pointer (some ⟨p.r, 0, none⟩)], .agg #[.int .i64 k, .int .i64 bk, .int .i64 h, .string S, .string T]] w fun e w' => e = .returned (.bool true) ∧ Did w p w' := by
  have HP := hid hp
  have hlb := hp.1.lt
  clear hp
  obtain ⟨hx0, c0, c1, hs0⟩ := lbox2 w #[.pointer (some ⟨p.b, 0, none⟩), .pointer (some ⟨p.r, 0, none⟩)] #[.int .i64 k, .int .i64 bk, .int .i64 h, .string S, .string T] 101 64
  have p1 := c0 1 _ rfl
  have o2 := c1 2 _ rfl
  have o3 := c1 3 _ rfl
  have o4 := c1 4 _ rfl
  have HX0 := hid hx0
  clear hx0 c0 c1
  go_enter Tryz.func56, Tryz.ntmps56
  go_wp2_with fail
  all_goals generalize (w.alloc (.cells #[.pointer (some ⟨p.b, 0, none⟩), .pointer (some ⟨p.r, 0, none⟩)] 101)).alloc (.cells #[.int .i64 k, .int .i64 bk, .int .i64 h, .string S, .string T] 64) = w0 at *
  · have hp0 : p.ok w0 := ⟨HP.out.1.ext HX0.out, HP.out.2.ext HX0.out⟩
    refine (Put_any p.b p.v p.L S T h w0 hp0.1).mono ?_
    rintro e w1 ⟨rfl, v', hb1, hg1, hv1⟩
    have q1 := hg1.cell p1 (by simp; omega)
    have q2 := hg1.cell o2 (by simp; omega)
    have q3 := hg1.cell o3 (by simp; omega)
    have q4 := hg1.cell o4 (by simp; omega)
    have HP0 := hid hp0
    have HB1 := hid hb1
    have HG1 := hid hg1
    have HV1 := hid hv1
    clear hp0 hb1 hg1 hv1
    go_wp2_with fail
    refine (rPut_any p.r p.rv p.L S T h w1 (Rf.grown HP0.out HG1.out)).mono ?_
    rintro e w2 ⟨rfl, rv', hr2, hm2, hv2⟩
    have HD := hid (Did.of_ext HX0.out (Did.both HP0.out HB1.out HG1.out HV1.out hr2 hm2 hv2))
    clear hr2 hm2 hv2
    go_wp2_with fail
    go_ret
    exact ⟨by simp, HD.out⟩
  · have hp0 : p.ok w0 := ⟨HP.out.1.ext HX0.out, HP.out.2.ext HX0.out⟩
    refine (Delete_any p.b p.v p.L S w0 hp0.1).mono ?_
    rintro e w1 ⟨rfl, v', hb1, hg1, hv1⟩
    have q1 := hg1.cell p1 (by simp; omega)
    have q2 := hg1.cell o2 (by simp; omega)
    have q3 := hg1.cell o3 (by simp; omega)
    have q4 := hg1.cell o4 (by simp; omega)
    have HP0 := hid hp0
    have HB1 := hid hb1
    have HG1 := hid hg1
    have HV1 := hid hv1
    clear hp0 hb1 hg1 hv1
    go_wp2_with fail
    refine (rDelete_any p.r p.rv p.L S w1 (Rf.grown HP0.out HG1.out)).mono ?_
    rintro e w2 ⟨rfl, rv', hr2, hm2, hv2⟩
    have HD := hid (Did.of_ext HX0.out (Did.both HP0.out HB1.out HG1.out HV1.out hr2 hm2 hv2))
    clear hr2 hm2 hv2
    go_wp2_with fail
    go_ret
    exact ⟨by simp, HD.out⟩
  · have hp0 : p.ok w0 := ⟨HP.out.1.ext HX0.out, HP.out.2.ext HX0.out⟩
    refine (Get_any p.b p.v p.L S w0 hp0.1).mono ?_
    rintro e w1 ⟨rfl, hx1⟩
    have q1 := hx1.keep1 p1
    have q2 := hx1.keep1 o2
    have q3 := hx1.keep1 o3
    have q4 := hx1.keep1 o4
    have rc := (hp0.2.ext hx1).cell
    have HP0 := hid hp0
    have HX1 := hid hx1
    clear hp0 hx1
    go_wp2_with fail
    refine (rGet_any p.r p.rv p.L S w1 (HP0.out.2.ext HX1.out)).mono ?_
    rintro e w2 ⟨rfl, hx2⟩
    have HD := hid (Did.of_ext HX0.out (Did.same HP0.out (HX1.out.trans hx2)))
    clear hx2
    go_wp2_with fail
    go_ret
    exact ⟨by simp, HD.out⟩
  · have hp0 : p.ok w0 := ⟨HP.out.1.ext HX0.out, HP.out.2.ext HX0.out⟩
    refine (Digest_any p.b p.v p.L w0 hp0.1).mono ?_
    rintro e w1 ⟨rfl, hx1⟩
    have q1 := hx1.keep1 p1
    have q2 := hx1.keep1 o2
    have q3 := hx1.keep1 o3
    have q4 := hx1.keep1 o4
    have rc := (hp0.2.ext hx1).cell
    have HP0 := hid hp0
    have HX1 := hid hx1
    clear hp0 hx1
    go_wp2_with fail
    refine (rDigest_any p.L HP0.out.1.2.2 p.rv w1 (HP0.out.2.ext HX1.out).its).mono ?_
    rintro e w2 ⟨rfl, hx2⟩
    have HD := hid (Did.of_ext HX0.out (Did.same HP0.out (HX1.out.trans hx2)))
    clear hx2
    go_wp2_with fail
    go_ret
    exact ⟨by simp, HD.out⟩
  · have hp0 : p.ok w0 := ⟨HP.out.1.ext HX0.out, HP.out.2.ext HX0.out⟩
    refine (Prove_any p.b p.v p.L S T w0 hp0.1).mono ?_
    rintro e w1 ⟨rfl, hx1⟩
    have q1 := hx1.keep1 p1
    have q2 := hx1.keep1 o2
    have q3 := hx1.keep1 o3
    have q4 := hx1.keep1 o4
    have rc := (hp0.2.ext hx1).cell
    have HP0 := hid hp0
    have HX1 := hid hx1
    clear hp0 hx1
    go_wp2_with fail
    refine (rProve_any p.r p.rv p.L S T w1 (HP0.out.2.ext HX1.out)).mono ?_
    rintro e w2 ⟨rfl, hx2⟩
    have HD := hid (Did.of_ext HX0.out (Did.same HP0.out (HX1.out.trans hx2)))
    clear hx2
    go_wp2_with fail
    go_ret
    exact ⟨by simp, HD.out⟩
end Go.Proofs.YtjohkmkgmbihkaaGreatDoor
