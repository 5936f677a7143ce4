/- The law's step. -/
import Derived.Test.YtjohkmkgmbihkaaGreatDoorLawH
namespace Go.Proofs.YtjohkmkgmbihkaaGreatDoor
set_option linter.unusedVariables false
open Go.ChangeShapes Go.WideShapes Go.ChangeAt Go.RowKit
attribute [local go_sem ↓] Go.wp_at_zero Go.wp_at_succ

theorem cells_get : ∀ (P : List PB) (i : Nat) (p : PB), P[i]? = some p → (P.flatMap PB.cells)[i * 2]? = some (.pointer (some ⟨p.b, 0, none⟩)) ∧ (P.flatMap PB.cells)[i * 2 + 1]? = some (.pointer (some ⟨p.r, 0, none⟩)) := by
  intro P
  induction P with
  | nil => intro i p h; simp at h
  | cons q P ih =>
    intro i p h
    rw [List.flatMap_cons]
    cases i with
    | zero => simp only [List.getElem?_cons_zero, Option.some.injEq] at h; subst h; simp [PB.cells]
    | succ i =>
      rw [List.getElem?_cons_succ] at h
      obtain ⟨h1, h2⟩ := ih i p h
      have hl : q.cells.length = 2 := rfl
      refine ⟨?_, ?_⟩
      · rw [List.getElem?_append_right (by omega), hl, show (i + 1) * 2 - 2 = i * 2 by omega]; exact h1
      · rw [List.getElem?_append_right (by omega), hl, show (i + 1) * 2 + 1 - 2 = i * 2 + 1 by omega]; exact h2
theorem cells_set (P : List PB) (i : Nat) (p q : PB) (hp : P[i]? = some p) (hc : q.cells = p.cells) : (P.set i q).flatMap PB.cells = P.flatMap PB.cells := by
  rw [List.flatMap_def, List.flatMap_def, List.map_set, hc]
  congr 1
  apply List.ext_getElem?
  intro j
  rw [List.getElem?_set]
  split
  · rename_i h; subst h
    have hlt := (List.getElem?_eq_some_iff.1 hp).1
    rw [List.getElem?_map, hp]; simp [hlt]
  · rfl
theorem row_type {w : World} {k : Nat} {c c' : Array Value} {t t' : TypeId} {f f' : Nat × Nat} (h : w.heap[k]? = some (.cells c t f)) (h' : w.heap[k]? = some (.cells c' t' f')) : t = t' := by
  rw [h] at h'; simp only [Option.some.injEq, Obj.cells.injEq] at h'; exact h'.2.1
theorem Law.did {w w' : World} {bs : Nat} {W came : Nat} {psv kv wv : Value} {A : List Pr} {lsv ls3v : Value} {X : List ML} {P : List PB} (h : Law bs w W came psv kv wv A lsv ls3v X P) {i : Nat} {p : PB} (hp : P[i]? = some p) (hd : Did w p w') :
    (∃ P', Law bs w' W came psv kv wv A lsv ls3v X P' ∧ P'.length = P.length) ∧ Fr (fun k => bs ≤ k) w w' := by
  obtain ⟨v', rv', L', hb, hr, fr, hv, hrv⟩ := hd
  have hok := h.bk i p hp
  have hlt := (List.getElem?_eq_some_iff.1 hp).1
  have ty : ∀ k c t f, w.heap[k]? = some (.cells c t f) → p.at k → t = 91 ∨ t = 99 ∨ t = 110 := fun k c t f hk ha => PB.at_type hok hk ha
  have hpb := h.pb i p hp
  have hbs := h.wd.lw.hbs
  refine ⟨⟨P.set i ⟨p.b, v', p.r, rv', L'⟩, ⟨?_, ?_, ?_, ?_, ?_⟩, by simp⟩, fr.mono (fun k _ a => by
    rcases a with a | a | a
    · rw [a]; exact hpb.1
    · rw [a]; exact hpb.2.1
    · exact hpb.2.2 k a.symm)⟩
  · exact h.wd.fr fr (fun k c t f hk ha => by rcases ty k c t f hk ha with e | e | e <;> rw [e] <;> decide)
  · rw [cells_set P i p ⟨p.b, v', p.r, rv', L'⟩ hp rfl, List.length_set]
    exact fr.owns_type h.ps (fun k c f hk ha => by rcases ty k c _ f hk ha with e | e | e <;> exact absurd e (by decide))
  · intro j q hq
    rw [List.getElem?_set] at hq
    split at hq
    · rename_i e
      simp only [Option.some.injEq] at hq
      subst hq
      exact ⟨hb, hr⟩
    · rename_i e
      have hqo := h.bk j q hq
      obtain ⟨o1, o2, o3, o4⟩ := h.dist j i q p hq hp (fun k => e k.symm)
      refine ⟨hqo.1.fr fr ?_ ?_, hqo.2.fr fr ?_ ?_⟩
      · rintro (k | k | k)
        · exact o1 k
        · exact absurd (row_type hqo.1.1 (k ▸ hok.2.1)) (by decide)
        · obtain ⟨c, f, r⟩ := own_type hok.2.2.1 k.symm
          exact absurd (row_type hqo.1.1 r) (by decide)
      · intro g hg ha
        obtain ⟨c, f, r⟩ := own_type hqo.1.2.1 hg
        rcases ty _ _ _ _ r ha with e | e | e <;> exact absurd e (by decide)
      · rintro (k | k | k)
        · exact absurd (row_type hqo.2.1 (k ▸ hok.1.1)) (by decide)
        · exact o2 k
        · obtain ⟨c, f, r⟩ := own_type hok.2.2.1 k.symm
          exact absurd (row_type hqo.2.1 r) (by decide)
      · intro g hg
        obtain ⟨c, f, r⟩ := own_type hqo.2.2.1 hg
        rintro (k | k | k)
        · exact absurd (row_type r (k ▸ hok.1.1)) (by decide)
        · exact absurd (row_type r (k ▸ hok.2.1)) (by decide)
        · exact o4.not g hg k
  · have new : ∀ (j : Nat) (q : PB), P[j]? = some q → j ≠ i → q.off ⟨p.b, v', p.r, rv', L'⟩ := by
      intro j q hq hji
      have hqo := h.bk j q hq
      obtain ⟨o1, o2, o3, o4⟩ := h.dist j i q p hq hp hji
      refine ⟨o1, o2, ?_, ?_⟩
      · rcases hv with e | hv
        · rw [e]; exact o3
        · cases hq' : v'.ownBlock with
          | none => exact Apart.symm (.inl hq')
          | some g => exact Apart.fresh hqo.1.2.1 hq' (hv g hq')
      · rcases hrv with e | hv
        · rw [e]; exact o4
        · cases hq' : rv'.ownBlock with
          | none => exact Apart.symm (.inl hq')
          | some g => exact Apart.fresh hqo.2.2.1 hq' (hv g hq')
    intro j k q r hq hr' hjk
    rw [List.getElem?_set] at hq hr'
    split at hq
    · rename_i e
      simp only [Option.some.injEq] at hq
      subst hq
      rw [if_neg (fun k' => hjk (e.symm.trans k'))] at hr'
      obtain ⟨a1, a2, a3, a4⟩ := new k r hr' (fun k' => hjk (e.symm.trans k'.symm))
      exact ⟨a1.symm, a2.symm, a3.symm, a4.symm⟩
    · rename_i e
      split at hr'
      · rename_i e2
        simp only [Option.some.injEq] at hr'
        subst hr'
        exact new j q hq (fun k' => e k'.symm)
      · exact h.dist j k q r hq hr' hjk
  · intro j q hq
    rw [List.getElem?_set] at hq
    split at hq
    · rename_i e
      simp only [Option.some.injEq] at hq
      subst hq
      refine ⟨hpb.1, hpb.2.1, fun g hg => ?_⟩
      rcases hrv with e | hv
      · exact hpb.2.2 g (e ▸ hg)
      · exact Nat.le_trans hbs (hv g hg)
    · exact h.pb j q hq
theorem Fw.ok {S : Nat → Prop} {w w' : World} (f : Fw S w w') (hs : ∀ k c t g, w.heap[k]? = some (.cells c t g) → S k → t = 53) {p : PB} (h : p.ok w) : p.ok w' := by
  refine ⟨⟨f.block _ _ _ _ h.1.1 (fun s => absurd (hs _ _ _ _ h.1.1 s) (by decide)) (by decide) (by decide), f.owns h.1.2.1 ?_ (by decide) (by decide), h.1.2.2⟩, ⟨f.block _ _ _ _ h.2.1 (fun s => absurd (hs _ _ _ _ h.2.1 s) (by decide)) (by decide) (by decide), f.owns h.2.2.1 ?_ (by decide) (by decide), h.2.2.2⟩⟩
  · intro g hg s
    obtain ⟨c, f', r⟩ := own_type h.1.2.1 hg
    exact absurd (hs _ _ _ _ r s) (by decide)
  · intro g hg s
    obtain ⟨c, f', r⟩ := own_type h.2.2.1 hg
    exact absurd (hs _ _ _ _ r s) (by decide)
/-- Behind takes. -/
theorem Law.took {w w' : World} {bs : Nat} {W came : Nat} {psv kv wv : Value} {A : List Pr} {lsv ls3v : Value} {X : List ML} {P : List PB} (h : Law bs w W came psv kv wv A lsv ls3v X P) {l : Value} {n : Nat} {xs : List Value} (hl : w.ownsRow bs 53 2 l n xs)
    {came' : Nat} {kv' wv' : Value} {A' : List Pr} {lsv' ls3v' : Value} {X' : List ML} (hw : Wd bs w' W came' psv kv' wv' A' lsv' ls3v' X') (f : Fw (fun k => some k = kv.ownBlock ∨ some k = l.ownBlock) w w') : Law bs w' W came' psv kv' wv' A' lsv' ls3v' X' P := by
  have hs : ∀ k c t g, w.heap[k]? = some (.cells c t g) → (some k = kv.ownBlock ∨ some k = l.ownBlock) → t = 53 := by
    rintro k c t g hk (e | e)
    · obtain ⟨c', f', r⟩ := own_type h.wd.kept e.symm
      exact row_type hk r
    · obtain ⟨c', f', r⟩ := own_type hl e.symm
      exact row_type hk r
  refine ⟨hw, f.owns h.ps ?_ (by decide) (by decide), fun i p hp => f.ok hs (h.bk i p hp), h.dist, h.pb⟩
  intro g hg s
  obtain ⟨c, f', r⟩ := own_type h.ps hg
  exact absurd (hs _ _ _ _ r s) (by decide)

set_option maxHeartbeats 4000000 in
set_option maxRecDepth 100000 in
theorem step_any (bs : Nat) (W : Nat) (came : Nat) (psv kv wv : Value) (A : List Pr) (lsv ls3v : Value) (X : List ML) (P : List PB) (w : World) (hL : Law bs w W came psv kv wv A lsv ls3v X P) (hP0 : 0 < P.length) (hP : P.length ≤ 100000000) (hX : X.length ≤ 10000000) (hc : came ≤ 100000000)
    (k bk h : Int) (S T : ByteArray) (hk : k ≠ 8) (hb0 : -9223372036854775808 ≤ bk) (hb1 : bk ≤ 9223372036854775807) :
    Calls Tryz.prog 26 #[.pointer (some ⟨W, 0, none⟩), .agg #[.int .i64 k, .int .i64 bk, .int .i64 h, .string S, .string T]] w fun e w' => e = .returned (.bool true) ∧
      (∃ came' psv' kv' wv' A' lsv' ls3v' X' P', Law bs w' W came' psv' kv' wv' A' lsv' ls3v' X' P' ∧ came' ≤ came + 1 ∧ X'.length ≤ X.length + 2 ∧ P'.length ≤ P.length + 1 ∧ P.length ≤ P'.length) ∧ Fr (fun k => bs ≤ k) w w' := by
  obtain ⟨i, hi, hpk⟩ : ∃ i : Nat, i < P.length ∧ pickN bk (P.length : Int) = i := by
    obtain ⟨h1, h2⟩ := pickN_bd bk (P.length : Int) (by omega)
    exact ⟨(pickN bk (P.length : Int)).toNat, by omega, by omega⟩
  obtain ⟨p, hp⟩ : ∃ p, P[i]? = some p := ⟨_, List.getElem?_eq_getElem hi⟩
  obtain ⟨g, cap, rfl⟩ : ∃ g cap, psv = .slice (some ⟨g, 0, none⟩) P.length cap := by
    rcases hL.ps.2 with ⟨_, q⟩ | ⟨g, c, cur, q, _⟩
    · omega
    · exact ⟨g, c, q⟩
  obtain ⟨q0, q1⟩ := cells_get P i p hp
  have hx0 : Ext w (w.alloc (.cells #[.int .i64 k, .int .i64 bk, .int .i64 h, .string S, .string T] 64)) := (Ext.refl w).alloc _
  have c0 : (w.alloc (.cells #[.int .i64 k, .int .i64 bk, .int .i64 h, .string S, .string T] 64)).cell? ⟨w.heap.size, 0, none⟩ = some (.int .i64 k) := cell_new w _ _ 0
  have c1 : (w.alloc (.cells #[.int .i64 k, .int .i64 bk, .int .i64 h, .string S, .string T] 64)).cell? ⟨w.heap.size, 1, none⟩ = some (.int .i64 bk) := cell_new w _ _ 1
  have c2 : (w.alloc (.cells #[.int .i64 k, .int .i64 bk, .int .i64 h, .string S, .string T] 64)).cell? ⟨w.heap.size, 2, none⟩ = some (.int .i64 h) := cell_new w _ _ 2
  have c3 : (w.alloc (.cells #[.int .i64 k, .int .i64 bk, .int .i64 h, .string S, .string T] 64)).cell? ⟨w.heap.size, 3, none⟩ = some (.string S) := cell_new w _ _ 3
  have c4 : (w.alloc (.cells #[.int .i64 k, .int .i64 bk, .int .i64 h, .string S, .string T] 64)).cell? ⟨w.heap.size, 4, none⟩ = some (.string T) := cell_new w _ _ 4
  have h0 : (w.alloc (.cells #[.int .i64 k, .int .i64 bk, .int .i64 h, .string S, .string T] 64)).heap.size = w.heap.size + 1 := alloc_size' _ _
  have hL0 := hL.ext hx0
  obtain ⟨_, _, _, _, z4, _, _, _⟩ := hL0.wd.lw.cells
  have y0 := (hL0.ps.cellAt (i * 2) (by omega)).trans q0
  have y1 := (hL0.ps.cellAt (i * 2 + 1) (by omega)).trans q1
  have HX0 := hid hx0
  have HL0 := hid hL0
  have HP := hid hp
  clear hL hL0 hp q0 q1 hx0
  go_enter Tryz.func26, Tryz.ntmps26
  go_wp2_with fail
  all_goals generalize w.alloc (.cells #[.int .i64 k, .int .i64 bk, .int .i64 h, .string S, .string T] 64) = w0 at *
  · refine (open_any bs W came _ kv wv A lsv ls3v X P w0 HL0.out hP).mono ?_
    rintro e w1 ⟨rfl, ⟨psv', p', hl1⟩, hf1⟩
    have HL1 := hid hl1
    have HF1 := hid hf1
    clear hl1 hf1
    go_wp2_with fail
    go_ret
    exact ⟨rfl, ⟨_, _, _, _, _, _, _, _, _, HL1.out, by omega, by omega, by simp, by simp⟩, (Fr.of_ext HX0.out).trans HF1.out⟩
  · go_ret
    exact ⟨by simp, ⟨_, _, _, _, _, _, _, _, _, HL0.out, by omega, by omega, by omega, by omega⟩, Fr.of_ext HX0.out⟩
  · go_region_held3 (fun w' => w'.cell? ⟨W, 4, none⟩ = some (.slice (some ⟨g, 0, none⟩) P.length cap) ∧ w'.cell? ⟨w.heap.size, 1, none⟩ = some (.int .i64 bk) ∧ w'.cell? ⟨g, i * 2, none⟩ = some (.pointer (some ⟨p.b, 0, none⟩)) ∧ w'.cell? ⟨g, i * 2 + 1, none⟩ = some (.pointer (some ⟨p.r, 0, none⟩))) (go_keep)
      (first
        | (go_at_call 50; refine (lpick_any bk P.length hb0 hb1 (by omega) (by omega) _).mono ?_; rintro e w2 ⟨rfl, h2⟩; subst h2; rw [hpk]))
    all_goals
      have hx1 : Ext w0 (w0.alloc (.cells #[.pointer (some ⟨p.b, 0, none⟩), .pointer (some ⟨p.r, 0, none⟩)] 101)).drew := ((Ext.refl _).alloc _).drew
      have p0 : (w0.alloc (.cells #[.pointer (some ⟨p.b, 0, none⟩), .pointer (some ⟨p.r, 0, none⟩)] 101)).drew.cell? ⟨w.heap.size + 1, 0, none⟩ = some (.pointer (some ⟨p.b, 0, none⟩)) := by rw [← h0]; exact cell_new w0 _ _ 0
      have p1 : (w0.alloc (.cells #[.pointer (some ⟨p.b, 0, none⟩), .pointer (some ⟨p.r, 0, none⟩)] 101)).drew.cell? ⟨w.heap.size + 1, 1, none⟩ = some (.pointer (some ⟨p.r, 0, none⟩)) := by rw [← h0]; exact cell_new w0 _ _ 1
      have d0 := hx1.keep1 c0
      have d1 := hx1.keep1 c1
      have d2 := hx1.keep1 c2
      have d3 := hx1.keep1 c3
      have d4 := hx1.keep1 c4
      have HX1 := hid hx1
      have HL1 := hid (HL0.out.ext hx1)
      clear hx1 c0 c1 c2 c3 c4 y0 y1 z4
      generalize (w0.alloc (.cells #[.pointer (some ⟨p.b, 0, none⟩), .pointer (some ⟨p.r, 0, none⟩)] 101)).drew = w1 at *
      go_wp2_with fail
      · refine (All_any p.b p.v p.L w1 (HL1.out.bk i p HP.out).1).mono ?_
        rintro e w2 ⟨lv, rfl, hx2, ho2⟩
        have hLl : (p.L.map It.pr).length ≤ 50 := by rw [List.length_map]; exact (HL1.out.bk i p HP.out).1.2.2.2.1
        rw [pairs_pc, ← List.length_map (f := It.pr)] at ho2
        obtain ⟨B, hBe⟩ : ∃ B, p.L.map It.pr = B := ⟨_, rfl⟩
        rw [hBe] at ho2 hLl
        have HBE := hid hBe
        obtain ⟨la, lc, rfl⟩ := own_slice ho2
        have e1 := hx2.keep1 p1
        have HO2 := hid ho2
        have HX2 := hid hx2
        have HL2 := hid (HL1.out.ext hx2)
        clear ho2 hx2 hBe
        go_wp2_with fail
        refine (rWithin_any p.r p.rv p.L w2 (HL2.out.bk i p HP.out).2).mono ?_
        rintro e w3 ⟨uv, rfl, hx3, ho3⟩
        rw [HBE.out] at ho3
        have HX3 := hid hx3
        have PU := hid (Prs.own ho3)
        have PL := hid (Prs.own (owns_ext HO2.out hx3))
        have hBm : B.length ≤ maxLen := by unfold maxLen; omega
        clear ho3 hx3
        go_wp2_with fail
        refine (samePairs_any B B _ _ w3 PL.out PU.out hBm hBm).mono ?_
        rintro e w4 ⟨rfl, hx4⟩
        rw [show decide (B = B) = true by simp]
        have hx24 := HX3.out.trans hx4
        have HL4 := hid (HL2.out.ext hx24)
        have HX24 := hid hx24
        have ol4 := owns_ext HO2.out hx24
        have hsz2 := HX2.out.size
        have hap : ∀ (base : Nat) (u : Value) (n : Nat) (xs : List Value), w1.ownsRow base 53 2 u n xs → Apart u (.slice la B.length lc) := fun base u n xs hu => by
          cases hq : (Value.slice la B.length lc).ownBlock with
          | none => exact Apart.symm (.inl hq)
          | some g' => exact Apart.fresh hu hq (HO2.out.lt g' hq).1
        have ak := hid (hap _ _ _ _ HL1.out.wd.kept).symm
        have am := hid (show ∀ x ∈ X, ∀ u ∈ x.vals, Apart u (.slice la B.length lc) by
          intro x hx u hu
          obtain ⟨j, hj, rfl⟩ := List.mem_iff_getElem.1 hx
          obtain ⟨m0, m1, m2, m3⟩ := HL1.out.wd.lw.marked j _ (List.getElem?_eq_getElem hj)
          simp only [ML.vals, List.mem_cons, List.not_mem_nil, or_false] at hu
          rcases hu with rfl | rfl | rfl | rfl
          · exact hap _ _ _ _ m0
          · exact hap _ _ _ _ m1
          · exact hap _ _ _ _ m2
          · exact hap _ _ _ _ m3)
        have OL := hid (owns_base ol4 HL1.out.wd.lw.hbs)
        clear hx4 hx24 ol4 hap
        go_wp2_with fail
        refine (takes_any bs W came _ kv wv A lsv ls3v X w4 HL4.out.wd (by omega) (by omega) la lc B OL.out (by omega) ak.out am.out).mono ?_
        rintro e w5 ⟨rfl, kv', wv', A', lsv', ls3v', X', hw5, hX5, hf5, hr5⟩
        have FIN := hid (HL4.out.took OL.out hw5 hf5)
        have FRA := hid (((((Fr.of_ext HX0.out).trans (Fr.of_ext HX1.out)).trans (Fr.of_ext HX2.out)).trans (Fr.of_ext HX24.out)).trans hr5)
        clear hw5 hf5 hr5
        go_wp2_with fail
        go_ret
        exact ⟨rfl, ⟨_, _, _, _, _, _, _, _, _, FIN.out, by omega, by omega, by omega, by omega⟩, FRA.out⟩
      · refine (does_any p k bk h S T w1 (HL1.out.bk i p HP.out)).mono ?_
        rintro e w2 ⟨rfl, hd⟩
        have HD := hid hd
        clear hd
        go_wp2_with fail
        go_ret
        obtain ⟨⟨P', hl2, hlen⟩, hf2⟩ := HL1.out.did HP.out HD.out
        exact ⟨rfl, ⟨_, _, _, _, _, _, _, _, _, hl2, by omega, by omega, by omega, by omega⟩, ((Fr.of_ext HX0.out).trans (Fr.of_ext HX1.out)).trans hf2⟩
  · go_ret
    exact ⟨by simp, ⟨_, _, _, _, _, _, _, _, _, HL0.out, by omega, by omega, by omega, by omega⟩, Fr.of_ext HX0.out⟩
end Go.Proofs.YtjohkmkgmbihkaaGreatDoor
