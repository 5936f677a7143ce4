/- The walks of the document's book: changing it; all its pairs. -/
import Derived.Test.YtjohkmkgmbihkaaGreatDoorRefA
import Derived.Deep.DeepCutAuto
namespace Go.Proofs.YtjohkmkgmbihkaaGreatDoor
set_option linter.unusedVariables false
open Go.ChangeShapes Go.WideShapes Go.ChangeAt Go.RowKit
attribute [local go_sem ↓] Go.wp_at_zero Go.wp_at_succ

/-- Only a block, and a row, have turned; all else is as it was. -/
structure Mod2 (w w' : World) (r : Nat) (o : Option Nat) : Prop where
  os : w'.os = w.os
  tape : w'.tape = w.tape
  output : w'.output = w.output
  size : w.heap.size ≤ w'.heap.size
  block : ∀ k, k < w.heap.size → k ≠ r → some k ≠ o → w'.heap[k]? = w.heap[k]?
theorem Ext.mod2 {w w' : World} (hx : Ext w w') (r : Nat) (o : Option Nat) : Mod2 w w' r o := ⟨hx.os, hx.tape, hx.output, hx.size, fun k hk _ _ => hx.block k hk⟩

theorem sz_items (w : World) : (sizeOf (Tryz.prog.elem 97)).run Tryz.prog w = .ok 3 w := by kernel_rfl
theorem cutI_h (a : Option Addr) (n cap i : Nat) (h : i ≤ cap) (w : World) :
    (Instr.slice 97 (.slice a n cap) none (some (.int .i64 (i : Int))) none).run Tryz.prog w = .ok (sliced a 0 i cap 3) w := by
  rw [run_slice_h w 97 a n cap (by kernel_rfl) .i64 i (by omega) (by omega), sz_items]
  rfl
theorem cutI_l (a : Option Addr) (n cap i : Nat) (h : i ≤ n) (w : World) :
    (Instr.slice 97 (.slice a n cap) (some (.int .i64 (i : Int))) none none).run Tryz.prog w = .ok (sliced a i n cap 3) w := by
  rw [run_slice_l w 97 a n cap (by kernel_rfl) .i64 i (by omega) (by omega), sz_items]
  rfl
theorem infoItem : ∃ i, Tryz.prog.info? 110 = some i ∧ i.zero = some zEntry ∧ i.size = 3 ∧ i.bytes = 40 := info_of (by kernel_rfl)
/-- Items onto a row of items. -/
theorem app_its (base : Nat) (w : World) (v u : Value) (A B : List It) (hb0 : base ≤ w.heap.size) (hown : w.ownsRow base 110 3 v A.length (cellsOf A)) (hu : Its w u B) (hl : A.length + B.length ≤ 1000000) :
    ∃ v' w', (Builtin.append_ #[97, 97] 97 #[v, u]).run Tryz.prog w = .ok v' w' ∧
      w'.ownsRow base 110 3 v' (A ++ B).length (cellsOf (A ++ B)) ∧ w.grownBy w' v.ownBlock := by
  obtain ⟨i, hi, hz, hs, hb⟩ := infoItem
  obtain ⟨v', w', hr, ho, hg⟩ := append_seg (P := Tryz.prog) _ base 97 97 110 i _ 3 40 Tryz.underlying97 hi hz hs hb rfl (by decide) v _ _ hown
    u _ (cellsOf B) hu (oneCell_cellsOf _) (by unfold maxLen; omega) (by omega) hb0
  refine ⟨v', w', hr, ?_, hg⟩
  rw [cellsOf_append, List.length_append]; exact ho
theorem Ext.own_row {w0 w w' : World} {base : Nat} {u : Value} {e : TypeId} {s n : Nat} {xs : List Value} (hx : Ext w0 w) (ho : w.ownsRow base e s u n xs) (hb : w0.heap.size ≤ base) (hg : w.grownBy w' u.ownBlock) : Ext w0 w' :=
  Below.grown hx hg hx.size (fun k hk => Nat.le_trans hb (ho.lt k hk).1)
theorem Ext.of_none {w w' : World} (hg : w.grownBy w' (Value.slice none 0 0).ownBlock) : Ext w w' := ⟨hg.os, hg.tape, hg.output, hg.size, fun k hk => hg.block k hk (by simp [Value.ownBlock])⟩
theorem Rf.set {w w1 : World} {b : Nat} {v v' : Value} {L L' : List It} (h : Rf w b v L) (hx : Ext w w1) (ho : w1.ownsRow w.heap.size 110 3 v' L'.length (cellsOf L')) (hg : Good L') :
    Rf (w1.setCell ⟨b, 0, none⟩ v') b v' L' ∧ Mod2 w (w1.setCell ⟨b, 0, none⟩ v') b v.ownBlock ∧ (∀ g, v'.ownBlock = some g → w.heap.size ≤ g) := by
  have hlt := h.lt
  refine ⟨⟨?_, ?_, hg⟩, ⟨hx.os, hx.tape, hx.output, ?_, ?_⟩, fun g hg' => (ho.lt g hg').1⟩
  · have := heap_setCell_same w1 b 0 #[v] 99 v' (hx.row h.1)
    simpa using this
  · exact ownsRow_setCell_below ho (by exact hlt) v' |> fun q => owns_base q (Nat.zero_le _)
  · simpa [World.setCell] using hx.size
  · intro k hk hne _
    rw [Below.heap_setCell _ _ _ _ hne, hx.block k hk]

set_option maxHeartbeats 1000000 in
set_option maxRecDepth 100000 in
theorem rDelete_any (b : Nat) (v : Value) (L : List It) (k : ByteArray) (w : World) (hB : Rf w b v L) :
    Calls Tryz.prog 92 #[.pointer (some ⟨b, 0, none⟩), .string k] w
      fun e w' => e = .returned (.int .i64 (delE L k)) ∧ ∃ v', Rf w' b v' (delL L k) ∧ Mod2 w w' b v.ownBlock ∧ (v' = v ∨ ∀ g, v'.ownBlock = some g → w.heap.size ≤ g) := by
  have HB := hid hB
  have hn := hB.2.2.2.1
  have hpl := plc_le L k
  cases e1 : keyB k with
  | false =>
    have G1 := hid (show delE L k = 1 by simp [delE, e1])
    have G2 := hid (show delL L k = L by simp [delL, e1])
    have E1 := hid e1
    clear e1 hB
    go_enter Tryz.func92, Tryz.ntmps92
    go_wp2_with fail
    refine (rKey_any _ _).mono ?_
    rintro e w1 ⟨rfl, rfl⟩
    rw [E1.out]
    go_wp2_with fail
    go_ret
    exact ⟨ret_int G1.out.symm, v, by rw [G2.out]; exact HB.out, (Ext.refl _).mod2 b _, .inl rfl⟩
  | true =>
    cases e2 : has L k with
    | false =>
      have G1 := hid (show delE L k = 5 by simp [delE, e1, e2])
      have G2 := hid (show delL L k = L by simp [delL, e1, e2])
      have E1 := hid e1
      have E2 := hid e2
      clear e1 e2 hB
      go_enter Tryz.func92, Tryz.ntmps92
      go_wp2_with fail
      refine (rKey_any _ _).mono ?_
      rintro e w1 ⟨rfl, rfl⟩
      rw [E1.out]
      go_wp2_with fail
      refine (rPlace_any b v L k _ HB.out).mono ?_
      rintro e w1 ⟨rfl, hx⟩
      rw [E2.out]
      go_wp2_with fail
      go_ret
      exact ⟨ret_int G1.out.symm, v, by rw [G2.out]; exact Rf.ext HB.out hx, hx.mod2 b _, .inl rfl⟩
    | true =>
      obtain ⟨hlt, hke⟩ := has_iff.1 e2
      clear hke
      have G1 := hid (show delE L k = 0 by simp [delE, e1, e2])
      have G2 := hid (show delL L k = del L k by simp [delL, e1, e2])
      have E1 := hid e1
      have E2 := hid e2
      obtain ⟨a, cap, ev, hc1, hc2⟩ := hB.its.shape
      subst ev
      clear e1 e2 hB
      go_enter Tryz.func92, Tryz.ntmps92
      go_wp2_with fail
      refine (rKey_any _ _).mono ?_
      rintro e w1 ⟨rfl, hw1⟩
      replace hw1 := hw1.symm
      subst hw1
      rw [E1.out]
      go_wp2_with fail
      refine (rPlace_any b _ L k _ HB.out).mono ?_
      rintro e w1 ⟨rfl, hx⟩
      rw [E2.out]
      have hB1 := Rf.ext HB.out hx
      have hc := hB1.cell
      obtain ⟨V1, q1⟩ : ∃ V, V = sliced a 0 (plc L k) cap 3 := ⟨_, rfl⟩
      obtain ⟨V2, q2⟩ : ∃ V, V = sliced a (plc L k + 1) L.length cap 3 := ⟨_, rfl⟩
      have r1 : ∀ w, (Instr.slice 97 (.slice a L.length cap) none (some (.int .i64 (plc L k : Int))) none).run Tryz.prog w = .ok V1 w := fun w => by rw [q1]; exact cutI_h a L.length cap (plc L k) (by omega) w
      have r2 : ∀ w, (Instr.slice 97 (.slice a L.length cap) (some (.int .i64 ((plc L k : Int) + 1))) none none).run Tryz.prog w = .ok V2 w := fun w => by rw [q2]; exact cutI_l a L.length cap (plc L k + 1) (by omega) w
      have i1 := hB1.its.take hpl
      have i2 := hB1.its.drop (i := plc L k + 1) hlt
      rw [← q1] at i1
      rw [← q2] at i2
      obtain ⟨mv, w2, hr1, ho1, hg1⟩ := app_its w.heap.size w1 (.slice none 0 0) V1 [] (L.take (plc L k)) hx.size (World.ownsRow_nil _ _ _ _) i1 (by simp; omega)
      rw [List.nil_append] at ho1
      have hx2 : Ext w1 w2 := Ext.of_none hg1
      obtain ⟨mv2, w3, hr2, ho2, hg2⟩ := app_its w.heap.size w2 mv V2 (L.take (plc L k)) (L.drop (plc L k + 1)) (hx.trans hx2).size ho1 (i2.ext hx2) (by simp; omega)
      have hx3 : Ext w w3 := Ext.own_row (hx.trans hx2) ho1 (Nat.le_refl _) hg2
      have hcx2 := hx2.keep1 hc
      have hc3 := Rf.cell (Rf.ext HB.out hx3)
      have hf3 := Rf.frozen (Rf.ext HB.out hx3)
      obtain ⟨a2, n2, m2, ev2⟩ : ∃ a n c, mv2 = .slice a n c := by obtain ⟨a, c, e, _⟩ := (Its.own ho2).shape; exact ⟨_, _, _, e⟩
      rw [ev2] at ho2 hr2
      have HR1 := hid hr1
      have HR2 := hid hr2
      have HO2 := hid ho2
      clear hr1 hr2 ho1 ho2 hg1 hg2 q1 q2 i1 i2 hB1 ev2
      go_wp2_with (first
        | (at_builtin; refine wpList_append_run rfl _ _ 97 97 rfl (.slice none 0 0) V1 rfl rfl _ _ HR1.out ?_)
        | (at_builtin; refine wpList_append_run rfl _ _ 97 97 rfl mv V2 rfl rfl _ _ HR2.out ?_))
      go_ret
      obtain ⟨q1, q2, q3⟩ := Rf.set HB.out hx3 HO2.out (HB.out.2.2.del k)
      exact ⟨ret_int G1.out.symm, _, by rw [G2.out]; exact q1, q2, .inr q3⟩

theorem rows_ne {w : World} {b : Nat} {c : Array Value} {t e : TypeId} {f : Nat × Nat} {base size n : Nat} {v : Value} {xs : List Value} (hb : w.heap[b]? = some (.cells c t f)) (ho : w.ownsRow base e size v n xs) (hne : t ≠ e) : v.ownBlock ≠ some b := by
  rcases ho.2 with ⟨rfl, _⟩ | ⟨g, cap, cur, rfl, _, hg, _⟩
  · simp [Value.ownBlock]
  · simp only [Value.ownBlock, ne_eq, Option.some.injEq]
    rintro rfl
    rw [hb] at hg
    simp only [Option.some.injEq, Obj.cells.injEq] at hg
    exact hne hg.2.1
/-- An item stored into a row of items. -/
theorem set_item (L : List It) (i : Nat) (h : i < L.length) (x : It) : (((cellsOf L).set (i * 3) (.string x.key)).set (i * 3 + 1) (.string x.val)).set (i * 3 + 2) (.int .i64 x.h) = cellsOf (L.set i x) := by
  induction L generalizing i with
  | nil => simp at h
  | cons y L ih =>
    cases i with
    | zero => simp [cellsOf, It.cells]
    | succ i =>
      have e0 : (i + 1) * 3 = i * 3 + 1 + 1 + 1 := by omega
      rw [List.set_cons_succ, cellsOf_cons, cellsOf_cons, ← ih i (by simpa using h)]
      simp only [It.cells, List.cons_append, List.nil_append, e0, List.set_cons_succ]

theorem Mod2.trans_ext {a w w' : World} {r : Nat} {o : Option Nat} (hx : Ext a w) (h : Mod2 w w' r o) : Mod2 a w' r o :=
  ⟨h.os.trans hx.os, h.tape.trans hx.tape, h.output.trans hx.output, Nat.le_trans hx.size h.size, fun k hk h1 h2 => (h.block k (Nat.lt_of_lt_of_le hk hx.size) h1 h2).trans (hx.block k hk)⟩
theorem Mod2.ext {a w w' : World} {r : Nat} {o : Option Nat} (h : Mod2 a w r o) (hx : Ext w w') : Mod2 a w' r o :=
  ⟨hx.os.trans h.os, hx.tape.trans h.tape, hx.output.trans h.output, Nat.le_trans h.size hx.size, fun k hk h1 h2 => (hx.block k (Nat.lt_of_lt_of_le hk h.size)).trans (h.block k hk h1 h2)⟩
theorem Rf.put_at {w : World} {b g cap : Nat} {L : List It} (h : Rf w b (.slice (some ⟨g, 0, none⟩) L.length cap) L) {p : Nat} (hp : p < L.length) (x : It) (hg : Good (L.set p x)) :
    Rf (((w.setCell ⟨g, p * 3, none⟩ (.string x.key)).setCell ⟨g, p * 3 + 1, none⟩ (.string x.val)).setCell ⟨g, p * 3 + 2, none⟩ (.int .i64 x.h)) b (.slice (some ⟨g, 0, none⟩) L.length cap) (L.set p x) ∧
    Mod2 w (((w.setCell ⟨g, p * 3, none⟩ (.string x.key)).setCell ⟨g, p * 3 + 1, none⟩ (.string x.val)).setCell ⟨g, p * 3 + 2, none⟩ (.int .i64 x.h)) b (some g) := by
  have hne : g ≠ b := by
    intro q
    subst q
    exact rows_ne h.1 h.2.1 (by decide) rfl
  have ho := (((h.2.1.stored (p * 3) (.string x.key)).1.stored (p * 3 + 1) (.string x.val)).1.stored (p * 3 + 2) (.int .i64 x.h)).1
  rw [set_item L p hp x] at ho
  refine ⟨⟨?_, by simpa using ho, hg⟩, ⟨rfl, rfl, rfl, by simp [World.setCell], fun k hk h1 h2 => ?_⟩⟩
  · rw [Below.heap_setCell _ _ _ _ (Ne.symm hne), Below.heap_setCell _ _ _ _ (Ne.symm hne), Below.heap_setCell _ _ _ _ (Ne.symm hne)]; exact h.1
  · have hk : k ≠ g := by intro q; subst q; exact h2 rfl
    rw [Below.heap_setCell _ _ _ _ hk, Below.heap_setCell _ _ _ _ hk, Below.heap_setCell _ _ _ _ hk]

set_option maxHeartbeats 2000000 in
set_option maxRecDepth 100000 in
theorem rPut_any (b : Nat) (v : Value) (L : List It) (k t : ByteArray) (h : Int) (w : World) (hB : Rf w b v L) :
    Calls Tryz.prog 91 #[.pointer (some ⟨b, 0, none⟩), .string k, .string t, .int .i64 h] w
      fun e w' => e = .returned (.int .i64 (putE L k t h)) ∧ ∃ v', Rf w' b v' (putL L k t h) ∧ Mod2 w w' b v.ownBlock ∧ (v' = v ∨ ∀ g, v'.ownBlock = some g → w.heap.size ≤ g) := by
  have HB := hid hB
  have hn := hB.2.2.2.1
  have hpl := plc_le L k
  cases e1 : keyB k with
  | false =>
    have hf : fault k t h = 1 := by simp [fault, e1]
    have G1 := hid (show putE L k t h = 1 by simp [putE, hf])
    have G2 := hid (show putL L k t h = L by simp [putL, putE, hf])
    have E1 := hid e1
    clear e1 hB hf
    go_enter Tryz.func91, Tryz.ntmps91
    go_wp2_with fail
    refine (rKey_any _ _).mono ?_
    rintro e w1 ⟨rfl, rfl⟩
    rw [E1.out]
    go_wp2_with fail
    refine (rValue_any _ _).mono ?_
    rintro e w1 ⟨rfl, rfl⟩
    go_wp2_with fail
    go_ret
    exact ⟨ret_int G1.out.symm, v, by rw [G2.out]; exact HB.out, (Ext.refl _).mod2 b _, .inl rfl⟩
  | true =>
  cases e2 : valB t with
  | false =>
    have hf : fault k t h = 2 := by simp [fault, e1, e2]
    have G1 := hid (show putE L k t h = 2 by simp [putE, hf])
    have G2 := hid (show putL L k t h = L by simp [putL, putE, hf])
    have E1 := hid e1
    have E2 := hid e2
    clear e1 e2 hB hf
    go_enter Tryz.func91, Tryz.ntmps91
    go_wp2_with fail
    refine (rKey_any _ _).mono ?_
    rintro e w1 ⟨rfl, rfl⟩
    rw [E1.out]
    go_wp2_with fail
    refine (rValue_any _ _).mono ?_
    rintro e w1 ⟨rfl, rfl⟩
    rw [E2.out]
    go_wp2_with fail
    go_ret
    exact ⟨ret_int G1.out.symm, v, by rw [G2.out]; exact HB.out, (Ext.refl _).mod2 b _, .inl rfl⟩
  | true =>
  by_cases e3 : 0 ≤ h ∧ h ≤ 15
  case neg =>
    have hg : hgtB h = false := by simp [hgtB]; omega
    have hf : fault k t h = 3 := by simp [fault, e1, e2, hg]
    have G1 := hid (show putE L k t h = 3 by simp [putE, hf])
    have G2 := hid (show putL L k t h = L by simp [putL, putE, hf])
    have E1 := hid e1
    have E2 := hid e2
    clear e1 e2 hB hf hg
    by_cases h0 : h < 0
    · go_enter Tryz.func91, Tryz.ntmps91
      go_wp2_with fail
      refine (rKey_any _ _).mono ?_
      rintro e w1 ⟨rfl, rfl⟩
      rw [E1.out]
      go_wp2_with fail
      refine (rValue_any _ _).mono ?_
      rintro e w1 ⟨rfl, rfl⟩
      rw [E2.out]
      go_wp2_with fail
      go_ret
      exact ⟨ret_int G1.out.symm, v, by rw [G2.out]; exact HB.out, (Ext.refl _).mod2 b _, .inl rfl⟩
    · have h15 : 15 < h := by omega
      clear e3
      go_enter Tryz.func91, Tryz.ntmps91
      go_wp2_with fail
      refine (rKey_any _ _).mono ?_
      rintro e w1 ⟨rfl, rfl⟩
      rw [E1.out]
      go_wp2_with fail
      refine (rValue_any _ _).mono ?_
      rintro e w1 ⟨rfl, rfl⟩
      rw [E2.out]
      go_wp2_with fail
      go_ret
      exact ⟨ret_int G1.out.symm, v, by rw [G2.out]; exact HB.out, (Ext.refl _).mod2 b _, .inl rfl⟩
  case pos =>
  obtain ⟨h0, h15⟩ := e3
  obtain ⟨hN, rfl⟩ : ∃ n : Nat, h = n := ⟨h.toNat, by omega⟩
  have hg : hgtB (hN : Int) = true := by simp [hgtB]; omega
  have hf : fault k t hN = 0 := by simp [fault, e1, e2, hg]
  have E1 := hid e1
  have E2 := hid e2
  clear e1 e2 hg
  cases e4 : has L k with
  | true =>
    obtain ⟨hlt, hke⟩ := has_iff.1 e4
    clear hke
    have HG := hid (hB.2.2.putL k t hN)
    have G1 := hid (show putE L k t hN = 0 by simp [putE, hf, e4])
    have G2 := hid (show putL L k t hN = L.set (plc L k) ⟨k, t, hN⟩ by
      rw [putL, if_pos G1.out, put_set (by exact e4)]; simp)
    have E4 := hid e4
    rcases hB.its.cases with ⟨_, q⟩ | ⟨g, o, cap, rfl, hc1, hc2, _, _⟩
    · subst q; simp at hlt
    obtain ⟨rfl⟩ : o = 0 := by
      rcases hB.2.1.2 with ⟨q, _⟩ | ⟨g', c', cur, q, _⟩
      · simp at q
      · simp only [Value.slice.injEq, Option.some.injEq, Addr.mk.injEq] at q; exact q.1.2.1
    clear e4 hf hB
    go_enter Tryz.func91, Tryz.ntmps91
    go_wp2_with fail
    refine (rKey_any _ _).mono ?_
    rintro e w1 ⟨rfl, hw1⟩
    replace hw1 := hw1.symm
    subst hw1
    rw [E1.out]
    go_wp2_with fail
    refine (rValue_any _ _).mono ?_
    rintro e w1 ⟨rfl, hw1⟩
    replace hw1 := hw1.symm
    subst hw1
    rw [E2.out]
    go_wp2_with fail
    refine (rPlace_any b _ L k _ HB.out).mono ?_
    rintro e w1 ⟨rfl, hx⟩
    rw [E4.out]
    have hB1 := Rf.ext HB.out hx
    have hc := hB1.cell
    have hbx := hB1.lt
    have ho1 := hB1.2.1
    have hl1 := ho1.1
    have hgl := (ho1.lt g rfl).2
    have hgb : g ≠ b := by
      intro q
      subst q
      exact rows_ne hB1.1 ho1 (by decide) rfl
    obtain ⟨z0, hz0⟩ : ∃ q, w1.cell? ⟨g, plc L k * 3, none⟩ = some q := ⟨_, (ho1.cellAt (plc L k * 3) (by omega)).trans (List.getElem?_eq_getElem (by omega))⟩
    obtain ⟨z1, hz1⟩ : ∃ q, w1.cell? ⟨g, plc L k * 3 + 1, none⟩ = some q := ⟨_, (ho1.cellAt (plc L k * 3 + 1) (by omega)).trans (List.getElem?_eq_getElem (by omega))⟩
    obtain ⟨z2, hz2⟩ : ∃ q, w1.cell? ⟨g, plc L k * 3 + 2, none⟩ = some q := ⟨_, (ho1.cellAt (plc L k * 3 + 2) (by omega)).trans (List.getElem?_eq_getElem (by omega))⟩
    have hf0 := ho1.frozenAt (plc L k * 3)
    have hf1 := ho1.frozenAt (plc L k * 3 + 1)
    have hf2 := ho1.frozenAt (plc L k * 3 + 2)
    have ya := fun ob => ((Ext.refl w1).alloc ob).keep1 hc
    have y0 := fun ob => ((Ext.refl w1).alloc ob).keep1 hz0
    have y1 := fun ob => ((Ext.refl w1).alloc ob).keep1 hz1
    have y2 := fun ob => ((Ext.refl w1).alloc ob).keep1 hz2
    have HB1 := hid hB1
    clear hB1 ho1 hl1
    have jj : (plc L k : Int) < (L.length : Int) := by omega
    have HP := hid (Rf.put_at HB1.out hlt ⟨k, t, hN⟩ (by rw [← G2.out]; exact HG.out))
    go_wp2_with fail
    go_region
    all_goals
      go_wp2_with fail
      go_ret
      refine ⟨ret_int G1.out.symm, _, by rw [G2.out]; exact Rf.ext HP.out.1 ((Ext.refl _).alloc _).drew, Mod2.trans_ext hx (HP.out.2.ext ((Ext.refl _).alloc _).drew), .inl rfl⟩
  | false =>
    by_cases h50 : L.length = 50
    · have G1 := hid (show putE L k t hN = 4 by simp [putE, hf, e4, h50])
      have G2 := hid (show putL L k t hN = L by simp [putL, G1.out])
      have E4 := hid e4
      obtain ⟨a, cap, ev, hc1, hc2⟩ := hB.its.shape
      subst ev
      have h50' : ((L.length : Int) == 50) = true := by simp; omega
      clear e4 hf hB h50
      go_enter Tryz.func91, Tryz.ntmps91
      go_wp2_with fail
      refine (rKey_any _ _).mono ?_
      rintro e w1 ⟨rfl, hw1⟩
      replace hw1 := hw1.symm
      subst hw1
      rw [E1.out]
      go_wp2_with fail
      refine (rValue_any _ _).mono ?_
      rintro e w1 ⟨rfl, hw1⟩
      replace hw1 := hw1.symm
      subst hw1
      rw [E2.out]
      go_wp2_with fail
      refine (rPlace_any b _ L k _ HB.out).mono ?_
      rintro e w1 ⟨rfl, hx⟩
      rw [E4.out]
      have hc := Rf.cell (Rf.ext HB.out hx)
      have hbx := (Rf.ext HB.out hx).lt
      have ya := fun ob => ((Ext.refl w1).alloc ob).keep1 hc
      go_wp2_with fail
      go_ret
      exact ⟨ret_int G1.out.symm, _, by rw [G2.out]; exact Rf.ext HB.out (hx.alloc _), (hx.alloc _).mod2 b _, .inl rfl⟩
    · have HG := hid (hB.2.2.putL k t hN)
      have G1 := hid (show putE L k t hN = 0 by simp [putE, hf, e4]; omega)
      have G2 := hid (show putL L k t hN = L.take (plc L k) ++ [⟨k, t, hN⟩] ++ L.drop (plc L k) by
        rw [putL, if_pos G1.out, put_new (by exact e4)]; simp)
      have E4 := hid e4
      obtain ⟨a, cap, ev, hc1, hc2⟩ := hB.its.shape
      subst ev
      have h50' : ((L.length : Int) == 50) = false := by simp; omega
      clear e4 hf hB
      go_enter Tryz.func91, Tryz.ntmps91
      go_wp2_with fail
      refine (rKey_any _ _).mono ?_
      rintro e w1 ⟨rfl, hw1⟩
      replace hw1 := hw1.symm
      subst hw1
      rw [E1.out]
      go_wp2_with fail
      refine (rValue_any _ _).mono ?_
      rintro e w1 ⟨rfl, hw1⟩
      replace hw1 := hw1.symm
      subst hw1
      rw [E2.out]
      go_wp2_with fail
      refine (rPlace_any b _ L k _ HB.out).mono ?_
      rintro e w1 ⟨rfl, hx⟩
      rw [E4.out]
      have hxA := hx.alloc (.cells #[.string k, .string t, .int .i64 hN] 110)
      have d0 := cell_new w1 #[.string k, .string t, .int .i64 hN] 110 0
      have d1 := cell_new w1 #[.string k, .string t, .int .i64 hN] 110 1
      have d2 := cell_new w1 #[.string k, .string t, .int .i64 hN] 110 2
      have hbx := (Rf.ext HB.out hx).lt
      have ya := fun ob => ((Ext.refl w1).alloc ob).keep1 (Rf.cell (Rf.ext HB.out hx))
      obtain ⟨V1, q1⟩ : ∃ V, V = sliced a 0 (plc L k) cap 3 := ⟨_, rfl⟩
      obtain ⟨V2, q2⟩ : ∃ V, V = sliced a (plc L k) L.length cap 3 := ⟨_, rfl⟩
      have r1 : ∀ w, (Instr.slice 97 (.slice a L.length cap) none (some (.int .i64 (plc L k : Int))) none).run Tryz.prog w = .ok V1 w := fun w => by rw [q1]; exact cutI_h a L.length cap (plc L k) (by omega) w
      have r2 : ∀ w, (Instr.slice 97 (.slice a L.length cap) (some (.int .i64 (plc L k : Int))) none none).run Tryz.prog w = .ok V2 w := fun w => by rw [q2]; exact cutI_l a L.length cap (plc L k) (by omega) w
      go_upto_region 17 with fail
      generalize w1.alloc (.cells #[.string k, .string t, .int .i64 hN] 110) = wA at *
      replace d0 : wA.cell? ⟨w1.heap.size, 0, none⟩ = some (.string k) := d0
      replace d1 : wA.cell? ⟨w1.heap.size, 1, none⟩ = some (.string t) := d1
      replace d2 : wA.cell? ⟨w1.heap.size, 2, none⟩ = some (.int .i64 hN) := d2
      have hBA := Rf.ext HB.out hxA
      have hcA := hBA.cell
      have i1 := hBA.its.take hpl
      have i2 := hBA.its.drop (i := plc L k) hpl
      rw [← q1] at i1
      rw [← q2] at i2
      obtain ⟨mv, w2, hr1, ho1, hg1⟩ := app_its wA.heap.size wA (.slice none 0 0) V1 [] (L.take (plc L k)) (Nat.le_refl _) (World.ownsRow_nil _ _ _ _) i1 (by simp; omega)
      rw [List.nil_append] at ho1
      have hx2 : Ext wA w2 := Ext.of_none hg1
      have hone := its_one w2 ⟨k, t, hN⟩ 110
      have hxo := (Ext.refl w2).alloc (.cells #[.string k, .string t, .int .i64 hN] 110)
      obtain ⟨mv2, w3, hr2, ho2, hg2⟩ := app_its wA.heap.size (w2.alloc (.cells #[.string k, .string t, .int .i64 hN] 110)) mv (.slice (some ⟨w2.heap.size, 0, none⟩) 1 1) (L.take (plc L k)) [⟨k, t, hN⟩] (hx2.trans hxo).size (owns_ext ho1 hxo) hone (by simp; omega)
      have hx3 : Ext wA w3 := Ext.own_row (hx2.trans hxo) (owns_ext ho1 hxo) (Nat.le_refl _) hg2
      obtain ⟨mv3, w4, hr3, ho3, hg3⟩ := app_its wA.heap.size w3 mv2 V2 _ (L.drop (plc L k)) hx3.size ho2 (i2.ext hx3) (by simp; omega)
      have hx4 : Ext wA w4 := Ext.own_row hx3 ho2 (Nat.le_refl _) hg3
      have hcx2 := hx2.keep1 hcA
      have hcx3 := hx3.keep1 hcA
      have e0 := hx2.keep1 d0
      have e1 := hx2.keep1 d1
      have e2 := hx2.keep1 d2
      have hc4 := Rf.cell (Rf.ext HB.out (hxA.trans hx4))
      have hf4 := Rf.frozen (Rf.ext HB.out (hxA.trans hx4))
      obtain ⟨a2, n2, m2, ev2⟩ : ∃ a n c, mv3 = .slice a n c := by obtain ⟨a, c, e, _⟩ := (Its.own ho3).shape; exact ⟨_, _, _, e⟩
      rw [ev2] at ho3 hr3
      have HR1 := hid hr1
      have HR2 := hid hr2
      have HR3 := hid hr3
      have HO3 := hid (owns_base ho3 hxA.size)
      clear hr1 hr2 hr3 ho1 ho2 ho3 hg1 hg2 hg3 q1 q2 i1 i2 hBA ev2 hone d0 d1 d2
      go_wp2_with (first
        | (at_builtin; refine wpList_append_run rfl _ _ 97 97 rfl (.slice none 0 0) V1 rfl rfl _ _ HR1.out ?_)
        | (at_builtin; refine wpList_append_run rfl _ _ 97 97 rfl mv (.slice (some ⟨w2.heap.size, 0, none⟩) 1 1) rfl rfl _ _ HR2.out ?_)
        | (at_builtin; refine wpList_append_run rfl _ _ 97 97 rfl mv2 V2 rfl rfl _ _ HR3.out ?_))
      go_ret
      obtain ⟨q1, q2, q3⟩ := Rf.set HB.out (hxA.trans hx4) HO3.out (by rw [← G2.out]; exact HG.out)
      exact ⟨ret_int G1.out.symm, _, by rw [G2.out]; exact q1, q2, .inr q3⟩
end Go.Proofs.YtjohkmkgmbihkaaGreatDoor
