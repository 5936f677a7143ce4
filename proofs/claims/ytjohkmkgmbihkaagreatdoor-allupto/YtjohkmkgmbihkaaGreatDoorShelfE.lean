/- The walks of the shelf: With, Without, Find, Pairs. -/
import Derived.Test.YtjohkmkgmbihkaaGreatDoorShelfD
namespace Go.Proofs.YtjohkmkgmbihkaaGreatDoor
set_option linter.unusedVariables false
open Go.ChangeShapes Go.WideShapes Go.ChangeAt Go.RowKit

/-- An item as a value. -/
abbrev It.val' (x : It) : Value := .agg #[.string x.key, .string x.val, .int .i64 x.h]
theorem cell_new (w : World) (c : Array Value) (t : TypeId) (j : Nat) : (w.alloc (.cells c t)).cell? ⟨w.heap.size, j, none⟩ = c[j]? := by
  rw [cell_of_row _ w.heap.size j c t (0, 0) (heap_alloc_new w _)]
theorem its_one (w : World) (x : It) (t : TypeId) : Its (w.alloc (.cells #[.string x.key, .string x.val, .int .i64 x.h] t)) (.slice (some ⟨w.heap.size, 0, none⟩) 1 1) [x] := by
  refine ⟨by simp [cellsOf_length], .inr ⟨w.heap.size, 0, 1, rfl, by simp, by simp [maxLen], by simp, ?_⟩⟩
  intro j u hu
  rw [Nat.zero_add, cell_new]
  simpa [cellsOf, It.cells] using hu

theorem around_sl (L : List It) (hs : Sorted L) (hn : L.length ≤ 50) (v : Value) (k : ByteArray) (w : World) (hv : Its w v L) :
    Calls Tryz.prog 82 #[v, .string k] w fun e w' => ∃ a1 n1 c1 a2 n2 c2, e = .returned (.tuple #[.slice a1 n1 c1, .slice a2 n2 c2]) ∧ Ext w w' ∧
      Its w' (.slice a1 n1 c1) (L.take (plc L k)) ∧ Its w' (.slice a2 n2 c2) (L.drop (if has L k then plc L k + 1 else plc L k)) := by
  refine (around_any L hs hn v k w hv).mono ?_
  rintro e w' ⟨v1, v2, rfl, hx, h1, h2⟩
  obtain ⟨a1, m1, e1, _⟩ := h1.shape
  obtain ⟨a2, m2, e2, _⟩ := h2.shape
  subst e1 e2
  exact ⟨_, _, _, _, _, _, rfl, hx, h1, h2⟩

theorem owns_base {w : World} {base base' : Nat} {e : TypeId} {size : Nat} {v : Value} {n : Nat} {xs : List Value} (h : w.ownsRow base e size v n xs) (hb : base' ≤ base) : w.ownsRow base' e size v n xs := by
  refine ⟨h.1, ?_⟩
  rcases h.2 with h2 | ⟨g, cap, cur, hv, hg, r⟩
  · exact .inl h2
  · exact .inr ⟨g, cap, cur, hv, by omega, r⟩

theorem Concat3 (w1 : World) (s1 s2 : Value) (A B : List It) (x : It) (h1 : Its w1 s1 A) (h2 : Its w1 s2 B) (hlen : A.length + B.length ≤ 50) :
    Calls Tryz.prog 83 #[.slice (some ⟨w1.heap.size + 1, 0, none⟩) 3 3]
      ((w1.alloc (.cells #[.string x.key, .string x.val, .int .i64 x.h] 87)).alloc (.cells #[s1, .slice (some ⟨w1.heap.size, 0, none⟩) 1 1, s2] 89))
      fun e w' => ∃ v, e = .returned v ∧ Ext w1 w' ∧ w'.ownsRow w1.heap.size 87 3 v (A ++ x :: B).length (cellsOf (A ++ x :: B)) := by
  have e2 : (w1.alloc (.cells #[.string x.key, .string x.val, .int .i64 x.h] 87)).heap.size = w1.heap.size + 1 := by simp
  have hx1 : Ext w1 (w1.alloc (.cells #[.string x.key, .string x.val, .int .i64 x.h] 87)) := (Ext.refl w1).alloc _
  have ho := its_one w1 x 87
  generalize w1.alloc (.cells #[.string x.key, .string x.val, .int .i64 x.h] 87) = w2 at *
  have hx2 := (Ext.refl w2).alloc (.cells #[s1, .slice (some ⟨w1.heap.size, 0, none⟩) 1 1, s2] 89)
  have hc := cell_new w2 #[s1, .slice (some ⟨w1.heap.size, 0, none⟩) 1 1, s2] 89
  have hsz : (w2.alloc (.cells #[s1, .slice (some ⟨w1.heap.size, 0, none⟩) 1 1, s2] 89)).heap.size = w2.heap.size + 1 := by simp
  rw [e2] at hc hsz
  generalize w2.alloc (.cells #[s1, .slice (some ⟨w1.heap.size, 0, none⟩) 1 1, s2] 89) = w3 at *
  have e : flat [(s1, A), (.slice (some ⟨w1.heap.size, 0, none⟩) 1 1, [x]), (s2, B)] = A ++ x :: B := by simp [flat]
  have hb := hx2.size
  refine (Concat_any [(s1, A), (.slice (some ⟨w1.heap.size, 0, none⟩) 1 1, [x]), (s2, B)] (w1.heap.size + 1) 3 w3 (by simp) (by rw [e]; simp; omega) (by omega) ?_ ?_).mono ?_
  · intro i hi
    rw [hc]
    match i, hi with
    | 0, _ => rfl
    | 1, _ => rfl
    | 2, _ => rfl
  · intro i hi
    match i, hi with
    | 0, _ => exact h1.ext (hx1.trans hx2)
    | 1, _ => exact ho.ext hx2
    | 2, _ => exact h2.ext (hx1.trans hx2)
  · rintro e' w' ⟨v, rfl, hx, hown⟩
    rw [e] at hown
    exact ⟨v, rfl, (hx1.trans hx2).trans hx, owns_base hown (by omega)⟩

theorem Concat2 (w1 : World) (s1 s2 : Value) (A B : List It) (h1 : Its w1 s1 A) (h2 : Its w1 s2 B) (hlen : A.length + B.length ≤ 50) :
    Calls Tryz.prog 83 #[.slice (some ⟨w1.heap.size, 0, none⟩) 2 2] (w1.alloc (.cells #[s1, s2] 89))
      fun e w' => ∃ v, e = .returned v ∧ Ext w1 w' ∧ w'.ownsRow w1.heap.size 87 3 v (A ++ B).length (cellsOf (A ++ B)) := by
  have hx2 := (Ext.refl w1).alloc (.cells #[s1, s2] 89)
  have hc := cell_new w1 #[s1, s2] 89
  have hsz : (w1.alloc (.cells #[s1, s2] 89)).heap.size = w1.heap.size + 1 := by simp
  generalize w1.alloc (.cells #[s1, s2] 89) = w3 at *
  have e : flat [(s1, A), (s2, B)] = A ++ B := by simp [flat]
  refine (Concat_any [(s1, A), (s2, B)] w1.heap.size 2 w3 (by simp) (by rw [e]; simp; omega) (by omega) ?_ ?_).mono ?_
  · intro i hi
    rw [hc]
    match i, hi with
    | 0, _ => rfl
    | 1, _ => rfl
  · intro i hi
    match i, hi with
    | 0, _ => exact h1.ext hx2
    | 1, _ => exact h2.ext hx2
  · rintro e' w' ⟨v, rfl, hx, hown⟩
    rw [e] at hown
    exact ⟨v, rfl, hx2.trans hx, owns_base hown (by omega)⟩

theorem put_parts (L : List It) (x : It) : (L.take (plc L x.key)).length + (L.drop (if has L x.key then plc L x.key + 1 else plc L x.key)).length ≤ L.length := by
  have := plc_le L x.key
  simp; split <;> omega

set_option maxHeartbeats 400000 in
set_option maxRecDepth 100000 in
theorem With_any (L : List It) (hs : Sorted L) (hn : L.length ≤ 50) (x : It) (v : Value) (w : World) (hv : Its w v L) :
    Calls Tryz.prog 47 #[v, x.val'] w
      fun e w' => ∃ v', e = .returned v' ∧ Ext w w' ∧ w'.ownsRow w.heap.size 87 3 v' (put L x).length (cellsOf (put L x)) := by
  have HV := hid hv
  have HP := hid (put_parts L x)
  clear hv
  go_enter Tryz.func47, Tryz.ntmps47
  go_wp2_with fail
  refine (around_sl L hs hn _ _ _ (HV.out.ext ((Ext.refl w).alloc _))).mono ?_
  rintro e w1 ⟨a1, n1, m1, a2, n2, m2, rfl, hx, h1, h2⟩
  have c0 : w1.cell? ⟨w.heap.size, 0, none⟩ = some (.string x.key) := (hx.cell (p := ⟨w.heap.size, 0, none⟩) (by simp)).trans (by simp)
  have c1 : w1.cell? ⟨w.heap.size, 1, none⟩ = some (.string x.val) := (hx.cell (p := ⟨w.heap.size, 1, none⟩) (by simp)).trans (by simp)
  have c2 : w1.cell? ⟨w.heap.size, 2, none⟩ = some (.int .i64 x.h) := (hx.cell (p := ⟨w.heap.size, 2, none⟩) (by simp)).trans (by simp)
  have hsz : w.heap.size ≤ w1.heap.size := by have := hx.size; simp at this; omega
  have H1 := hid h1
  have H2 := hid h2
  clear h1 h2
  go_wp2_with fail
  refine (Concat3 w1 _ _ _ _ x H1.out H2.out (by have := HP.out; omega)).mono ?_
  rintro e w2 ⟨v', rfl, hx2, hown⟩
  have HO := hid hown
  clear hown
  go_wp2_with fail
  go_ret
  exact ⟨v', rfl, (((Ext.refl w).alloc _).trans hx).trans hx2, owns_base HO.out hsz⟩

set_option maxHeartbeats 400000 in
set_option maxRecDepth 100000 in
theorem Without_any (L : List It) (hs : Sorted L) (hn : L.length ≤ 50) (k : ByteArray) (hk : has L k = true) (v : Value) (w : World) (hv : Its w v L) :
    Calls Tryz.prog 66 #[v, .string k] w
      fun e w' => ∃ v', e = .returned v' ∧ Ext w w' ∧ w'.ownsRow w.heap.size 87 3 v' (del L k).length (cellsOf (del L k)) := by
  have HV := hid hv
  have HP := hid (plc_le L k)
  have HK := hid hk
  clear hv hk
  go_enter Tryz.func66, Tryz.ntmps66
  go_wp2_with fail
  refine (around_sl L hs hn _ _ _ HV.out).mono ?_
  rintro e w1 ⟨a1, n1, m1, a2, n2, m2, rfl, hx, h1, h2⟩
  rw [HK.out, if_pos rfl] at h2
  have hsz : w.heap.size ≤ w1.heap.size := hx.size
  have H1 := hid h1
  have H2 := hid h2
  clear h1 h2
  go_wp2_with fail
  refine (Concat2 w1 _ _ _ _ H1.out H2.out (by have := HP.out; simp; omega)).mono ?_
  rintro e w2 ⟨v', rfl, hx2, hown⟩
  have HO := hid hown
  clear hown
  go_wp2_with fail
  go_ret
  exact ⟨v', rfl, hx.trans hx2, owns_base HO.out hsz⟩

theorem box_cells {w w1 : World} {c : Array Value} {t : TypeId} (hx : Ext (w.alloc (.cells c t)) w1) :
    (∀ j, w1.cell? ⟨w.heap.size, j, none⟩ = c[j]?) ∧ (∀ j, w1.frozen? ⟨w.heap.size, j, none⟩ = false) ∧ w.heap.size < w1.heap.size := by
  have hs : w.heap.size < (w.alloc (.cells c t)).heap.size := by simp
  refine ⟨fun j => (hx.cell (p := ⟨w.heap.size, j, none⟩) hs).trans (cell_new w c t j), fun j => (hx.frozen (p := ⟨w.heap.size, j, none⟩) hs).trans ?_, Nat.lt_of_lt_of_le hs hx.size⟩
  exact frozen_of_row _ _ _ c t (heap_alloc_new w _)

set_option maxHeartbeats 400000 in
set_option maxRecDepth 100000 in
theorem Find_any (L : List It) (hs : Sorted L) (hn : L.length ≤ 50) (k : ByteArray) (v : Value) (w : World) (hv : Its w v L) :
    Calls Tryz.prog 122 #[v, .string k] w
      fun e w' => ∃ y : It, e = .returned (.tuple #[y.val', .bool (has L k)]) ∧ Ext w w' ∧ (has L k = true → L[plc L k]? = some y) := by
  have HV := hid hv
  cases hk : has L k with
  | false =>
    have HK := hid hk
    clear hv hk
    go_enter Tryz.func122, Tryz.ntmps122
    go_wp2_with fail
    refine (place_any L hs hn _ _ _ (HV.out.ext ((Ext.refl w).alloc _))).mono ?_
    rintro e w1 ⟨rfl, hx⟩
    rw [HK.out]
    obtain ⟨bc, bf, bz⟩ := box_cells hx
    go_wp2_with fail
    refine bodyPost_ret (v := .tuple #[.agg #[.string ⟨#[]⟩, .string ⟨#[]⟩, .int .i64 0], .bool false]) ?_ rfl ⟨⟨⟨#[]⟩, ⟨#[]⟩, 0⟩, rfl, ?_, fun h => by cases h⟩
    · simp [results, Tryz.results122, go_sem, bc]
    · exact (((((Ext.refl w).alloc _).trans hx).setCell (by simp) _).setCell (by simp) _).setCell (by simp) _
  | true =>
    obtain ⟨hlt, hke⟩ := has_iff.1 hk
    clear hke
    rcases hv.cases with ⟨_, h0⟩ | ⟨b, o, cap, rfl, h3, h4, h5, h6⟩
    · subst h0; simp at hlt
    · have HK := hid hk
      have H6 := hid h6
      clear hv hk h6
      go_enter Tryz.func122, Tryz.ntmps122
      go_wp2_with fail
      refine (place_any L hs hn _ _ _ (HV.out.ext ((Ext.refl w).alloc _))).mono ?_
      rintro e w1 ⟨rfl, hx⟩
      rw [HK.out]
      obtain ⟨bc, bf, bz⟩ := box_cells hx
      obtain ⟨g1, g2, g3⟩ := item_cells (cells_ext (((Ext.refl w).alloc _).trans hx) h5 H6.out) hlt
      go_wp2_with fail
      refine bodyPost_ret (v := .tuple #[(L[plc L k]).val', .bool true]) ?_ rfl ⟨L[plc L k], rfl, ?_, fun _ => List.getElem?_eq_getElem hlt⟩
      · simp [results, Tryz.results122, go_sem, bc]
      · exact (((((Ext.refl w).alloc _).trans hx).setCell (by simp) _).setCell (by simp) _).setCell (by simp) _

set_option maxHeartbeats 400000 in
theorem Pair_any (x : It) (w : World) :
    Calls Tryz.prog 76 #[x.val'] w fun e w' => e = .returned (.agg #[.string x.key, .string x.val]) ∧ Ext w w' := by
  go_enter Tryz.func76, Tryz.ntmps76
  go_wp2_with fail
  refine bodyPost_ret (v := .agg #[.string x.key, .string x.val]) ?_ rfl ⟨rfl, ?_⟩
  · simp [results, Tryz.results76, go_sem]
  · exact ((Ext.refl w).alloc _).alloc _

theorem infoPair : ∃ i, Tryz.prog.info? 53 = some i ∧ i.zero = some (.agg #[.string ⟨#[]⟩, .string ⟨#[]⟩]) ∧ i.size = 2 ∧ i.bytes = 32 := info_of (by kernel_rfl)
end Go.Proofs.YtjohkmkgmbihkaaGreatDoor
