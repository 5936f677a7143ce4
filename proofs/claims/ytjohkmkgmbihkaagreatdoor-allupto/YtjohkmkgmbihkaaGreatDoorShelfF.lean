/- The walks of the shelf: Pairs. -/
import Derived.Test.YtjohkmkgmbihkaaGreatDoorShelfE
namespace Go.Proofs.YtjohkmkgmbihkaaGreatDoor
set_option linter.unusedVariables false
open Go.ChangeShapes Go.WideShapes Go.ChangeAt Go.RowKit

theorem owns_ext {w w' : World} {base : Nat} {e : TypeId} {size : Nat} {v : Value} {n : Nat} {xs : List Value} (h : w.ownsRow base e size v n xs) (hx : Ext w w') : w'.ownsRow base e size v n xs := by
  refine ⟨h.1, ?_⟩
  rcases h.2 with h2 | ⟨g, cap, cur, hv, hg, hh, r⟩
  · exact .inl h2
  · exact .inr ⟨g, cap, cur, hv, hg, hx.row hh, r⟩
theorem pairs_set (L : List It) (Z : List Value) (k : Nat) (hk : k < L.length) (hZ : Z.length = L.length * 2) :
    ((pairsOf (L.take k) ++ Z.drop (k * 2)).set (k * 2) (.string L[k].key)).set (k * 2 + 1) (.string L[k].val) = pairsOf (L.take (k + 1)) ++ Z.drop ((k + 1) * 2) := by
  have e1 : (pairsOf (L.take k)).length = k * 2 := by rw [pairsOf_length, List.length_take, Nat.min_eq_left (by omega)]
  have e2 : pairsOf (L.take (k + 1)) = pairsOf (L.take k) ++ L[k].pair := by
    rw [List.take_succ_eq_append_getElem hk, pairsOf_append]; simp [pairsOf]
  have e3 : Z.drop (k * 2) = Z[k * 2] :: Z[k * 2 + 1] :: Z.drop ((k + 1) * 2) := by
    rw [List.drop_eq_getElem_cons (by omega), List.drop_eq_getElem_cons (by omega)]
    have : k * 2 + 1 + 1 = (k + 1) * 2 := by omega
    rw [this]
  rw [e2, e3, List.set_append_right _ _ (by omega), List.set_append_right _ _ (by omega), e1]
  have : k * 2 + 1 - k * 2 = 1 := by omega
  simp [this, It.pair]

set_option maxHeartbeats 400000 in
set_option maxRecDepth 100000 in
theorem Pairs_any (L : List It) (hn : L.length ≤ 50) (v : Value) (w : World) (hv : Its w v L) :
    Calls Tryz.prog 86 #[v] w
      fun e w' => ∃ v', e = .returned v' ∧ Ext w w' ∧ w'.ownsRow w.heap.size 53 2 v' L.length (pairsOf L) := by
  obtain ⟨a, cap, e, h1, h2⟩ := hv.shape
  subst e
  obtain ⟨i, hi, hz, hs, hb⟩ := infoPair
  obtain ⟨w0, hmk, hown0, hg0⟩ := run_make_full (P := Tryz.prog) w w.heap.size 27 53 i _ 2 Tryz.underlying27 hi hz hs .i64 .i64 L.length (by rw [hb]; omega) (by unfold maxLen; omega) (Nat.le_refl _)
  generalize hZ : (madeCells (Value.cells (.agg #[.string ⟨#[]⟩, .string ⟨#[]⟩])) (L.length * 2)).toList = Z at hown0
  have hZl : Z.length = L.length * 2 := hown0.1
  have hx0 : Ext w w0 := Below.grown (Ext.refl w) hg0 (Nat.le_refl _) (fun k hk => by cases hk)
  have HV := hid hv
  have HO := hid hown0
  clear hv hi hz hs hb hown0 hg0 hZ
  go_enter Tryz.func86, Tryz.ntmps86
  go_wp2_with fail
  go_loopw [4, 5, 11] (fun _ _ i wr => ∃ k : Nat, k ≤ L.length ∧ i = .int .i64 k ∧ Ext w wr ∧ wr.ownsRow w.heap.size 53 2 (.slice (some ⟨w.heap.size, 0, none⟩) L.length L.length) L.length (pairsOf (L.take k) ++ Z.drop (k * 2))) (fun _ _ i _ => L.length - (intOf i).toNat)
  case atStart => exact ⟨0, Nat.zero_le _, rfl, hx0, by simpa [pairsOf] using HO.out⟩
  case round =>
    obtain ⟨k, hk, rfl, hxr, hownr⟩ := hrel
    by_cases hlt : k < L.length
    · rcases HV.out.cases with ⟨_, h0⟩ | ⟨b, o, c, e, h3, h4, h5, h6⟩
      · rw [h0] at hlt; simp at hlt
      · simp only [Value.slice.injEq] at e
        obtain ⟨rfl, _, rfl⟩ := e
        obtain ⟨g1, g2, g3⟩ := item_cells (cells_ext hxr h5 h6) hlt
        clear h6
        have HW := hid hownr
        clear hownr
        go_wp2_with fail
        refine (Pair_any _ _).mono ?_
        rintro e w1 ⟨rfl, hx1⟩
        have hx2 : Ext wr w1 := ((Ext.refl wr).alloc _).trans hx1
        have ho1 := owns_ext HW.out hx2
        have hl1 := ho1.1
        obtain ⟨q0, hq0⟩ : ∃ q, w1.cell? ⟨w.heap.size, k * 2, none⟩ = some q := ⟨_, (ho1.cellAt (k * 2) (by omega)).trans (List.getElem?_eq_getElem (by omega))⟩
        obtain ⟨q1, hq1⟩ : ∃ q, w1.cell? ⟨w.heap.size, k * 2 + 1, none⟩ = some q := ⟨_, (ho1.cellAt (k * 2 + 1) (by omega)).trans (List.getElem?_eq_getElem (by omega))⟩
        have hf0 := ho1.frozenAt (k * 2)
        have hf1 := ho1.frozenAt (k * 2 + 1)
        have ho3 := ((ho1.stored (k * 2) (.string L[k].key)).1.stored (k * 2 + 1) (.string L[k].val)).1
        rw [pairs_set L Z k hlt hZl] at ho3
        have HO3 := hid ho3
        clear ho1 ho3 hl1
        go_wp2_with fail
        go_roundw
        case rel => exact ⟨k + 1, by omega, by go_num, (((hxr.trans hx2).setCell (by simp) _).setCell (by simp) _), HO3.out⟩
        case measure => simp [intOf]; omega
    · have e1 : L.take k = L := List.take_of_length_le (by omega)
      have e2 : Z.drop (k * 2) = [] := List.drop_eq_nil_of_le (by omega)
      rw [e1, e2, List.append_nil] at hownr
      have HO3 := hid hownr
      clear hownr e1 e2
      go_wp2_with fail
      go_ret
      exact ⟨_, rfl, hxr, HO3.out⟩
end Go.Proofs.YtjohkmkgmbihkaaGreatDoor
