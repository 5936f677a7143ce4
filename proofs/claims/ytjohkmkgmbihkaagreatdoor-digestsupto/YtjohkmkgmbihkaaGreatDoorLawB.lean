/- Lists written full of a mark, and grown by marks: no program but its numbers. -/
import Derived.Test.YtjohkmkgmbihkaaGreatDoorLawA
namespace Go.Proofs.YtjohkmkgmbihkaaGreatDoor
set_option linter.unusedVariables false
open Go.ChangeShapes Go.WideShapes Go.ChangeAt Go.RowKit

/-- The mark's cells. -/
def mc (m : ByteArray) (j : Nat) : Value := if j % 2 = 0 then .string ⟨#[]⟩ else .string m
theorem mkd_get (n : Nat) (m : ByteArray) (j : Nat) : (pc (mkd n m))[j]? = if j < n * 2 then some (mc m j) else none := by
  have hl : (pc (mkd n m)).length = n * 2 := by rw [pc_length]; simp [mkd]
  by_cases h : j < n * 2
  · rw [if_pos h]
    have hk : j / 2 < (mkd n m).length := by simp [mkd]; omega
    obtain ⟨h1, h2⟩ := pc_get (mkd n m) (j / 2) hk
    have e : (mkd n m)[j / 2] = (⟨#[]⟩, m) := by simp [mkd]
    rw [e] at h1 h2
    by_cases hj : j % 2 = 0
    · have : j / 2 * 2 = j := by omega
      rw [this] at h1; rw [h1]; simp [mc, hj]
    · have : j / 2 * 2 + 1 = j := by omega
      rw [this] at h2; rw [h2]; simp [mc, hj]
  · rw [if_neg h, List.getElem?_eq_none (by omega)]
theorem mkd_length (n : Nat) (m : ByteArray) : (mkd n m).length = n := by simp [mkd]
theorem mkd_append (n q : Nat) (m : ByteArray) : mkd n m ++ mkd q m = mkd (n + q) m := by simp only [mkd, List.replicate_append_replicate]
/-- A slice of n marks. -/
def Mk (w : World) (v : Value) (n : Nat) (m : ByteArray) : Prop := w.ownsRow 0 53 2 v n (pc (mkd n m))
theorem Mk.prs {w : World} {v : Value} {n : Nat} {m : ByteArray} (h : Mk w v n m) : Prs w v (mkd n m) := Prs.own (by unfold Mk at h; rwa [mkd_length])
theorem Mk.ext {w w' : World} {v : Value} {n : Nat} {m : ByteArray} (h : Mk w v n m) (hx : Ext w w') : Mk w' v n m := owns_ext h hx
theorem Mk.kept {w w' : World} {row : Option Nat} {v : Value} {n : Nat} {m : ByteArray} (h : Mk w v n m) (hg : w.grownBy w' row) (hne : v.ownBlock = none ∨ v.ownBlock ≠ row) : Mk w' v n m := World.ownsRow.kept h hg hne
theorem Mk.shape {w : World} {v : Value} {n : Nat} {m : ByteArray} (h : Mk w v n m) : ∃ a c, v = .slice a n c := by
  rcases h.2 with ⟨rfl, rfl⟩ | ⟨g, cap, cur, rfl, _⟩
  · exact ⟨_, _, rfl⟩
  · exact ⟨_, _, rfl⟩

theorem news_marks {w : World} {a : Addr} {q : Nat} {m : ByteArray} (h : ∀ j, j < q * 2 → w.cell? (a.add j) = some (mc m j)) : ∀ j u, (pc (mkd q m))[j]? = some u → w.cell? (a.add j) = some u := by
  intro j u hu
  rw [mkd_get] at hu
  split at hu
  · rename_i hj; rw [h j hj]; exact hu
  · cases hu

/-- Marks grown by marks: whatever else was written full of this mark is so still. -/
theorem app_marks (w : World) (l : Value) (n q : Nat) (m : ByteArray) (hl : Mk w l n m) (a : Addr) (hq : 0 < q) (hnews : ∀ j, j < q * 2 → w.cell? (a.add j) = some (mc m j)) (hn : n + q ≤ 1000000000) :
    ∃ v' w', (Builtin.append_ #[27, 27] 27 #[l, .slice (some a) q q]).run Tryz.prog w = .ok v' w' ∧ Mk w' v' (n + q) m ∧ w.grownBy w' l.ownBlock ∧
      (v'.ownBlock = l.ownBlock ∨ ∃ g, v'.ownBlock = some g ∧ w.heap.size ≤ g) ∧ ∀ u c, Mk w u c m → Mk w' u c m := by
  obtain ⟨i, hi, hz, hs, hb⟩ := infoPair
  have hnl : (pc (mkd q m)).length = q * i.size := by rw [pc_length, mkd_length, hs]
  have hnw := news_marks hnews
  have hbig : ∀ (need old : Nat), old < need → need ≤ 1000000000 → Builtin.nextslicecap need old * i.bytes ≤ 281474976710656 := fun need old h1 h2 => growslice_fits h1 (by rw [hb]; omega)
  rcases hl.2 with ⟨rfl, h0⟩ | ⟨g, cap, cur, rfl, _, hg, hnc, hcm, hcs, htake⟩
  · subst h0
    obtain ⟨v', w', hr, ho, hgr, _⟩ := run_append_own (P := Tryz.prog) w w.heap.size 27 27 53 i _ 2 32 Tryz.underlying27 hi hz hs hb rfl (by decide) (.slice none 0 0) 0 [] (World.ownsRow_nil _ _ _ _) a q q (pc (mkd q m)) (by rw [hnl, hs]) hnw (oneCell_pc _) (by unfold maxLen; omega) (by omega) (Nat.le_refl _)
    have hx : Ext w w' := Ext.of_none hgr
    refine ⟨v', w', hr, ?_, hgr, ?_, fun u c hu => hu.ext hx⟩
    · have := owns_base ho (Nat.zero_le _)
      unfold Mk
      simpa using this
    · rcases ho.2 with ⟨_, q'⟩ | ⟨g, _, _, rfl, hgb, _⟩
      · omega
      · exact .inr ⟨g, rfl, hgb⟩
  · by_cases hroom : n + q ≤ cap
    · have hfit : n * i.size + (pc (mkd q m)).length ≤ cur.size := by rw [hnl, hs, hcs]; omega
      have hr := run_append_room (P := Tryz.prog) w 27 27 53 i Tryz.underlying27 hi g n cap cur hg a q q (pc (mkd q m)) hnl hnw (oneCell_pc _) hroom hfit
      rw [hs] at hr
      have hnew : ∀ j, (cur.toList.take (n * 2) ++ pc (mkd q m) ++ cur.toList.drop (n * 2 + (pc (mkd q m)).length))[j]? = if j < n * 2 then cur[j]? else if j < n * 2 + q * 2 then some (mc m j) else cur[j]? := by
        intro j
        have hll : (pc (mkd q m)).length = q * 2 := by rw [hnl, hs]
        rw [hll]
        have h1 : (cur.toList.take (n * 2)).length = n * 2 := by simp; omega
        by_cases c1 : j < n * 2
        · rw [if_pos c1, List.append_assoc, List.getElem?_append_left (by omega), List.getElem?_take, if_pos c1]; simp
        · rw [if_neg c1]
          by_cases c2 : j < n * 2 + q * 2
          · rw [if_pos c2, List.getElem?_append_left (by simp; omega), List.getElem?_append_right (by omega), h1, mkd_get, if_pos (by omega)]
            have : (j - n * 2) % 2 = j % 2 := by omega
            simp [mc, this]
          · rw [if_neg c2, List.getElem?_append_right (by simp; omega), List.getElem?_drop]
            simp only [List.length_append, h1, hll, Array.getElem?_toList]
            have : n * 2 + q * 2 + (j - (n * 2 + q * 2)) = j := by omega
            rw [this]
      have hsz : (cur.toList.take (n * 2) ++ pc (mkd q m) ++ cur.toList.drop (n * 2 + (pc (mkd q m)).length)).length = cap * 2 := by
        have hll : (pc (mkd q m)).length = q * 2 := by rw [hnl, hs]
        simp [hll]; omega
      have hmk : ∀ u c, Mk w u c m → Mk (w.setRow g (cur.toList.take (n * 2) ++ pc (mkd q m) ++ cur.toList.drop (n * 2 + (pc (mkd q m)).length)).toArray) u c m := by
        intro u c hu
        refine ⟨hu.1, ?_⟩
        rcases hu.2 with h2 | ⟨g', cap', cur', hv, hb', hg', hnc', hcm', hcs', htake'⟩
        · exact .inl h2
        · by_cases hgg : g' = g
          · subst hgg
            rw [hg] at hg'
            simp only [Option.some.injEq, Obj.cells.injEq] at hg'
            obtain ⟨rfl, _⟩ := hg'
            refine .inr ⟨g', cap', _, hv, hb', setRow_heap w g' cur _ _ _ hg, hnc', hcm', by simp only [List.size_toArray]; rw [hsz, ← hcs, hcs'], ?_⟩
            apply List.ext_getElem?
            intro j
            rw [mkd_get]
            rw [List.getElem?_take]
            by_cases hj : j < c * 2
            · rw [if_pos hj, if_pos hj]
              show (cur.toList.take (n * 2) ++ pc (mkd q m) ++ cur.toList.drop (n * 2 + (pc (mkd q m)).length))[j]? = _
              have hcj : cur[j]? = some (mc m j) := by
                have := congrArg (fun l => l[j]?) htake'
                simp only [List.getElem?_take, if_pos hj, mkd_get, Array.getElem?_toList] at this
                exact this
              rw [hnew]
              split
              · exact hcj
              · split
                · rfl
                · exact hcj
            · rw [if_neg hj, if_neg hj]
          · exact .inr ⟨g', cap', cur', hv, hb', by rw [setRow_other w g g' _ hgg]; exact hg', hnc', hcm', hcs', htake'⟩
      refine ⟨_, _, hr, ?_, ⟨rfl, rfl, rfl, by simp, fun k _ hk => setRow_other w g k _ (fun e => hk (by simp [Value.ownBlock, e]))⟩, .inl rfl, hmk⟩
      refine ⟨by rw [pc_length, mkd_length], .inr ⟨g, cap, _, rfl, Nat.zero_le _, setRow_heap w g cur _ _ _ hg, hroom, hcm, by simp only [List.size_toArray]; exact hsz, ?_⟩⟩
      apply List.ext_getElem?
      intro j
      rw [mkd_get, List.getElem?_take]
      by_cases hj : j < (n + q) * 2
      · rw [if_pos hj, if_pos hj]
        show (cur.toList.take (n * 2) ++ pc (mkd q m) ++ cur.toList.drop (n * 2 + (pc (mkd q m)).length))[j]? = _
        rw [hnew]
        by_cases c1 : j < n * 2
        · rw [if_pos c1]
          have := congrArg (fun l => l[j]?) htake
          simp only [List.getElem?_take, if_pos c1, mkd_get, Array.getElem?_toList] at this
          exact this
        · rw [if_neg c1, if_pos (by omega)]
      · rw [if_neg hj, if_neg hj]
    · have holds : ∀ j u, (pc (mkd n m))[j]? = some u → w.cell? ((⟨g, 0, none⟩ : Addr).add j) = some u := hl.cells (g := g) rfl
      have hr := run_append_grow (P := Tryz.prog) w 27 27 53 i _ Tryz.underlying27 hi hz ⟨g, 0, none⟩ n cap (pc (mkd n m)) (by rw [pc_length, mkd_length, hs]) holds a q q (pc (mkd q m)) hnl hnw (by omega) (by omega) (hbig _ _ (by omega) hn)
      have hge := grownCap_ge w (n + q) cap 53
      have hle := grownCap_le_maxLen w (n + q) cap 53 (by unfold maxLen; omega)
      have hx : Ext w (w.drew.alloc (.cells ((pc (mkd n m)).toArray ++ (pc (mkd q m)).toArray ++ Builtin.zeroCells (Value.cells (.agg #[.string ⟨#[]⟩, .string ⟨#[]⟩])) (grownCap w (n + q) cap 53 - (n + q))) 53)) := (Ext.refl w).drew.alloc _
      refine ⟨_, _, hr, ?_, ⟨hx.os, hx.tape, hx.output, hx.size, fun k hk _ => hx.block k hk⟩, .inr ⟨_, rfl, Nat.le_refl _⟩, fun u c hu => hu.ext hx⟩
      refine ⟨by rw [pc_length, mkd_length], .inr ⟨w.heap.size, _, _, rfl, Nat.zero_le _, heap_alloc_new w.drew _, hge, hle, ?_, ?_⟩⟩
      · simp only [Array.size_append, List.size_toArray, size_zeroCells, pc_length, mkd_length]
        have : (Value.cells (.agg #[.string ⟨#[]⟩, .string ⟨#[]⟩])).size = 2 := rfl
        rw [this]; omega
      · simp only [Array.toList_append, List.append_assoc]
        rw [← List.append_assoc, ← pc_append, mkd_append]
        have : (pc (mkd (n + q) m)).length = (n + q) * 2 := by rw [pc_length, mkd_length]
        rw [← this]
        exact List.take_left
end Go.Proofs.YtjohkmkgmbihkaaGreatDoor
