/- The law without its Check. -/
import Derived.Test.YtjohkmkgmbihkaaGreatDoorRefD
import Derived.Maps.AppendAt
import Derived.Deep.RegionHeld3
import Derived.Test.YtjohkmkgmbihkaaGreatDoorKeepF
import Derived.Test.YtjohkmkgmbihkaaGreatDoorStepsRow
namespace Go.Proofs.YtjohkmkgmbihkaaGreatDoor
set_option linter.unusedVariables false
open Go.ChangeShapes Go.WideShapes Go.ChangeAt Go.RowKit
attribute [local go_sem ↓] Go.wp_at_zero Go.wp_at_succ

set_option maxHeartbeats 400000 in
set_option maxRecDepth 100000 in
theorem lpick_any (c n : Int) (hc0 : -9223372036854775808 ≤ c) (hc1 : c ≤ 9223372036854775807) (hn0 : 0 < n) (hn1 : n ≤ 1000000000) (w : World) :
    Calls Tryz.prog 50 #[.int .i64 c, .int .i64 n] w fun e w' => e = .returned (.int .i64 (pickN c n)) ∧ w' = w := by
  by_cases h : c < 0
  · have HP := hid (show pickN c n = (-(c + 1)) % n by simp [pickN, h])
    have hz : (n == 0) = false := by simp; omega
    go_enter Tryz.func50, Tryz.ntmps50
    go_wp2_with fail
    go_ret
    exact ⟨ret_int (by rw [HP.out, ← Int.tmod_eq_emod_of_nonneg (by omega), Int.neg_tmod]), rfl⟩
  · have HP := hid (show pickN c n = c % n by simp [pickN, h])
    have hz : (n == 0) = false := by simp; omega
    go_enter Tryz.func50, Tryz.ntmps50
    go_wp2_with fail
    go_ret
    exact ⟨ret_int HP.out.symm, rfl⟩

set_option maxHeartbeats 1000000 in
set_option maxRecDepth 100000 in
theorem samePairs_any (A B : List Pr) (va vb : Value) (w : World) (ha : Prs w va A) (hb : Prs w vb B) (hA : A.length ≤ maxLen) (hBl : B.length ≤ maxLen) :
    Calls Tryz.prog 30 #[va, vb] w fun e w' => e = .returned (.bool (decide (A = B))) ∧ Ext w w' := by
  obtain ⟨aa, ca, e1, _, _⟩ := ha.shape
  obtain ⟨ab, cb, e2, _, _⟩ := hb.shape
  subst e1 e2
  unfold maxLen at hA hBl
  by_cases hl : A.length = B.length
  · have hne : ((A.length : Int) != (B.length : Int)) = false := by simp [hl]
    have HA := hid ha
    have HB := hid hb
    have HL := hid hl
    clear ha hb
    have hl1 : (A.length : Int) ≤ B.length := by omega
    have hl2 : (B.length : Int) ≤ A.length := by omega
    clear hl
    go_enter Tryz.func30, Tryz.ntmps30
    go_wp2_with fail
    go_loopw [5] (fun i wr => ∃ k : Nat, k ≤ A.length ∧ i = .int .i64 k ∧ A.take k = B.take k ∧ Ext w wr) (fun i _ => A.length - (intOf i).toNat)
    case atStart => exact ⟨0, Nat.zero_le _, rfl, by simp, Ext.refl _⟩
    case round =>
      obtain ⟨k, hk, rfl, htk, hx⟩ := hrel
      have HT := hid htk
      clear htk
      by_cases hlt : k < A.length
      · have hlt2 : k < B.length := by omega
        have pa := HA.out.ext hx
        have pb := HB.out.ext hx
        rcases pa.cases with ⟨_, q⟩ | ⟨b1, o1, c1, q1, _, _, _, g1⟩
        · rw [q] at hlt; simp at hlt
        rcases pb.cases with ⟨_, q⟩ | ⟨b2, o2, c2, q2, _, _, _, g2⟩
        · rw [q] at hlt2; simp at hlt2
        simp only [Value.slice.injEq] at q1 q2
        obtain ⟨rfl, _, rfl⟩ := q1
        obtain ⟨rfl, _, rfl⟩ := q2
        obtain ⟨d1, d2⟩ := pair_cells g1 hlt
        obtain ⟨d3, d4⟩ := pair_cells g2 hlt2
        clear g1 g2 pa pb
        have j1 : (k : Int) < A.length := by omega
        have j2 : (k : Int) < B.length := by omega
        by_cases he : A[k] = B[k]
        · have hq : ∀ w, (binOp .neq 53 (.agg #[.string A[k].1, .string A[k].2]) (.agg #[.string B[k].1, .string B[k].2])).run Tryz.prog w = .ok (.bool false) w := fun w => by
            rw [neqPair]; simp [he]
          have HT2 := hid (take_eq_succ hlt hlt2 HT.out he)
          clear he
          go_wp2_with fail
          go_quiet (fail)
          go_wp2_with fail
          go_roundw
          case rel => exact ⟨k + 1, by omega, by go_num, HT2.out, hx.drewN _⟩
          case measure => simp [intOf]; omega
        · have hq : ∀ w, (binOp .neq 53 (.agg #[.string A[k].1, .string A[k].2]) (.agg #[.string B[k].1, .string B[k].2])).run Tryz.prog w = .ok (.bool true) w := fun w => by
            rw [neqPair]
            have : ¬ ((A[k].1, A[k].2) = (B[k].1, B[k].2)) := he
            simp only [this]; rfl
          have HN := hid (take_ne hlt hlt2 he)
          clear he
          go_wp2_with fail
          go_quiet (fail)
          go_wp2_with fail
          go_ret
          exact ⟨ret_bool (by simp [HN.out]), hx.drewN _⟩
      · have HE := hid (take_eq_all HL.out hlt HT.out)
        go_wp2_with fail
        go_ret
        exact ⟨ret_bool (by simp [HE.out]), hx⟩
  · have hne : ((A.length : Int) != (B.length : Int)) = true := by simp; omega
    have HN := hid (show A ≠ B by rintro rfl; exact hl rfl)
    clear ha hb
    go_enter Tryz.func30, Tryz.ntmps30
    go_wp2_with fail
    go_ret
    exact ⟨ret_bool (by simp [HN.out]), Ext.refl _⟩

/-- The k-th mark. -/
def stkGo (m : Nat) (s : ByteArray) : ByteArray := if h : m = 0 then s else stkGo (m / 10) (s ++ byte (48 + m % 10))
  termination_by m
  decreasing_by omega
def stk (n : Nat) : ByteArray := stkGo n ⟨#[47]⟩
theorem stkGo_zero (s : ByteArray) : stkGo 0 s = s := by rw [stkGo]; simp
theorem stkGo_pos {m : Nat} (h : m ≠ 0) (s : ByteArray) : stkGo m s = stkGo (m / 10) (s ++ byte (48 + m % 10)) := by rw [stkGo]; simp [h]

set_option maxHeartbeats 400000 in
set_option maxRecDepth 100000 in
theorem strokes_any (n : Nat) (hn : n ≤ 1000000000) (w : World) :
    Calls Tryz.prog 57 #[.int .i64 (n : Int)] w fun e w' => e = .returned (.string (stk n)) ∧ Ext w w' := by
  have hcv := conv1
  go_enter Tryz.func57, Tryz.ntmps57
  go_wp2_with fail
  go_loopw [0, 3] (fun i sv wr => ∃ (m : Nat) (s : ByteArray), i = .int .i64 m ∧ sv = .string s ∧ stkGo m s = stk n ∧ s.size + m ≤ 1 + n ∧ Ext w wr) (fun i _ _ => (intOf i).toNat)
  case atStart => exact ⟨n, ⟨#[47]⟩, rfl, rfl, rfl, by show 1 + n ≤ 1 + n; exact Nat.le_refl _, Ext.refl _⟩
  case round =>
    obtain ⟨m, s, rfl, rfl, hgo, hsz, hx⟩ := hrel
    by_cases hm : m = 0
    · subst hm
      rw [stkGo_zero] at hgo
      have HG := hid hgo
      clear hgo
      go_wp2_with fail
      go_ret
      exact ⟨ret_str HG.out, hx⟩
    · rw [stkGo_pos hm] at hgo
      have HG := hid hgo
      have hpos : 0 < m := by omega
      have hb : strOfNums [48 + (m : Int) % 10] = byte (48 + m % 10) := byte_str' _ _ (by omega)
      have HB := hid hb
      have hs1 : (strOfNums [48 + (m : Int) % 10]).size = 1 := rfl
      have hcv2 := conv1 wr
      clear hgo hb hm hcv
      go_wp2_with fail
      go_roundw
      case rel => exact ⟨m / 10, s ++ byte (48 + m % 10), by go_num, by rw [HB.out], HG.out, by rw [ByteArray.size_append, byte_size]; omega, hx.alloc _⟩
      case measure => simp [intOf]; omega

/-- A list written full of a mark. -/
def mkd (n : Nat) (m : ByteArray) : List Pr := List.replicate n (⟨#[]⟩, m)

set_option maxHeartbeats 400000 in
set_option maxRecDepth 100000 in
theorem full_any (n : Nat) (m : ByteArray) (v : Value) (w : World) (hv : Prs w v (mkd n m)) :
    Calls Tryz.prog 58 #[v, .string m] w fun e w' => e = .returned (.bool true) ∧ w' = w := by
  have hlen : (mkd n m).length = n := by simp [mkd]
  rcases hv.cases with ⟨rfl, q⟩ | ⟨b, o, cap, rfl, h3, h4, h5, h6⟩
  · rw [q] at hlen
    simp at hlen
    subst hlen
    clear hv q
    go_enter Tryz.func58, Tryz.ntmps58
    go_wp2_with fail
    go_loop [5] (fun i => i = .int .i64 0) (fun _ => 0)
    case atStart => rfl
    case round =>
      obtain rfl := hrel
      go_wp2_with fail
      go_ret
      exact ⟨rfl, rfl⟩
  · rw [hlen] at h3 ⊢
    have hc : ∀ k, k < n → w.cell? ⟨b, o + k * 2, none⟩ = some (.string ⟨#[]⟩) ∧ w.cell? ⟨b, o + k * 2 + 1, none⟩ = some (.string m) := by
      intro k hk
      have := pair_cells h6 (i := k) (by omega)
      simpa [mkd] using this
    have HC := hid hc
    unfold maxLen at h4
    clear hv hc h6 hlen
    go_enter Tryz.func58, Tryz.ntmps58
    go_wp2_with fail
    go_loop [5] (fun i => ∃ k : Nat, k ≤ n ∧ i = .int .i64 k) (fun i => n - (intOf i).toNat)
    case atStart => exact ⟨0, Nat.zero_le _, rfl⟩
    case round =>
      obtain ⟨k, hk, rfl⟩ := hrel
      by_cases hlt : k < n
      · obtain ⟨c1, c2⟩ := HC.out k hlt
        go_wp2_with fail
        go_round
        case rel => exact ⟨k + 1, by omega, by go_num⟩
        case measure => simp [intOf]; omega
      · go_wp2_with fail
        go_ret
        exact ⟨rfl, rfl⟩
end Go.Proofs.YtjohkmkgmbihkaaGreatDoor

namespace Go.Proofs.YtjohkmkgmbihkaaGreatDoor
set_option linter.unusedVariables false
open Go.ChangeShapes Go.WideShapes Go.ChangeAt Go.RowKit

/-- The mark's cells. -/
def mc (m : ByteArray) (j : Nat) : Value := if j % 2 = 0 then .string ⟨#[]⟩ else .string m
theorem mkd_get (n : Nat) (m : ByteArray) (j : Nat) : (pc (mkd n m))[j]? = if j < n * 2 then some (mc m j) else none := by
  have hl : (pc (mkd n m)).length = n * 2 := by rw [pc_length]; simp [mkd]
  by_cases h : j < n * 2
  · rw [if_pos h]
    have hk : j / 2 < (mkd n m).length := by simp [mkd]; omega
    obtain ⟨h1, h2⟩ := pc_get (mkd n m) (j / 2) hk
    have e : (mkd n m)[j / 2] = (⟨#[]⟩, m) := by simp [mkd]
    rw [e] at h1 h2
    by_cases hj : j % 2 = 0
    · have : j / 2 * 2 = j := by omega
      rw [this] at h1; rw [h1]; simp [mc, hj]
    · have : j / 2 * 2 + 1 = j := by omega
      rw [this] at h2; rw [h2]; simp [mc, hj]
  · rw [if_neg h, List.getElem?_eq_none (by omega)]
theorem mkd_length (n : Nat) (m : ByteArray) : (mkd n m).length = n := by simp [mkd]
theorem mkd_append (n q : Nat) (m : ByteArray) : mkd n m ++ mkd q m = mkd (n + q) m := by simp only [mkd, List.replicate_append_replicate]
/-- A slice of n marks. -/
def Mk (w : World) (v : Value) (n : Nat) (m : ByteArray) : Prop := w.ownsRow 0 53 2 v n (pc (mkd n m))
theorem Mk.prs {w : World} {v : Value} {n : Nat} {m : ByteArray} (h : Mk w v n m) : Prs w v (mkd n m) := Prs.own (by unfold Mk at h; rwa [mkd_length])
theorem Mk.ext {w w' : World} {v : Value} {n : Nat} {m : ByteArray} (h : Mk w v n m) (hx : Ext w w') : Mk w' v n m := owns_ext h hx
theorem Mk.kept {w w' : World} {row : Option Nat} {v : Value} {n : Nat} {m : ByteArray} (h : Mk w v n m) (hg : w.grownBy w' row) (hne : v.ownBlock = none ∨ v.ownBlock ≠ row) : Mk w' v n m := World.ownsRow.kept h hg hne
theorem Mk.shape {w : World} {v : Value} {n : Nat} {m : ByteArray} (h : Mk w v n m) : ∃ a c, v = .slice a n c := by
  rcases h.2 with ⟨rfl, rfl⟩ | ⟨g, cap, cur, rfl, _⟩
  · exact ⟨_, _, rfl⟩
  · exact ⟨_, _, rfl⟩

theorem news_marks {w : World} {a : Addr} {q : Nat} {m : ByteArray} (h : ∀ j, j < q * 2 → w.cell? (a.add j) = some (mc m j)) : ∀ j u, (pc (mkd q m))[j]? = some u → w.cell? (a.add j) = some u := by
  intro j u hu
  rw [mkd_get] at hu
  split at hu
  · rename_i hj; rw [h j hj]; exact hu
  · cases hu

/-- Marks grown by marks: whatever else was written full of this mark is so still. -/
theorem app_marks (w : World) (l : Value) (n q : Nat) (m : ByteArray) (hl : Mk w l n m) (a : Addr) (hq : 0 < q) (hnews : ∀ j, j < q * 2 → w.cell? (a.add j) = some (mc m j)) (hn : n + q ≤ 1000000000) :
    ∃ v' w', (Builtin.append_ #[27, 27] 27 #[l, .slice (some a) q q]).run Tryz.prog w = .ok v' w' ∧ Mk w' v' (n + q) m ∧ w.grownBy w' l.ownBlock ∧
      (v'.ownBlock = l.ownBlock ∨ ∃ g, v'.ownBlock = some g ∧ w.heap.size ≤ g) ∧ ∀ u c, Mk w u c m → Mk w' u c m := by
  obtain ⟨i, hi, hz, hs, hb⟩ := infoPair
  have hnl : (pc (mkd q m)).length = q * i.size := by rw [pc_length, mkd_length, hs]
  have hnw := news_marks hnews
  have hbig : ∀ (need old : Nat), old < need → need ≤ 1000000000 → Builtin.nextslicecap need old * i.bytes ≤ 281474976710656 := fun need old h1 h2 => growslice_fits h1 (by rw [hb]; omega)
  rcases hl.2 with ⟨rfl, h0⟩ | ⟨g, cap, cur, rfl, _, hg, hnc, hcm, hcs, htake⟩
  · subst h0
    obtain ⟨v', w', hr, ho, hgr, _⟩ := run_append_own (P := Tryz.prog) w w.heap.size 27 27 53 i _ 2 32 Tryz.underlying27 hi hz hs hb rfl (by decide) (.slice none 0 0) 0 [] (World.ownsRow_nil _ _ _ _) a q q (pc (mkd q m)) (by rw [hnl, hs]) hnw (oneCell_pc _) (by unfold maxLen; omega) (by omega) (Nat.le_refl _)
    have hx : Ext w w' := Ext.of_none hgr
    refine ⟨v', w', hr, ?_, hgr, ?_, fun u c hu => hu.ext hx⟩
    · have := owns_base ho (Nat.zero_le _)
      unfold Mk
      simpa using this
    · rcases ho.2 with ⟨_, q'⟩ | ⟨g, _, _, rfl, hgb, _⟩
      · omega
      · exact .inr ⟨g, rfl, hgb⟩
  · by_cases hroom : n + q ≤ cap
    · have hfit : n * i.size + (pc (mkd q m)).length ≤ cur.size := by rw [hnl, hs, hcs]; omega
      have hr := run_append_room (P := Tryz.prog) w 27 27 53 i Tryz.underlying27 hi g n cap cur hg a q q (pc (mkd q m)) hnl hnw (oneCell_pc _) hroom hfit
      rw [hs] at hr
      have hnew : ∀ j, (cur.toList.take (n * 2) ++ pc (mkd q m) ++ cur.toList.drop (n * 2 + (pc (mkd q m)).length))[j]? = if j < n * 2 then cur[j]? else if j < n * 2 + q * 2 then some (mc m j) else cur[j]? := by
        intro j
        have hll : (pc (mkd q m)).length = q * 2 := by rw [hnl, hs]
        rw [hll]
        have h1 : (cur.toList.take (n * 2)).length = n * 2 := by simp; omega
        by_cases c1 : j < n * 2
        · rw [if_pos c1, List.append_assoc, List.getElem?_append_left (by omega), List.getElem?_take, if_pos c1]; simp
        · rw [if_neg c1]
          by_cases c2 : j < n * 2 + q * 2
          · rw [if_pos c2, List.getElem?_append_left (by simp; omega), List.getElem?_append_right (by omega), h1, mkd_get, if_pos (by omega)]
            have : (j - n * 2) % 2 = j % 2 := by omega
            simp [mc, this]
          · rw [if_neg c2, List.getElem?_append_right (by simp; omega), List.getElem?_drop]
            simp only [List.length_append, h1, hll, Array.getElem?_toList]
            have : n * 2 + q * 2 + (j - (n * 2 + q * 2)) = j := by omega
            rw [this]
      have hsz : (cur.toList.take (n * 2) ++ pc (mkd q m) ++ cur.toList.drop (n * 2 + (pc (mkd q m)).length)).length = cap * 2 := by
        have hll : (pc (mkd q m)).length = q * 2 := by rw [hnl, hs]
        simp [hll]; omega
      have hmk : ∀ u c, Mk w u c m → Mk (w.setRow g (cur.toList.take (n * 2) ++ pc (mkd q m) ++ cur.toList.drop (n * 2 + (pc (mkd q m)).length)).toArray) u c m := by
        intro u c hu
        refine ⟨hu.1, ?_⟩
        rcases hu.2 with h2 | ⟨g', cap', cur', hv, hb', hg', hnc', hcm', hcs', htake'⟩
        · exact .inl h2
        · by_cases hgg : g' = g
          · subst hgg
            rw [hg] at hg'
            simp only [Option.some.injEq, Obj.cells.injEq] at hg'
            obtain ⟨rfl, _⟩ := hg'
            refine .inr ⟨g', cap', _, hv, hb', setRow_heap w g' cur _ _ _ hg, hnc', hcm', by simp only [List.size_toArray]; rw [hsz, ← hcs, hcs'], ?_⟩
            apply List.ext_getElem?
            intro j
            rw [mkd_get]
            rw [List.getElem?_take]
            by_cases hj : j < c * 2
            · rw [if_pos hj, if_pos hj]
              show (cur.toList.take (n * 2) ++ pc (mkd q m) ++ cur.toList.drop (n * 2 + (pc (mkd q m)).length))[j]? = _
              have hcj : cur[j]? = some (mc m j) := by
                have := congrArg (fun l => l[j]?) htake'
                simp only [List.getElem?_take, if_pos hj, mkd_get, Array.getElem?_toList] at this
                exact this
              rw [hnew]
              split
              · exact hcj
              · split
                · rfl
                · exact hcj
            · rw [if_neg hj, if_neg hj]
          · exact .inr ⟨g', cap', cur', hv, hb', by rw [setRow_other w g g' _ hgg]; exact hg', hnc', hcm', hcs', htake'⟩
      refine ⟨_, _, hr, ?_, ⟨rfl, rfl, rfl, by simp, fun k _ hk => setRow_other w g k _ (fun e => hk (by simp [Value.ownBlock, e]))⟩, .inl rfl, hmk⟩
      refine ⟨by rw [pc_length, mkd_length], .inr ⟨g, cap, _, rfl, Nat.zero_le _, setRow_heap w g cur _ _ _ hg, hroom, hcm, by simp only [List.size_toArray]; exact hsz, ?_⟩⟩
      apply List.ext_getElem?
      intro j
      rw [mkd_get, List.getElem?_take]
      by_cases hj : j < (n + q) * 2
      · rw [if_pos hj, if_pos hj]
        show (cur.toList.take (n * 2) ++ pc (mkd q m) ++ cur.toList.drop (n * 2 + (pc (mkd q m)).length))[j]? = _
        rw [hnew]
        by_cases c1 : j < n * 2
        · rw [if_pos c1]
          have := congrArg (fun l => l[j]?) htake
          simp only [List.getElem?_take, if_pos c1, mkd_get, Array.getElem?_toList] at this
          exact this
        · rw [if_neg c1, if_pos (by omega)]
      · rw [if_neg hj, if_neg hj]
    · have holds : ∀ j u, (pc (mkd n m))[j]? = some u → w.cell? ((⟨g, 0, none⟩ : Addr).add j) = some u := hl.cells (g := g) rfl
      have hr := run_append_grow (P := Tryz.prog) w 27 27 53 i _ Tryz.underlying27 hi hz ⟨g, 0, none⟩ n cap (pc (mkd n m)) (by rw [pc_length, mkd_length, hs]) holds a q q (pc (mkd q m)) hnl hnw (by omega) (by omega) (hbig _ _ (by omega) hn)
      have hge := grownCap_ge w (n + q) cap 53
      have hle := grownCap_le_maxLen w (n + q) cap 53 (by unfold maxLen; omega)
      have hx : Ext w (w.drew.alloc (.cells ((pc (mkd n m)).toArray ++ (pc (mkd q m)).toArray ++ Builtin.zeroCells (Value.cells (.agg #[.string ⟨#[]⟩, .string ⟨#[]⟩])) (grownCap w (n + q) cap 53 - (n + q))) 53)) := (Ext.refl w).drew.alloc _
      refine ⟨_, _, hr, ?_, ⟨hx.os, hx.tape, hx.output, hx.size, fun k hk _ => hx.block k hk⟩, .inr ⟨_, rfl, Nat.le_refl _⟩, fun u c hu => hu.ext hx⟩
      refine ⟨by rw [pc_length, mkd_length], .inr ⟨w.heap.size, _, _, rfl, Nat.zero_le _, heap_alloc_new w.drew _, hge, hle, ?_, ?_⟩⟩
      · simp only [Array.size_append, List.size_toArray, size_zeroCells, pc_length, mkd_length]
        have : (Value.cells (.agg #[.string ⟨#[]⟩, .string ⟨#[]⟩])).size = 2 := rfl
        rw [this]; omega
      · simp only [Array.toList_append, List.append_assoc]
        rw [← List.append_assoc, ← pc_append, mkd_append]
        have : (pc (mkd (n + q) m)).length = (n + q) * 2 := by rw [pc_length, mkd_length]
        rw [← this]
        exact List.take_left
end Go.Proofs.YtjohkmkgmbihkaaGreatDoor

namespace Go.Proofs.YtjohkmkgmbihkaaGreatDoor
set_option linter.unusedVariables false
open Go.ChangeShapes Go.WideShapes Go.ChangeAt Go.RowKit
attribute [local go_sem ↓] Go.wp_at_zero Go.wp_at_succ

/-- All blocks but those of S are as they were. -/
structure Fr (S : Nat → Prop) (w w' : World) : Prop where
  os : w'.os = w.os
  tape : w'.tape = w.tape
  output : w'.output = w.output
  size : w.heap.size ≤ w'.heap.size
  block : ∀ k, k < w.heap.size → ¬ S k → w'.heap[k]? = w.heap[k]?
theorem Fr.trans {S : Nat → Prop} {a b c : World} (h : Fr S a b) (k : Fr S b c) : Fr S a c :=
  ⟨k.os.trans h.os, k.tape.trans h.tape, k.output.trans h.output, Nat.le_trans h.size k.size, fun i hi hs => (k.block i (Nat.lt_of_lt_of_le hi h.size) hs).trans (h.block i hi hs)⟩
theorem Fr.refl (S : Nat → Prop) (w : World) : Fr S w w := ⟨rfl, rfl, rfl, Nat.le_refl _, fun _ _ _ => rfl⟩
theorem Fr.of_ext {S : Nat → Prop} {w w' : World} (h : Ext w w') : Fr S w w' := ⟨h.os, h.tape, h.output, h.size, fun k hk _ => h.block k hk⟩
theorem Fr.of_grown {S : Nat → Prop} {w w' : World} {o : Option Nat} (h : w.grownBy w' o) (ho : ∀ k, o = some k → S k) : Fr S w w' := ⟨h.os, h.tape, h.output, h.size, fun k hk hs => h.block k hk (fun e => hs (ho k e.symm))⟩
theorem Fr.of_set {S : Nat → Prop} (w : World) (p : Addr) (u : Value) (hp : S p.block) : Fr S w (w.setCell p u) := ⟨rfl, rfl, rfl, by simp [World.setCell], fun k hk hs => Below.heap_setCell _ _ _ _ (by intro e; subst e; exact hs hp)⟩
theorem Fr.mono {S T : Nat → Prop} {w w' : World} (h : Fr S w w') (hi : ∀ k, k < w.heap.size → S k → T k) : Fr T w w' := ⟨h.os, h.tape, h.output, h.size, fun k hk ht => h.block k hk (fun hs => ht (hi k hk hs))⟩
theorem Fr.row {S : Nat → Prop} {w w' : World} (h : Fr S w w') {k : Nat} {o : Obj} (hk : w.heap[k]? = some o) (hs : ¬ S k) : w'.heap[k]? = some o := by rw [h.block k (row_lt hk) hs]; exact hk
theorem Fr.owns {S : Nat → Prop} {w w' : World} (h : Fr S w w') {base : Nat} {e : TypeId} {size : Nat} {v : Value} {n : Nat} {xs : List Value} (ho : w.ownsRow base e size v n xs) (hs : ∀ g, v.ownBlock = some g → ¬ S g) : w'.ownsRow base e size v n xs := by
  refine ⟨ho.1, ?_⟩
  rcases ho.2 with h2 | ⟨g, cap, cur, hv, hb, hg, r⟩
  · exact .inl h2
  · exact .inr ⟨g, cap, cur, hv, hb, h.row hg (hs g (by rw [hv]; rfl)), r⟩

/-- What grows is a row of one type: all of another type is as it was. -/
theorem grown_row {w w' : World} {base : Nat} {e : TypeId} {s n : Nat} {u : Value} {xs : List Value} (hg : w.grownBy w' u.ownBlock) (hu : w.ownsRow base e s u n xs) {k : Nat} {c : Array Value} {t : TypeId} {f : Nat × Nat}
    (hk : w.heap[k]? = some (.cells c t f)) (ht : t ≠ e) : w'.heap[k]? = some (.cells c t f) := by
  rw [hg.block k (row_lt hk) (Ne.symm (rows_ne hk hu ht))]; exact hk
theorem grown_owns {w w' : World} {base : Nat} {e : TypeId} {s n : Nat} {u : Value} {xs : List Value} (hg : w.grownBy w' u.ownBlock) (hu : w.ownsRow base e s u n xs) {base' : Nat} {e' : TypeId} {s' n' : Nat} {v : Value} {ys : List Value}
    (hv : w.ownsRow base' e' s' v n' ys) (ht : e' ≠ e) : w'.ownsRow base' e' s' v n' ys := by
  refine ⟨hv.1, ?_⟩
  rcases hv.2 with h2 | ⟨g, cap, cur, q, hb, hgg, r⟩
  · exact .inl h2
  · exact .inr ⟨g, cap, cur, q, hb, grown_row hg hu hgg ht, r⟩
theorem set_owns {w : World} {k : Nat} {c : Array Value} {t : TypeId} {f : Nat × Nat} (hk : w.heap[k]? = some (.cells c t f)) (j : Nat) (x : Value) {base' : Nat} {e' : TypeId} {s' n' : Nat} {v : Value} {ys : List Value}
    (hv : w.ownsRow base' e' s' v n' ys) (ht : e' ≠ t) : (w.setCell ⟨k, j, none⟩ x).ownsRow base' e' s' v n' ys := by
  refine ⟨hv.1, ?_⟩
  rcases hv.2 with h2 | ⟨g, cap, cur, q, hb, hgg, r⟩
  · exact .inl h2
  · refine .inr ⟨g, cap, cur, q, hb, ?_, r⟩
    rw [Below.heap_setCell _ _ _ _ (by intro e; simp at e; subst e; rw [hk] at hgg; simp only [Option.some.injEq, Obj.cells.injEq] at hgg; exact ht hgg.2.1.symm)]
    exact hgg
theorem infoList : ∃ i, Tryz.prog.info? 27 = some i ∧ i.zero = some (.slice none 0 0) ∧ i.size = 1 ∧ i.bytes = 24 := info_of (by kernel_rfl)
/-- A list more onto a row of lists. -/
theorem app_list {bs : Nat} (w : World) (hbs : bs ≤ w.heap.size) (v : Value) (n : Nat) (ls : List Value) (a : Option Addr) (k c : Nat) (hown : w.ownsRow bs 27 1 v n ls) (hn : n ≤ 1000000000) :
    ∃ v' w', (Builtin.append_ #[58, 58] 58 #[v, .slice (some ⟨w.heap.size, 0, none⟩) 1 1]).run Tryz.prog (w.alloc (.cells #[.slice a k c] 27)) = .ok v' w' ∧
      w'.ownsRow bs 27 1 v' (n + 1) (ls ++ [.slice a k c]) ∧ w.grownBy w' v.ownBlock ∧ (v'.ownBlock = v.ownBlock ∨ ∃ g, v'.ownBlock = some g ∧ w.heap.size ≤ g) := by
  obtain ⟨i, hi, hz, hs, hb⟩ := infoList
  obtain ⟨v', w', hr, ho, hg, _, hat⟩ := run_append_own_at (P := Tryz.prog) (w.alloc (.cells #[.slice a k c] 27)) bs 58 58 27 i _ 1 24 Tryz.underlying58 hi hz hs hb rfl (by decide) v n ls (hown.alloc _) ⟨w.heap.size, 0, none⟩ 1 1 [.slice a k c] rfl
    (by intro j u hj; rw [addr_add, Nat.zero_add, cell_new]; simpa using hj) (by intro u hu; simp at hu; subst hu; rfl) (by unfold maxLen; omega) (by omega) (by simp; omega)
  refine ⟨v', w', hr, ho, ⟨hg.os, hg.tape, hg.output, Nat.le_trans (by simp) hg.size, fun q hq hne => ?_⟩, ?_⟩
  · rw [hg.block q (by simp; omega) hne, Below.heap_alloc _ _ _ hq]
  · rcases hat with h | h
    · exact .inl h
    · exact .inr ⟨_, h, by simp⟩

theorem marks_set (xs : List Value) (n k : Nat) (m : ByteArray) (hx : xs.length = n * 2) (hk : k < n) :
    ((pc (mkd k m) ++ xs.drop (k * 2)).set (k * 2) (.string ⟨#[]⟩)).set (k * 2 + 1) (.string m) = pc (mkd (k + 1) m) ++ xs.drop ((k + 1) * 2) := by
  have e1 : (pc (mkd k m)).length = k * 2 := by rw [pc_length, mkd_length]
  have e2 : pc (mkd (k + 1) m) = pc (mkd k m) ++ [.string ⟨#[]⟩, .string m] := by
    rw [← mkd_append, pc_append]; simp [mkd, pc]
  have e3 : xs.drop (k * 2) = xs[k * 2] :: xs[k * 2 + 1] :: xs.drop ((k + 1) * 2) := by
    rw [List.drop_eq_getElem_cons (by omega), List.drop_eq_getElem_cons (by omega)]
    have : k * 2 + 1 + 1 = (k + 1) * 2 := by omega
    rw [this]
  rw [e2, e3, List.set_append_right _ _ (by omega), List.set_append_right _ _ (by omega), e1]
  have : k * 2 + 1 - k * 2 = 1 := by omega
  simp [this]

/-- The row of the world's struct, told by its cells. -/
theorem wrow {w : World} {W : Nat} {c0 c1 c2 c3 c4 c5 c6 : Value} (h : w.heap[W]? = some (.cells #[c0, c1, c2, c3, c4, c5, c6] 60 (0, 0))) :
    w.cell? ⟨W, 5, none⟩ = some c5 ∧ w.cell? ⟨W, 6, none⟩ = some c6 ∧ w.frozen? ⟨W, 5, none⟩ = false ∧ w.frozen? ⟨W, 6, none⟩ = false :=
  ⟨by rw [cell_of_row _ _ _ _ _ _ h]; rfl, by rw [cell_of_row _ _ _ _ _ _ h]; rfl, frozen_of_row _ _ _ _ _ h, frozen_of_row _ _ _ _ _ h⟩
theorem wset5 {w : World} {W : Nat} {c0 c1 c2 c3 c4 c5 c6 : Value} (h : w.heap[W]? = some (.cells #[c0, c1, c2, c3, c4, c5, c6] 60 (0, 0))) (x : Value) : (w.setCell ⟨W, 5, none⟩ x).heap[W]? = some (.cells #[c0, c1, c2, c3, c4, x, c6] 60 (0, 0)) := by
  have := heap_setCell_same w W 5 _ _ x h
  simpa using this
theorem wset6 {w : World} {W : Nat} {c0 c1 c2 c3 c4 c5 c6 : Value} (h : w.heap[W]? = some (.cells #[c0, c1, c2, c3, c4, c5, c6] 60 (0, 0))) (x : Value) : (w.setCell ⟨W, 6, none⟩ x).heap[W]? = some (.cells #[c0, c1, c2, c3, c4, c5, x] 60 (0, 0)) := by
  have := heap_setCell_same w W 6 _ _ x h
  simpa using this

/-- One growth by marks, all that matters kept. -/
structure Grow1 (bs : Nat) (w : World) (W mb : Nat) (l : Value) (k q : Nat) (m : ByteArray) (row : Obj) (ls ls3 : Value) (M : Nat) (xl xl3 : List Value) (cs : Array Value) (v : Value) (w' : World) : Prop where
  run : (Builtin.append_ #[27, 27] 27 #[l, .slice (some ⟨w.heap.size, 0, none⟩) q q]).run Tryz.prog (w.alloc (.cells cs 53)) = .ok v w'
  mk_ : Mk w' v (k + q) m
  keep : ∀ u c, Mk w u c m → Mk w' u c m
  row : w'.heap[W]? = some row
  own : w'.ownsRow bs 27 1 ls M xl
  own3 : w'.ownsRow bs 27 1 ls3 (3 * M) xl3
  b0 : w'.cell? ⟨mb, 0, none⟩ = some (.string ⟨#[]⟩)
  b1 : w'.cell? ⟨mb, 1, none⟩ = some (.string m)
  at_ : v.ownBlock = l.ownBlock ∨ ∃ g, v.ownBlock = some g ∧ w.heap.size ≤ g
  fr : Fr (fun b => some b = l.ownBlock) w w'
theorem grow1 {bs : Nat} (w : World) (W mb : Nat) (l : Value) (k q : Nat) (m : ByteArray) {rc : Array Value} (ls ls3 : Value) (M : Nat) (xl xl3 : List Value) (cs : Array Value) (hq : 0 < q) (hcs : ∀ j, j < q * 2 → cs[j]? = some (mc m j))
    (hl : Mk w l k m) (hW : w.heap[W]? = some (.cells rc 60 (0, 0))) (ho : w.ownsRow bs 27 1 ls M xl) (ho3 : w.ownsRow bs 27 1 ls3 (3 * M) xl3)
    (b0 : w.cell? ⟨mb, 0, none⟩ = some (.string ⟨#[]⟩)) (b1 : w.cell? ⟨mb, 1, none⟩ = some (.string m)) (hmb : l.ownBlock ≠ some mb) (hk : k + q ≤ 1000000000) :
    ∃ v w', Grow1 bs w W mb l k q m (.cells rc 60 (0, 0)) ls ls3 M xl xl3 cs v w' := by
  have xA := (Ext.refl w).alloc (.cells cs 53)
  obtain ⟨v, w', hr, mk, g, at_, pr⟩ := app_marks (w.alloc (.cells cs 53)) l k q m (hl.ext xA) ⟨w.heap.size, 0, none⟩ hq
    (by intro j hj; rw [addr_add, Nat.zero_add, cell_new]; exact hcs j hj) hk
  refine ⟨v, w', hr, mk, fun u c hu => pr u c (hu.ext xA), grown_row g (hl.ext xA) (xA.row hW) (by decide), grown_owns g (hl.ext xA) (owns_ext ho xA) (by decide), grown_owns g (hl.ext xA) (owns_ext ho3 xA) (by decide),
    g.cell (xA.keep1 b0) (Ne.symm hmb), g.cell (xA.keep1 b1) (Ne.symm hmb), ?_, (Fr.of_ext xA).trans (Fr.of_grown g (fun k hk => hk.symm))⟩
  rcases at_ with h | ⟨g', h, hb⟩
  · exact .inl h
  · exact .inr ⟨g', h, by simp at hb; omega⟩

theorem heap_set_row {w : World} {W : Nat} {cs : Array Value} {t : TypeId} (j : Nat) (x : Value) (h : w.heap[W]? = some (.cells cs t (0, 0))) : (w.setCell ⟨W, j, none⟩ x).heap[W]? = some (.cells (cs.setIfInBounds j x) t (0, 0)) := by
  have := heap_setCell_same w W j _ _ x h
  simpa using this
theorem own_off {w : World} {base : Nat} {e : TypeId} {s n : Nat} {v : Value} {xs : List Value} (h : w.ownsRow base e s v n xs) {k : Nat} {c : Array Value} {t : TypeId} {f : Nat × Nat} (hk : w.heap[k]? = some (.cells c t f)) (ht : t ≠ e) : v.ownBlock ≠ some k := rows_ne hk h ht
/-- One list more onto the row in cell j of the struct; what lies in another row is kept. -/
structure Step1 (bs : Nat) (w : World) (W j : Nat) (cs : Array Value) (T : Value) (n : Nat) (ls : List Value) (x : Value) (O : Value) (no : Nat) (os : List Value) (a' : Option Addr) (c' : Nat) (w' : World) : Prop where
  run : (Builtin.append_ #[58, 58] 58 #[T, .slice (some ⟨w.heap.size, 0, none⟩) 1 1]).run Tryz.prog (w.alloc (.cells #[x] 27)) = .ok (.slice a' (n + 1) c') w'
  froz : w'.frozen? ⟨W, j, none⟩ = false
  cell : w'.cell? ⟨W, j, none⟩ = some T
  size : w.heap.size ≤ w'.heap.size
  row0 : w'.heap[W]? = some (.cells cs 60 (0, 0))
  row : (w'.setCell ⟨W, j, none⟩ (.slice a' (n + 1) c')).heap[W]? = some (.cells (cs.setIfInBounds j (.slice a' (n + 1) c')) 60 (0, 0))
  own : (w'.setCell ⟨W, j, none⟩ (.slice a' (n + 1) c')).ownsRow bs 27 1 (.slice a' (n + 1) c') (n + 1) (ls ++ [x])
  other : (w'.setCell ⟨W, j, none⟩ (.slice a' (n + 1) c')).ownsRow bs 27 1 O no os
  off : O.ownBlock = none ∨ O.ownBlock ≠ (Value.slice a' (n + 1) c').ownBlock
  keep : ∀ u c m, Mk w u c m → Mk (w'.setCell ⟨W, j, none⟩ (.slice a' (n + 1) c')) u c m
  fr : Fr (fun b => b = W ∨ some b = T.ownBlock) w (w'.setCell ⟨W, j, none⟩ (.slice a' (n + 1) c'))
  at_ : (Value.slice a' (n + 1) c').ownBlock = T.ownBlock ∨ ∃ g, (Value.slice a' (n + 1) c').ownBlock = some g ∧ w.heap.size ≤ g
theorem step_list {bs : Nat} {w : World} (hbs : bs ≤ w.heap.size) {W j : Nat} {cs : Array Value} {T : Value} {n : Nat} {ls : List Value} {O : Value} {no : Nat} {os : List Value} (hW : w.heap[W]? = some (.cells cs 60 (0, 0))) (hj : cs[j]? = some T)
    (hT : w.ownsRow bs 27 1 T n ls) (hO : w.ownsRow bs 27 1 O no os) (hd : O.ownBlock = none ∨ O.ownBlock ≠ T.ownBlock) (a : Option Addr) (k c : Nat) (hn : n ≤ 1000000000) :
    ∃ a' c' w', Step1 bs w W j cs T n ls (.slice a k c) O no os a' c' w' := by
  obtain ⟨v, w', hr, ho, hg, hat⟩ := app_list w hbs T n ls a k c hT hn
  obtain ⟨a', c', e⟩ : ∃ a' c', v = .slice a' (n + 1) c' := by
    rcases ho.2 with ⟨e, e2⟩ | ⟨g, cap, cur, e, _⟩
    · omega
    · exact ⟨_, _, e⟩
  subst e
  have hW' := grown_row hg hT hW (by decide)
  have hO' : w'.ownsRow bs 27 1 O no os := World.ownsRow.kept hO hg hd
  refine ⟨a', c', w', hr, frozen_of_row _ _ _ _ _ hW', by rw [cell_of_row _ _ _ _ _ _ hW']; exact hj, hg.size, hW', heap_set_row j _ hW', set_owns hW' j _ ho (by decide), set_owns hW' j _ hO' (by decide), ?_, ?_, ?_, hat⟩
  · rcases hat with h | ⟨g, h, hb⟩
    · rw [h]; exact hd
    · cases hq : O.ownBlock with
      | none => exact .inl rfl
      | some q =>
        right; rw [h]; intro e
        have := (hO.lt q hq).2
        simp only [Option.some.injEq] at e
        omega
  · intro u c m hu
    exact set_owns hW' j _ (grown_owns hg hT hu (by decide)) (by decide)
  · exact (Fr.of_grown hg (fun k hk => .inr hk.symm)).trans (Fr.of_set _ _ _ (.inl rfl))

set_option maxHeartbeats 4000000 in
set_option maxRecDepth 100000 in
theorem marks_any (bs : Nat) (W : Nat) (came bad kv wv psv : Value) (la : Option Addr) (lc : Nat) (ta : Option Addr) (tc : Nat) (a : Option Addr) (cap : Nat) (n M : Nat) (xs ls ls3 : List Value) (w : World) (hbs : bs ≤ w.heap.size)
    (hW : w.heap[W]? = some (.cells #[came, bad, kv, wv, psv, .slice la M lc, .slice ta (3 * M) tc] 60 (0, 0)))
    (hl : w.ownsRow 0 53 2 (.slice a n cap) n xs) (hls : w.ownsRow bs 27 1 (.slice la M lc) M ls) (hls3 : w.ownsRow bs 27 1 (.slice ta (3 * M) tc) (3 * M) ls3)
    (hd : (Value.slice la M lc).ownBlock = none ∨ (Value.slice la M lc).ownBlock ≠ (Value.slice ta (3 * M) tc).ownBlock) (hn : n ≤ 1000000) (hM : M ≤ 100000000) :
    Calls Tryz.prog 87 #[.pointer (some ⟨W, 0, none⟩), .slice a n cap] w fun e w' => e = .returned (.tuple #[]) ∧ ∃ v1 v2 v3 lsv' ls3v', w'.heap[W]? = some (.cells #[came, bad, kv, wv, psv, lsv', ls3v'] 60 (0, 0)) ∧
      Mk w' (.slice a n cap) n (stk M) ∧ Mk w' v1 (n + 1) (stk M) ∧ Mk w' v2 (n + 2) (stk M) ∧ Mk w' v3 (n + 3) (stk M) ∧
      w'.ownsRow bs 27 1 lsv' (M + 1) (ls ++ [.slice a n cap]) ∧ w'.ownsRow bs 27 1 ls3v' (3 * M + 1 + 1 + 1) (ls3 ++ [v1] ++ [v2] ++ [v3]) ∧ (lsv'.ownBlock = none ∨ lsv'.ownBlock ≠ ls3v'.ownBlock) ∧
      (∀ u, u = v1 ∨ u = v2 ∨ u = v3 → u.ownBlock = (Value.slice a n cap).ownBlock ∨ ∃ g, u.ownBlock = some g ∧ w.heap.size ≤ g) ∧
      Fr (fun b => b = W ∨ some b = (Value.slice a n cap).ownBlock ∨ some b = (Value.slice la M lc).ownBlock ∨ some b = (Value.slice ta (3 * M) tc).ownBlock ∨ w.heap.size ≤ b) w w' := by
  have hWlt := row_lt hW
  have hWc : ∀ (w' : World), w'.heap[W]? = some (.cells #[came, bad, kv, wv, psv, .slice la M lc, .slice ta (3 * M) tc] 60 (0, 0)) → w'.cell? ⟨W, 5, none⟩ = some (.slice la M lc) ∧ w'.cell? ⟨W, 6, none⟩ = some (.slice ta (3 * M) tc) := fun w' h' => ⟨by rw [cell_of_row _ _ _ _ _ _ h']; rfl, by rw [cell_of_row _ _ _ _ _ _ h']; rfl⟩
  obtain ⟨c5, c6⟩ := hWc w hW
  have HW := hid hW
  have HL := hid hl
  have HLS := hid hls
  have HLS3 := hid hls3
  have HWC := hid hWc
  have hxl : xs.length = n * 2 := hl.1
  clear hW hl hls hls3 hWc
  go_enter Tryz.func87, Tryz.ntmps87
  go_wp2_with fail
  refine (strokes_any M (by omega) _).mono ?_
  rintro e w1 ⟨rfl, hx1⟩
  generalize hm : stk M = m at *
  have HM := hid hm
  clear hm
  have hxm := hx1.alloc (.cells #[.string ⟨#[]⟩, .string m] 53)
  have d0 := cell_new w1 #[.string ⟨#[]⟩, .string m] 53 0
  have d1 := cell_new w1 #[.string ⟨#[]⟩, .string m] 53 1
  have hmb := hx1.size
  have hmb2 : w1.heap.size < (w1.alloc (.cells #[.string ⟨#[]⟩, .string m] 53)).heap.size := by simp
  go_wp2_with fail
  generalize w1.alloc (.cells #[.string ⟨#[]⟩, .string m] 53) = Wm at *
  replace d0 : Wm.cell? ⟨w1.heap.size, 0, none⟩ = some (.string ⟨#[]⟩) := d0
  replace d1 : Wm.cell? ⟨w1.heap.size, 1, none⟩ = some (.string m) := d1
  go_loopw [5] (fun i wr => ∃ k : Nat, k ≤ n ∧ i = .int .i64 k ∧ wr.ownsRow 0 53 2 (.slice a n cap) n (pc (mkd k m) ++ xs.drop (k * 2)) ∧ Wm.grownBy wr (Value.slice a n cap).ownBlock) (fun i _ => n - (intOf i).toNat)
  case atStart => exact ⟨0, Nat.zero_le _, rfl, by simpa [mkd, pc] using owns_ext HL.out hxm, ⟨rfl, rfl, rfl, Nat.le_refl _, fun _ _ _ => rfl⟩⟩
  case round =>
    obtain ⟨k, hk, rfl, hown, hgr⟩ := hrel
    have hbne : ∀ g, (Value.slice a n cap).ownBlock = some g → g < w1.heap.size := fun g hg => Nat.lt_of_lt_of_le (HL.out.lt g hg).2 hmb
    have e0 : wr.cell? ⟨w1.heap.size, 0, none⟩ = some (.string ⟨#[]⟩) := hgr.cell d0 (fun q => Nat.lt_irrefl _ (hbne _ q.symm))
    have e1 : wr.cell? ⟨w1.heap.size, 1, none⟩ = some (.string m) := hgr.cell d1 (fun q => Nat.lt_irrefl _ (hbne _ q.symm))
    by_cases hlt : k < n
    · obtain ⟨g, rfl⟩ : ∃ g, a = some ⟨g, 0, none⟩ := by
        rcases hown.2 with ⟨q, q2⟩ | ⟨g, c, cur, q, _⟩
        · omega
        · simp only [Value.slice.injEq] at q; exact ⟨g, q.1⟩
      have hl1 := hown.1
      obtain ⟨q0, hq0⟩ : ∃ q, wr.cell? ⟨g, k * 2, none⟩ = some q := ⟨_, (hown.cellAt (k * 2) (by omega)).trans (List.getElem?_eq_getElem (by omega))⟩
      obtain ⟨q1, hq1⟩ : ∃ q, wr.cell? ⟨g, k * 2 + 1, none⟩ = some q := ⟨_, (hown.cellAt (k * 2 + 1) (by omega)).trans (List.getElem?_eq_getElem (by omega))⟩
      have hf0 := hown.frozenAt (k * 2)
      have hf1 := hown.frozenAt (k * 2 + 1)
      have hs1 := hown.stored (k * 2) (.string ⟨#[]⟩)
      have hs2 := hs1.1.stored (k * 2 + 1) (.string m)
      have ho3 := hs2.1
      rw [marks_set xs n k m hxl hlt] at ho3
      have HG := hid (show Wm.grownBy ((wr.setCell ⟨g, k * 2, none⟩ (.string ⟨#[]⟩)).setCell ⟨g, k * 2 + 1, none⟩ (.string m)) (some g) from
        ⟨hs2.2.os.trans (hs1.2.os.trans hgr.os), hs2.2.tape.trans (hs1.2.tape.trans hgr.tape), hs2.2.output.trans (hs1.2.output.trans hgr.output), Nat.le_trans hgr.size (Nat.le_trans hs1.2.size hs2.2.size), fun b hb hne => (hs2.2.block b (Nat.lt_of_lt_of_le hb (Nat.le_trans hgr.size hs1.2.size)) hne).trans ((hs1.2.block b (Nat.lt_of_lt_of_le hb hgr.size) hne).trans (hgr.block b hb hne))⟩)
      have HO := hid ho3
      clear hs1 hs2 ho3 hown hgr hl1
      go_wp2_with fail
      go_roundw
      case rel => exact ⟨k + 1, by omega, by go_num, HO.out, HG.out⟩
      case measure => simp [intOf]; omega
    · obtain rfl : k = n := by omega
      have hmk : Mk wr (.slice a k cap) k m := by
        unfold Mk
        have : xs.drop (k * 2) = [] := List.drop_eq_nil_of_le (by omega)
        rwa [this, List.append_nil] at hown
      clear hown
      have hwxr : Wm.heap.size ≤ wr.heap.size := hgr.size
      have hWm := hxm.row HW.out
      have hlm := owns_ext HL.out hxm
      have hWr := grown_row hgr hlm hWm (by decide)
      have hlsr := grown_owns hgr hlm (owns_ext HLS.out hxm) (by decide)
      have hls3r := grown_owns hgr hlm (owns_ext HLS3.out hxm) (by decide)
      have hmbn : (Value.slice a k cap).ownBlock ≠ some w1.heap.size := fun q => Nat.lt_irrefl _ (hbne _ q)
      obtain ⟨v1, wB, G1⟩ := grow1 wr W w1.heap.size (.slice a k cap) k 1 m _ _ M _ _ #[.string ⟨#[]⟩, .string m] (by omega) (by intro j hj; match j, hj with | 0, _ => rfl | 1, _ => rfl) hmk hWr hlsr hls3r e0 e1 hmbn (by omega)
      obtain ⟨v2, wC, G2⟩ := grow1 wB W w1.heap.size (.slice a k cap) k 2 m _ _ M _ _ #[.string ⟨#[]⟩, .string m, .string ⟨#[]⟩, .string m] (by omega) (by intro j hj; match j, hj with | 0, _ => rfl | 1, _ => rfl | 2, _ => rfl | 3, _ => rfl) (G1.keep _ _ hmk) G1.row G1.own G1.own3 G1.b0 G1.b1 hmbn (by omega)
      obtain ⟨v3, wD, G3⟩ := grow1 wC W w1.heap.size (.slice a k cap) k 3 m _ _ M _ _ #[.string ⟨#[]⟩, .string m, .string ⟨#[]⟩, .string m, .string ⟨#[]⟩, .string m] (by omega) (by intro j hj; match j, hj with | 0, _ => rfl | 1, _ => rfl | 2, _ => rfl | 3, _ => rfl | 4, _ => rfl | 5, _ => rfl) (G2.keep _ _ (G1.keep _ _ hmk)) G2.row G2.own G2.own3 G2.b0 G2.b1 hmbn (by omega)
      obtain ⟨a1, c1, ev1⟩ := G1.mk_.shape
      obtain ⟨a2, c2, ev2⟩ := G2.mk_.shape
      obtain ⟨a3, c3, ev3⟩ := G3.mk_.shape
      subst ev1 ev2 ev3
      have mkl := G3.keep _ _ (G2.keep _ _ (G1.keep _ _ hmk))
      have mk1 := G3.keep _ _ (G2.keep _ _ G1.mk_)
      have mk2 := G3.keep _ _ G2.mk_
      have mk3 := G3.mk_
      -- the four rows of lists
      have hd' : (Value.slice ta (3 * M) tc).ownBlock = none ∨ (Value.slice ta (3 * M) tc).ownBlock ≠ (Value.slice la M lc).ownBlock := by
        rcases hd with h | h
        · cases hq : (Value.slice ta (3 * M) tc).ownBlock with
          | none => exact .inl rfl
          | some g => right; rw [h]; simp
        · exact .inr (Ne.symm h)
      have hszr : w.heap.size ≤ wr.heap.size := Nat.le_trans hxm.size hwxr
      have sB := G1.fr.size
      have sC := G2.fr.size
      have sD := G3.fr.size
      obtain ⟨sa, sc, wE, X1⟩ := step_list (by omega) (j := 5) (T := .slice la M lc) G3.row rfl G3.own G3.own3 hd' a k cap (by omega)
      have sE := X1.fr.size
      have o1 : (Value.slice sa (M + 1) sc).ownBlock = none ∨ (Value.slice sa (M + 1) sc).ownBlock ≠ (Value.slice ta (3 * M) tc).ownBlock := by
        rcases X1.off with h | h
        · cases hq : (Value.slice sa (M + 1) sc).ownBlock with
          | none => exact .inl rfl
          | some g => right; rw [h]; simp
        · exact .inr (Ne.symm h)
      obtain ⟨x1, y1, wF, X2⟩ := step_list (by omega) (j := 6) (T := .slice ta (3 * M) tc) X1.row rfl X1.other X1.own o1 a1 (k + 1) c1 (by omega)
      have sF := X2.fr.size
      obtain ⟨x2, y2, wG, X3⟩ := step_list (by omega) (j := 6) (T := .slice x1 (3 * M + 1) y1) X2.row rfl X2.own X2.other X2.off a2 (k + 2) c2 (by omega)
      have sG := X3.fr.size
      obtain ⟨x3, y3, wH, X4⟩ := step_list (by omega) (j := 6) (T := .slice x2 (3 * M + 1 + 1) y2) X3.row rfl X3.own X3.other X3.off a3 (k + 3) c3 (by omega)
      have sz : ∀ (w : World) (p : Addr) (x : Value), (w.setCell p x).heap.size = w.heap.size := fun w p x => by simp [World.setCell]
      have R1 := hid G1.run
      have R2 := hid G2.run
      have R3 := hid G3.run
      have S1 := hid X1.run
      have S2 := hid X2.run
      have S3 := hid X3.run
      have S4 := hid X4.run
      rw [sz] at S2 S3 S4
      have z1 := (wrow G3.row).1
      have z2 := X1.cell
      have z3 := X1.froz
      have z4 := X2.cell
      have z5 := X2.froz
      have z6 := X3.cell
      have z7 := X3.froz
      have z8 := X4.cell
      have z9 := X4.froz
      have zE := (wrow X1.row0).2.1
      have b2 := G1.b0
      have b3 := G1.b1
      have b4 := G2.b0
      have b5 := G2.b1
      have fin_row := hid X4.row
      have fin_l := hid (X4.keep _ _ _ (X3.keep _ _ _ (X2.keep _ _ _ (X1.keep _ _ _ mkl))))
      have fin_1 := hid (X4.keep _ _ _ (X3.keep _ _ _ (X2.keep _ _ _ (X1.keep _ _ _ mk1))))
      have fin_2 := hid (X4.keep _ _ _ (X3.keep _ _ _ (X2.keep _ _ _ (X1.keep _ _ _ mk2))))
      have fin_3 := hid (X4.keep _ _ _ (X3.keep _ _ _ (X2.keep _ _ _ (X1.keep _ _ _ mk3))))
      have fin_o := hid X4.own
      have fin_s := hid X4.other
      have fin_d := hid X4.off
      have fin_at := hid (show ∀ u, u = Value.slice a1 (k + 1) c1 ∨ u = Value.slice a2 (k + 2) c2 ∨ u = Value.slice a3 (k + 3) c3 → u.ownBlock = (Value.slice a k cap).ownBlock ∨ ∃ g, u.ownBlock = some g ∧ w.heap.size ≤ g by
        rintro u (rfl | rfl | rfl)
        · rcases G1.at_ with h | ⟨g, h, hb⟩
          · exact .inl h
          · exact .inr ⟨g, h, by omega⟩
        · rcases G2.at_ with h | ⟨g, h, hb⟩
          · exact .inl h
          · exact .inr ⟨g, h, by omega⟩
        · rcases G3.at_ with h | ⟨g, h, hb⟩
          · exact .inl h
          · exact .inr ⟨g, h, by omega⟩)
      have fin_fr := hid (show Fr (fun b => b = W ∨ some b = (Value.slice a k cap).ownBlock ∨ some b = (Value.slice la M lc).ownBlock ∨ some b = (Value.slice ta (3 * M) tc).ownBlock ∨ w.heap.size ≤ b) w (wH.setCell ⟨W, 6, none⟩ (.slice x3 (3 * M + 1 + 1 + 1) y3)) by
        have f0 : Fr (fun b => b = W ∨ some b = (Value.slice a k cap).ownBlock ∨ some b = (Value.slice la M lc).ownBlock ∨ some b = (Value.slice ta (3 * M) tc).ownBlock ∨ w.heap.size ≤ b) w wr := (Fr.of_ext hxm).trans (Fr.of_grown hgr (fun k h => .inr (.inl h.symm)))
        have f1 := f0.trans (G1.fr.mono (fun b _ h => .inr (.inl h)))
        have f2 := f1.trans (G2.fr.mono (fun b _ h => .inr (.inl h)))
        have f3 := f2.trans (G3.fr.mono (fun b _ h => .inr (.inl h)))
        have f4 := f3.trans (X1.fr.mono (fun b _ h => h.elim .inl (fun h => .inr (.inr (.inl h)))))
        have f5 := f4.trans (X2.fr.mono (fun b _ h => h.elim .inl (fun h => .inr (.inr (.inr (.inl h))))))
        have f6 := f5.trans (X3.fr.mono (fun b _ h => h.elim .inl (fun h => by
          rcases X2.at_ with q | ⟨g, q, hb⟩
          · exact .inr (.inr (.inr (.inl (h.trans q))))
          · rw [q] at h; simp only [Option.some.injEq] at h; exact .inr (.inr (.inr (.inr (by omega)))))))
        exact f6.trans (X4.fr.mono (fun b _ h => h.elim .inl (fun h => by
          rcases X3.at_ with q | ⟨g, q, hb⟩
          · rcases X2.at_ with q' | ⟨g, q', hb⟩
            · exact .inr (.inr (.inr (.inl (h.trans (q.trans q')))))
            · rw [q, q'] at h; simp only [Option.some.injEq] at h; exact .inr (.inr (.inr (.inr (by omega))))
          · rw [q] at h; simp only [Option.some.injEq] at h; exact .inr (.inr (.inr (.inr (by omega))))))))
      clear G1 G2 G3 X1 X2 X3 X4 mkl mk1 mk2 mk3 hlsr hls3r hWr hlm hWm hmk hgr hbne hmbn hd hd' o1 sz c5 c6 d0 d1 hx1 hxm
      go_wp2_with (first
        | (at_builtin; refine wpList_append_run rfl _ _ 27 27 rfl (.slice a k cap) (.slice (some ⟨wr.heap.size, 0, none⟩) 1 1) rfl rfl _ _ R1.out ?_)
        | (at_builtin; refine wpList_append_run rfl _ _ 27 27 rfl (.slice a k cap) (.slice (some ⟨wB.heap.size, 0, none⟩) 2 2) rfl rfl _ _ R2.out ?_)
        | (at_builtin; refine wpList_append_run rfl _ _ 27 27 rfl (.slice a k cap) (.slice (some ⟨wC.heap.size, 0, none⟩) 3 3) rfl rfl _ _ R3.out ?_)
        | (at_builtin; refine wpList_append_run rfl _ _ 58 58 rfl (.slice la M lc) (.slice (some ⟨wD.heap.size, 0, none⟩) 1 1) rfl rfl _ _ S1.out ?_)
        | (at_builtin; refine wpList_append_run rfl _ _ 58 58 rfl (.slice ta (3 * M) tc) (.slice (some ⟨wE.heap.size, 0, none⟩) 1 1) rfl rfl _ _ S2.out ?_)
        | (at_builtin; refine wpList_append_run rfl _ _ 58 58 rfl (.slice x1 (3 * M + 1) y1) (.slice (some ⟨wF.heap.size, 0, none⟩) 1 1) rfl rfl _ _ S3.out ?_)
        | (at_builtin; refine wpList_append_run rfl _ _ 58 58 rfl (.slice x2 (3 * M + 1 + 1) y2) (.slice (some ⟨wG.heap.size, 0, none⟩) 1 1) rfl rfl _ _ S4.out ?_))
      go_end0
      rw [HM.out]
      exact ⟨rfl, _, _, _, _, _, fin_row.out, fin_l.out, fin_1.out, fin_2.out, fin_3.out, fin_s.out, fin_o.out, fin_d.out, fin_at.out, fin_fr.out⟩
end Go.Proofs.YtjohkmkgmbihkaaGreatDoor

namespace Go.Proofs.YtjohkmkgmbihkaaGreatDoor
set_option linter.unusedVariables false
open Go.ChangeShapes Go.WideShapes Go.ChangeAt Go.RowKit
attribute [local go_sem ↓] Go.wp_at_zero Go.wp_at_succ

/-- Two lists do not lie in one block. -/
def Apart (v u : Value) : Prop := v.ownBlock = none ∨ v.ownBlock ≠ u.ownBlock
theorem Apart.symm {v u : Value} (h : Apart v u) : Apart u v := by
  rcases h with h | h
  · cases hq : u.ownBlock with
    | none => exact .inl hq
    | some g => right; rw [h, hq]; simp
  · exact .inr (Ne.symm h)
/-- A list in a new block lies apart from an old one. -/
theorem Apart.fresh {w : World} {base : Nat} {e : TypeId} {s n : Nat} {v u : Value} {xs : List Value} (hv : w.ownsRow base e s v n xs) {g : Nat} (hu : u.ownBlock = some g) (hg : w.heap.size ≤ g) : Apart v u := by
  cases hq : v.ownBlock with
  | none => exact .inl hq
  | some q =>
    right; rw [hq, hu]; intro e
    have := (hv.lt q hq).2
    simp only [Option.some.injEq] at e
    omega
/-- A list that came out, marked, and grown by one, two and three. -/
structure ML where
  own : Value
  g1 : Value
  g2 : Value
  g3 : Value
  n : Nat
def ML.ok (w : World) (m : ByteArray) (x : ML) : Prop := Mk w x.own x.n m ∧ Mk w x.g1 (x.n + 1) m ∧ Mk w x.g2 (x.n + 2) m ∧ Mk w x.g3 (x.n + 3) m
def ML.vals (x : ML) : List Value := [x.own, x.g1, x.g2, x.g3]
def ML.grown (x : ML) : List Value := [x.g1, x.g2, x.g3]
/-- The struct of the law's world, and its marked lists. -/
structure Lw (bs : Nat) (w : World) (W : Nat) (c0 c1 c2 c3 c4 lsv ls3v : Value) (X : List ML) : Prop where
  row : w.heap[W]? = some (.cells #[c0, c1, c2, c3, c4, lsv, ls3v] 60 (0, 0))
  hbs : bs ≤ w.heap.size
  wb : bs ≤ W
  own : w.ownsRow bs 27 1 lsv X.length (X.map ML.own)
  own3 : w.ownsRow bs 27 1 ls3v (3 * X.length) (X.flatMap ML.grown)
  off : Apart lsv ls3v
  marked : ∀ i (x : ML), X[i]? = some x → x.ok w (stk i)
/-- All is as it was but for the struct, the rows of lists and the blocks of S. -/
structure Fw (S : Nat → Prop) (w w' : World) : Prop where
  os : w'.os = w.os
  tape : w'.tape = w.tape
  output : w'.output = w.output
  size : w.heap.size ≤ w'.heap.size
  block : ∀ k c t f, w.heap[k]? = some (.cells c t f) → ¬ S k → t ≠ 60 → t ≠ 27 → w'.heap[k]? = some (.cells c t f)
theorem Fw.trans {S : Nat → Prop} {a b c : World} (h : Fw S a b) (k : Fw S b c) : Fw S a c :=
  ⟨k.os.trans h.os, k.tape.trans h.tape, k.output.trans h.output, Nat.le_trans h.size k.size, fun i ce t f hi hs h1 h2 => k.block i ce t f (h.block i ce t f hi hs h1 h2) hs h1 h2⟩
theorem Fw.of_ext {S : Nat → Prop} {w w' : World} (h : Ext w w') : Fw S w w' := ⟨h.os, h.tape, h.output, h.size, fun k c t f hk _ _ _ => h.row hk⟩
theorem Fw.mono {S T : Nat → Prop} {w w' : World} (h : Fw S w w') (hi : ∀ k, k < w.heap.size → S k → T k) : Fw T w w' := ⟨h.os, h.tape, h.output, h.size, fun k c t f hk ht => h.block k c t f hk (fun hs => ht (hi k (row_lt hk) hs))⟩
theorem Fw.owns {S : Nat → Prop} {w w' : World} (h : Fw S w w') {base : Nat} {e : TypeId} {size : Nat} {v : Value} {n : Nat} {xs : List Value} (ho : w.ownsRow base e size v n xs) (hs : ∀ g, v.ownBlock = some g → ¬ S g) (h1 : e ≠ 60) (h2 : e ≠ 27) : w'.ownsRow base e size v n xs := by
  refine ⟨ho.1, ?_⟩
  rcases ho.2 with h2 | ⟨g, cap, cur, hv, hb, hg, r⟩
  · exact .inl h2
  · exact .inr ⟨g, cap, cur, hv, hb, h.block _ _ _ _ hg (hs g (by rw [hv]; rfl)) h1 h2, r⟩
theorem Fw.of_set {S : Nat → Prop} {w : World} {W : Nat} {cs : Array Value} {f : Nat × Nat} (hW : w.heap[W]? = some (.cells cs 60 f)) (j : Nat) (u : Value) : Fw S w (w.setCell ⟨W, j, none⟩ u) :=
  ⟨rfl, rfl, rfl, by simp [World.setCell], fun k c t f' hk hs h1 h2 => by
    rw [Below.heap_setCell _ _ _ _ (by intro e; simp at e; subst e; rw [hW] at hk; simp only [Option.some.injEq, Obj.cells.injEq] at hk; exact h1 hk.2.1.symm)]; exact hk⟩
theorem Apart.not {v u : Value} (h : Apart v u) : ∀ g, v.ownBlock = some g → ¬ some g = u.ownBlock := by
  intro g hg hu
  rcases h with h | h
  · rw [h] at hg; cases hg
  · exact h (hg.trans hu)
theorem Lw.set {bs : Nat} {w : World} {W : Nat} {c0 c1 c2 c3 c4 lsv ls3v : Value} {X : List ML} (h : Lw bs w W c0 c1 c2 c3 c4 lsv ls3v X) (j : Nat) (x : Value) {d0 d1 d2 d3 d4 : Value} (he : #[c0, c1, c2, c3, c4, lsv, ls3v].setIfInBounds j x = #[d0, d1, d2, d3, d4, lsv, ls3v]) :
    Lw bs (w.setCell ⟨W, j, none⟩ x) W d0 d1 d2 d3 d4 lsv ls3v X :=
  ⟨by rw [heap_set_row j x h.row, he], by have := h.hbs; simpa [World.setCell] using this, h.wb, set_owns h.row j x h.own (by decide), set_owns h.row j x h.own3 (by decide), h.off,
    fun i y hy => ⟨set_owns h.row j x (h.marked i y hy).1 (by decide), set_owns h.row j x (h.marked i y hy).2.1 (by decide), set_owns h.row j x (h.marked i y hy).2.2.1 (by decide), set_owns h.row j x (h.marked i y hy).2.2.2 (by decide)⟩⟩
theorem Lw.ext {bs : Nat} {w w' : World} {W : Nat} {c0 c1 c2 c3 c4 lsv ls3v : Value} {X : List ML} (h : Lw bs w W c0 c1 c2 c3 c4 lsv ls3v X) (hx : Ext w w') : Lw bs w' W c0 c1 c2 c3 c4 lsv ls3v X :=
  ⟨hx.row h.row, Nat.le_trans h.hbs hx.size, h.wb, owns_ext h.own hx, owns_ext h.own3 hx, h.off, fun i y hy => ⟨(h.marked i y hy).1.ext hx, (h.marked i y hy).2.1.ext hx, (h.marked i y hy).2.2.1.ext hx, (h.marked i y hy).2.2.2.ext hx⟩⟩
theorem own_slice {w : World} {base : Nat} {e : TypeId} {s n : Nat} {v : Value} {xs : List Value} (h : w.ownsRow base e s v n xs) : ∃ a c, v = .slice a n c := by
  rcases h.2 with ⟨rfl, rfl⟩ | ⟨g, cap, cur, rfl, _⟩
  · exact ⟨_, _, rfl⟩
  · exact ⟨_, _, rfl⟩
theorem own_type {w : World} {base : Nat} {e : TypeId} {s n : Nat} {v : Value} {xs : List Value} (h : w.ownsRow base e s v n xs) {g : Nat} (hg : v.ownBlock = some g) : ∃ c f, w.heap[g]? = some (.cells c e f) := by
  rcases h.2 with ⟨rfl, rfl⟩ | ⟨g', cap, cur, rfl, hb, hgg, _⟩
  · cases hg
  · obtain rfl : g' = g := by simpa [Value.ownBlock] using hg
    exact ⟨_, _, hgg⟩

/-- A list is marked. -/
theorem Lw.marks {bs : Nat} {w : World} {W : Nat} {c0 c1 c2 c3 c4 lsv ls3v : Value} {X : List ML} (h : Lw bs w W c0 c1 c2 c3 c4 lsv ls3v X) {l : Value} {n : Nat} {xs : List Value} (hl : w.ownsRow 0 53 2 l n xs)
    (hoff : ∀ x ∈ X, ∀ u ∈ x.vals, Apart u l) (hn : n ≤ 1000000) (hM : X.length ≤ 100000000) :
    Calls Tryz.prog 87 #[.pointer (some ⟨W, 0, none⟩), l] w fun e w' => e = .returned (.tuple #[]) ∧ ∃ (lsv' ls3v' : Value) (y : ML), Lw bs w' W c0 c1 c2 c3 c4 lsv' ls3v' (X ++ [y]) ∧
      (∀ u ∈ y.vals, u.ownBlock = l.ownBlock ∨ ∃ g, u.ownBlock = some g ∧ w.heap.size ≤ g) ∧ Fw (fun k => some k = l.ownBlock) w w' ∧ Fr (fun k => some k = l.ownBlock ∨ bs ≤ k) w w' := by
  obtain ⟨a, cap, rfl⟩ := own_slice hl
  obtain ⟨la, lc, rfl⟩ := own_slice h.own
  obtain ⟨ta, tc, rfl⟩ := own_slice h.own3
  refine (marks_any bs W c0 c1 c2 c3 c4 la lc ta tc a cap n X.length xs _ _ w h.hbs h.row hl h.own h.own3 h.off hn hM).mono ?_
  rintro e w' ⟨rfl, v1, v2, v3, lsv', ls3v', hrow, m0, m1, m2, m3, o, o3, off, at_, fr⟩
  have hfw : Fw (fun k => some k = (Value.slice a n cap).ownBlock) w w' := ⟨fr.os, fr.tape, fr.output, fr.size, fun k c t f hk hs h1 h2 => fr.row hk (by
    rintro (q | q | q | q | q)
    · subst q; rw [h.row] at hk; simp only [Option.some.injEq, Obj.cells.injEq] at hk; exact h1 hk.2.1.symm
    · exact hs q
    · exact rows_ne hk h.own h2 q.symm
    · exact rows_ne hk h.own3 h2 q.symm
    · have := row_lt hk; omega)⟩
  have hfr : Fr (fun k => some k = (Value.slice a n cap).ownBlock ∨ bs ≤ k) w w' := fr.mono (fun k hk q => by
    have := h.hbs
    have := h.wb
    rcases q with q | q | q | q | q
    · exact .inr (by omega)
    · exact .inl q
    · exact .inr (h.own.lt k q.symm).1
    · exact .inr (h.own3.lt k q.symm).1
    · exact .inr (by omega))
  have hat : ∀ u ∈ (ML.mk (.slice a n cap) v1 v2 v3 n).vals, u.ownBlock = (Value.slice a n cap).ownBlock ∨ ∃ g, u.ownBlock = some g ∧ w.heap.size ≤ g := by
    intro u hu
    simp only [ML.vals, List.mem_cons, List.not_mem_nil, or_false] at hu
    rcases hu with rfl | hu
    · exact .inl rfl
    · exact at_ u hu
  have keep : ∀ i x, X[i]? = some x → ∀ u c, u ∈ x.vals → Mk w u c (stk i) → Mk w' u c (stk i) := fun i x hx u c hu hm => hfw.owns hm ((hoff x (List.mem_of_getElem? hx) u hu).not) (by decide) (by decide)
  refine ⟨rfl, lsv', ls3v', ⟨.slice a n cap, v1, v2, v3, n⟩, ⟨hrow, Nat.le_trans h.hbs fr.size, h.wb, by simpa using o, ?_, off, ?_⟩, hat, hfw, hfr⟩
  · have e1 : 3 * (X ++ [(⟨.slice a n cap, v1, v2, v3, n⟩ : ML)]).length = 3 * X.length + 1 + 1 + 1 := by simp; omega
    have e2 : (X ++ [(⟨.slice a n cap, v1, v2, v3, n⟩ : ML)]).flatMap ML.grown = X.flatMap ML.grown ++ [v1] ++ [v2] ++ [v3] := by simp [ML.grown]
    rw [e1, e2]; exact o3
  · intro i x hx
    by_cases hi : i < X.length
    · rw [List.getElem?_append_left hi] at hx
      have q := h.marked i x hx
      have k := keep i x hx
      exact ⟨k _ _ (by simp [ML.vals]) q.1, k _ _ (by simp [ML.vals]) q.2.1, k _ _ (by simp [ML.vals]) q.2.2.1, k _ _ (by simp [ML.vals]) q.2.2.2⟩
    · have hlt := (List.getElem?_eq_some_iff.1 hx).1
      simp only [List.length_append, List.length_cons, List.length_nil] at hlt
      obtain rfl : i = X.length := by omega
      simp only [List.getElem?_concat_length, Option.some.injEq] at hx
      subst hx
      exact ⟨m0, m1, m2, m3⟩

/-- The world of the law: what is kept too. -/
structure Wd (bs : Nat) (w : World) (W : Nat) (came : Nat) (psv : Value) (kv wv : Value) (A : List Pr) (lsv ls3v : Value) (X : List ML) : Prop where
  lw : Lw bs w W (.int .i64 came) (.bool false) kv wv psv lsv ls3v X
  kept : w.ownsRow bs 53 2 kv A.length (pc A)
  were : w.ownsRow 0 53 2 wv A.length (pc A)
  kw : Apart kv wv
  km : ∀ x ∈ X, ∀ u ∈ x.vals, Apart u kv
  small : A.length ≤ 1000000
end Go.Proofs.YtjohkmkgmbihkaaGreatDoor

namespace Go.Proofs.YtjohkmkgmbihkaaGreatDoor
set_option linter.unusedVariables false
open Go.ChangeShapes Go.WideShapes Go.ChangeAt Go.RowKit
attribute [local go_sem ↓] Go.wp_at_zero Go.wp_at_succ

theorem grown_get : ∀ (X : List ML) (k : Nat) (x : ML), X[k]? = some x → (X.flatMap ML.grown)[3 * k]? = some x.g1 ∧ (X.flatMap ML.grown)[3 * k + 1]? = some x.g2 ∧ (X.flatMap ML.grown)[3 * k + 2]? = some x.g3 := by
  intro X
  induction X with
  | nil => intro k x h; simp at h
  | cons y X ih =>
    intro k x h
    rw [List.flatMap_cons]
    cases k with
    | zero => simp only [List.getElem?_cons_zero, Option.some.injEq] at h; subst h; simp [ML.grown]
    | succ k =>
      rw [List.getElem?_cons_succ] at h
      obtain ⟨h1, h2, h3⟩ := ih k x h
      have hl : y.grown.length = 3 := rfl
      have e : 3 * (k + 1) = 3 * k + 3 := by omega
      refine ⟨?_, ?_, ?_⟩
      · rw [e, List.getElem?_append_right (by omega), hl, Nat.add_sub_cancel]; exact h1
      · rw [e, List.getElem?_append_right (by omega), hl, show 3 * k + 3 + 1 - 3 = 3 * k + 1 by omega]; exact h2
      · rw [e, List.getElem?_append_right (by omega), hl, show 3 * k + 3 + 2 - 3 = 3 * k + 2 by omega]; exact h3
theorem Lw.cells {bs : Nat} {w : World} {W : Nat} {c0 c1 c2 c3 c4 lsv ls3v : Value} {X : List ML} (h : Lw bs w W c0 c1 c2 c3 c4 lsv ls3v X) :
    w.cell? ⟨W, 0, none⟩ = some c0 ∧ w.cell? ⟨W, 1, none⟩ = some c1 ∧ w.cell? ⟨W, 2, none⟩ = some c2 ∧ w.cell? ⟨W, 3, none⟩ = some c3 ∧ w.cell? ⟨W, 4, none⟩ = some c4 ∧ w.cell? ⟨W, 5, none⟩ = some lsv ∧ w.cell? ⟨W, 6, none⟩ = some ls3v ∧
      ∀ j, w.frozen? ⟨W, j, none⟩ = false := by
  have := h.row
  refine ⟨?_, ?_, ?_, ?_, ?_, ?_, ?_, fun j => frozen_of_row _ _ _ _ _ this⟩ <;> (rw [cell_of_row _ _ _ _ _ _ this]; rfl)
theorem Lw.at {bs : Nat} {w : World} {W : Nat} {c0 c1 c2 c3 c4 lsv ls3v : Value} {X : List ML} (h : Lw bs w W c0 c1 c2 c3 c4 lsv ls3v X) {k : Nat} (hk : k < X.length) :
    ∃ g lc g3 tc a0 b0 a1 b1 a2 b2 a3 b3 n, lsv = .slice (some ⟨g, 0, none⟩) X.length lc ∧ ls3v = .slice (some ⟨g3, 0, none⟩) (3 * X.length) tc ∧ w.cell? ⟨g, k, none⟩ = some (.slice a0 n b0) ∧ w.cell? ⟨g3, 3 * k, none⟩ = some (.slice a1 (n + 1) b1) ∧
      w.cell? ⟨g3, 3 * k + 1, none⟩ = some (.slice a2 (n + 2) b2) ∧ w.cell? ⟨g3, 3 * k + 2, none⟩ = some (.slice a3 (n + 3) b3) ∧
      Mk w (.slice a0 n b0) n (stk k) ∧ Mk w (.slice a1 (n + 1) b1) (n + 1) (stk k) ∧ Mk w (.slice a2 (n + 2) b2) (n + 2) (stk k) ∧ Mk w (.slice a3 (n + 3) b3) (n + 3) (stk k) := by
  obtain ⟨x, hx⟩ : ∃ x, X[k]? = some x := ⟨_, List.getElem?_eq_getElem hk⟩
  obtain ⟨m0, m1, m2, m3⟩ := h.marked k x hx
  obtain ⟨q1, q2, q3⟩ := grown_get X k x hx
  obtain ⟨a0, b0, e0⟩ := m0.shape
  obtain ⟨a1, b1, e1⟩ := m1.shape
  obtain ⟨a2, b2, e2⟩ := m2.shape
  obtain ⟨a3, b3, e3⟩ := m3.shape
  have ho := h.own
  have ho3 := h.own3
  obtain ⟨g, lc, rfl⟩ : ∃ g lc, lsv = .slice (some ⟨g, 0, none⟩) X.length lc := by
    rcases ho.2 with ⟨_, q⟩ | ⟨g, c, cur, q, _⟩
    · omega
    · exact ⟨g, c, q⟩
  obtain ⟨g3, tc, rfl⟩ : ∃ g lc, ls3v = .slice (some ⟨g, 0, none⟩) (3 * X.length) lc := by
    rcases ho3.2 with ⟨_, q⟩ | ⟨g, c, cur, q, _⟩
    · omega
    · exact ⟨g, c, q⟩
  refine ⟨g, lc, g3, tc, a0, b0, a1, b1, a2, b2, a3, b3, x.n, rfl, rfl, ?_, ?_, ?_, ?_, e0 ▸ m0, e1 ▸ m1, e2 ▸ m2, e3 ▸ m3⟩
  · rw [ho.cellAt k (by omega), List.getElem?_map, hx, ← e0]; rfl
  · rw [ho3.cellAt (3 * k) (by omega), q1, e1]
  · rw [ho3.cellAt (3 * k + 1) (by omega), q2, e2]
  · rw [ho3.cellAt (3 * k + 2) (by omega), q3, e3]

set_option maxHeartbeats 4000000 in
set_option maxRecDepth 100000 in
theorem looks_any (bs : Nat) (W : Nat) (came : Nat) (psv kv wv : Value) (A : List Pr) (lsv ls3v : Value) (X : List ML) (w : World) (hW : Wd bs w W came psv kv wv A lsv ls3v X) (hM : X.length ≤ 100000000) :
    Calls Tryz.prog 27 #[.pointer (some ⟨W, 0, none⟩)] w fun e w' => e = .returned (.bool true) ∧ Ext w w' := by
  obtain ⟨z0, z1, z2, z3, z4, z5, z6, _⟩ := hW.lw.cells
  have hk := hW.kept
  have hw := hW.were
  have hA := hW.small
  have pk : Prs w kv A := Prs.own hk
  have pw : Prs w wv A := Prs.own hw
  have HW := hid hW.lw
  have hAm : A.length ≤ maxLen := by unfold maxLen; omega
  obtain ⟨la, lc, rfl⟩ := own_slice hW.lw.own
  obtain ⟨ta, tc, rfl⟩ := own_slice hW.lw.own3
  clear hW hk hw
  go_enter Tryz.func27, Tryz.ntmps27
  go_wp2_with fail
  have PK := hid pk
  have PW := hid pw
  clear pk pw
  go_region_held3 (fun w' => w'.cell? ⟨W, 2, none⟩ = some kv ∧ w'.cell? ⟨W, 3, none⟩ = some wv) (go_keep)
    (first
      | (go_at_call 30; refine (samePairs_any A A kv wv _ (PK.out.ext ((Ext.refl _).drew)) (PW.out.ext ((Ext.refl _).drew)) hAm hAm).mono ?_; rintro e w1 ⟨rfl, hx1'⟩; have hx1 : Ext w w1 := Ext.trans ((Ext.refl _).drew) hx1'; clear hx1'; have k2 := hx1.keep1 z2; have k3 := hx1.keep1 z3; rw [show decide (A = A) = true by simp]))
  have y1 := hx1.keep1 z1
  have y5 := hx1.keep1 z5
  go_wp2_with fail
  have HX1 := hid hx1
  clear hx1 z0 z1 z2 z3 z4 z5 z6 k2 k3 y1 y5
  go_loopw [4] (fun i wr => ∃ k : Nat, k ≤ X.length ∧ i = .int .i64 k ∧ Ext w wr) (fun i _ => X.length - (intOf i).toNat)
  case atStart => exact ⟨0, Nat.zero_le _, rfl, HX1.out⟩
  case round =>
    obtain ⟨k, hk, rfl, hxr⟩ := hrel
    have HL := HW.out.ext hxr
    obtain ⟨_, _, _, _, _, y5, y6, _⟩ := HL.cells
    by_cases hlt : k < X.length
    · obtain ⟨g, lc', g3, tc', a0, b0, a1, b1, a2, b2, a3, b3, n, e1, e2, q0, q1, q2, q3, m0, m1, m2, m3⟩ := HL.at hlt
      simp only [Value.slice.injEq] at e1 e2
      obtain ⟨rfl, _, rfl⟩ := e1
      obtain ⟨rfl, _, rfl⟩ := e2
      have HXR := hid hxr
      have M0 := hid m0
      have M1 := hid m1
      have M2 := hid m2
      have M3 := hid m3
      clear HL m0 m1 m2 m3 hxr
      go_wp2_with fail
      refine (strokes_any k (by omega) _).mono ?_
      rintro e w2 ⟨rfl, hx2⟩
      have y5' := hx2.keep1 y5
      have y6' := hx2.keep1 y6
      have q0' := hx2.keep1 q0
      have q1' := hx2.keep1 q1
      have q2' := hx2.keep1 q2
      have q3' := hx2.keep1 q3
      have HX2 := hid hx2
      clear hx2
      go_wp2_with fail
      refine (full_any n (stk k) _ w2 (M0.out.ext HX2.out).prs).mono ?_
      rintro e w3 ⟨rfl, h3⟩; replace h3 := h3.symm; subst h3
      go_wp2_with fail
      refine (full_any (n + 1) (stk k) _ w2 (M1.out.ext HX2.out).prs).mono ?_
      rintro e w3 ⟨rfl, h3⟩; replace h3 := h3.symm; subst h3
      go_wp2_with fail
      refine (full_any (n + 2) (stk k) _ w2 (M2.out.ext HX2.out).prs).mono ?_
      rintro e w3 ⟨rfl, h3⟩; replace h3 := h3.symm; subst h3
      go_wp2_with fail
      refine (full_any (n + 3) (stk k) _ w2 (M3.out.ext HX2.out).prs).mono ?_
      rintro e w3 ⟨rfl, h3⟩; replace h3 := h3.symm; subst h3
      go_wp2_with fail
      go_roundw
      case rel => exact ⟨k + 1, by omega, by go_num, HXR.out.trans HX2.out⟩
      case measure => simp [intOf]; omega
    · obtain rfl : k = X.length := by omega
      have HXR := hid hxr
      clear HL hxr
      go_wp2_with fail
      go_ret
      exact ⟨rfl, HXR.out⟩
end Go.Proofs.YtjohkmkgmbihkaaGreatDoor

namespace Go.Proofs.YtjohkmkgmbihkaaGreatDoor
set_option linter.unusedVariables false
open Go.ChangeShapes Go.WideShapes Go.ChangeAt Go.RowKit
attribute [local go_sem ↓] Go.wp_at_zero Go.wp_at_succ

theorem Apart.nil (u : Value) : Apart u (.slice none 0 0) := Apart.symm (.inl rfl)
theorem Apart.of_at {w : World} {base : Nat} {e : TypeId} {s n : Nat} {l kv u : Value} {xs : List Value} (hl : w.ownsRow base e s l n xs) (ho : Apart l kv) {b : Nat} (hb : w.heap.size ≤ b) (hu : u.ownBlock = kv.ownBlock ∨ ∃ g, u.ownBlock = some g ∧ b ≤ g) : Apart u l := by
  rcases hu with h | ⟨g, h, hg⟩
  · have := ho.symm
    unfold Apart at this ⊢
    rw [h]; exact this
  · exact (Apart.fresh hl h (by omega)).symm
set_option maxHeartbeats 4000000 in
set_option maxRecDepth 100000 in
theorem takes_any (bs : Nat) (W : Nat) (came : Nat) (psv kv wv : Value) (A : List Pr) (lsv ls3v : Value) (X : List ML) (w : World) (hW : Wd bs w W came psv kv wv A lsv ls3v X) (hM : X.length ≤ 10000000) (hcame : came ≤ 100000000)
    (a : Option Addr) (cap : Nat) (B : List Pr) (hl : w.ownsRow bs 53 2 (.slice a B.length cap) B.length (pc B)) (hB : B.length ≤ 1000000) (hlk : Apart (.slice a B.length cap) kv) (hlm : ∀ x ∈ X, ∀ u ∈ x.vals, Apart u (.slice a B.length cap)) :
    Calls Tryz.prog 53 #[.pointer (some ⟨W, 0, none⟩), .slice a B.length cap] w fun e w' => e = .returned (.tuple #[]) ∧ ∃ kv' wv' A' lsv' ls3v' X', Wd bs w' W (came + 1) psv kv' wv' A' lsv' ls3v' X' ∧ X'.length ≤ X.length + 2 ∧
      Fw (fun k => some k = kv.ownBlock ∨ some k = (Value.slice a B.length cap).ownBlock) w w' ∧ Fr (fun k => bs ≤ k) w w' := by
  have hpl : Prs w (.slice a B.length cap) B := Prs.own hl
  obtain ⟨wn, w1, hr1, ho1, hg1⟩ := app_prs w.heap.size w (.slice none 0 0) (.slice a B.length cap) [] B (Nat.le_refl _) (World.ownsRow_nil _ _ _ _) hpl (by simp; omega)
  rw [List.nil_append] at ho1
  have hx1 : Ext w w1 := Ext.of_nil hg1
  obtain ⟨na, nc, rfl⟩ := own_slice ho1
  obtain ⟨z0, z1, z2, z3, z4, z5, z6, _⟩ := (hW.lw.ext hx1).cells
  have PK := hid (show Prs w1 kv A from (Prs.own hW.kept).ext hx1)
  have PW := hid (show Prs w1 wv A from (Prs.own hW.were).ext hx1)
  have hAm : A.length ≤ maxLen := by have := hW.small; unfold maxLen; omega
  have hBm : B.length ≤ maxLen := by unfold maxLen; omega
  have HR1 := hid hr1
  have HO1 := hid ho1
  have HX1 := hid hx1
  have HW := hid hW
  have HL := hid hl
  obtain ⟨ka, kc, rfl⟩ := own_slice hW.kept
  obtain ⟨wa, wc, rfl⟩ := own_slice hW.were
  clear hr1 ho1 hg1 hx1 hW hl hpl
  go_enter Tryz.func53, Tryz.ntmps53
  go_wp2_with (at_builtin; refine wpList_append_run rfl _ _ 27 27 rfl (.slice none 0 0) (.slice a B.length cap) rfl rfl _ _ HR1.out ?_)
  go_region_held3 (fun w' => w'.cell? ⟨W, 2, none⟩ = some (.slice ka A.length kc) ∧ w'.cell? ⟨W, 3, none⟩ = some (.slice wa A.length wc)) (go_keep)
    (first
      | (go_at_call 30; refine (samePairs_any A A _ _ _ (PK.out.ext ((Ext.refl _).drew)) (PW.out.ext ((Ext.refl _).drew)) hAm hAm).mono ?_; rintro e w2 ⟨rfl, hx2'⟩; have hx2 : Ext w1 w2 := Ext.trans ((Ext.refl _).drew) hx2'; clear hx2'; have k2 := hx2.keep1 z2; have k3 := hx2.keep1 z3; rw [show decide (A = A) = true by simp]))
  have HX2 := hid hx2
  have hxw2 := HX1.out.trans hx2
  have HW2 := hid (HW.out.lw.ext hxw2)
  have HK2 := hid (owns_ext HW.out.kept hxw2)
  have HS2 := hid hxw2
  clear hx2 hxw2 z0 z1 z2 z3 z4 z5 z6
  go_wp2_with fail
  refine (HW2.out.marks (owns_base HK2.out (Nat.zero_le _)) HW.out.km HW.out.small (by omega)).mono ?_
  rintro e w3 ⟨rfl, lsv3, ls3v3, y, hl3, hat, hfw, hfr3⟩
  have hol := hfw.owns (owns_ext HL.out HS2.out) (hlk.not) (by decide) (by decide)
  have hon := hfw.owns (owns_ext HO1.out HX2.out) (fun g hg e => by
    have h1 := (HO1.out.lt g hg).1
    have h2 := (HW.out.kept.lt g e.symm).2
    omega) (by decide) (by decide)
  have PL := hid (Prs.own hol)
  have PN := hid (Prs.own hon)
  have HOL := hid hol
  have HON := hid hon
  have HL3 := hid hl3
  have HAT := hid hat
  have HFW := hid hfw
  have HFR3 := hid (show Fr (fun k => bs ≤ k) w w3 from (Fr.of_ext HS2.out).trans (hfr3.mono (fun k _ q => q.elim (fun e => (HW.out.kept.lt k e.symm).1) id)))
  clear hfr3 hol hon hl3 hat hfw
  go_wp2_with fail
  refine (samePairs_any B B _ _ w3 PL.out PN.out hBm hBm).mono ?_
  rintro e w4 ⟨rfl, hx4⟩
  rw [show decide (B = B) = true by simp]
  have HX4 := hid hx4
  have HL4 := hid (HL3.out.ext hx4)
  obtain ⟨z0, z1, z2, z3, z4, z5, z6, zf⟩ := HL4.out.cells
  have f0 := zf 0
  have f1 := zf 1
  have f2 := zf 2
  have f3 := zf 3
  have l1 : Lw bs (w4.setCell ⟨W, 1, none⟩ (.bool false)) W (.int .i64 came) (.bool false) (.slice ka A.length kc) (.slice wa A.length wc) psv lsv3 ls3v3 (X ++ [y]) := HL4.out.set 1 _ rfl
  have l2 : Lw bs ((w4.setCell ⟨W, 1, none⟩ (.bool false)).setCell ⟨W, 2, none⟩ (.slice none 0 0)) W (.int .i64 came) (.bool false) (.slice none 0 0) (.slice wa A.length wc) psv lsv3 ls3v3 (X ++ [y]) := l1.set 2 _ rfl
  have l3 : Lw bs (((w4.setCell ⟨W, 1, none⟩ (.bool false)).setCell ⟨W, 2, none⟩ (.slice none 0 0)).setCell ⟨W, 3, none⟩ (.slice none 0 0)) W (.int .i64 came) (.bool false) (.slice none 0 0) (.slice none 0 0) psv lsv3 ls3v3 (X ++ [y]) := l2.set 3 _ rfl
  have l4 : Lw bs ((((w4.setCell ⟨W, 1, none⟩ (.bool false)).setCell ⟨W, 2, none⟩ (.slice none 0 0)).setCell ⟨W, 3, none⟩ (.slice none 0 0)).setCell ⟨W, 0, none⟩ (.int .i64 ((came : Int) + 1))) W (.int .i64 ((came + 1 : Nat) : Int)) (.bool false) (.slice none 0 0) (.slice none 0 0) psv lsv3 ls3v3 (X ++ [y]) := l3.set 0 _ rfl
  have fw4 : ∀ S : Nat → Prop, Fw S w4 ((((w4.setCell ⟨W, 1, none⟩ (.bool false)).setCell ⟨W, 2, none⟩ (.slice none 0 0)).setCell ⟨W, 3, none⟩ (.slice none 0 0)).setCell ⟨W, 0, none⟩ (.int .i64 ((came : Int) + 1))) := fun S =>
    (((Fw.of_set HL4.out.row 1 _).trans (Fw.of_set l1.row 2 _)).trans (Fw.of_set l2.row 3 _)).trans (Fw.of_set l3.row 0 _)
  have hol4 := (fw4 (fun _ => False)).owns (owns_ext HOL.out hx4) (fun _ _ => id) (by decide) (by decide)
  have hon4 := (fw4 (fun _ => False)).owns (owns_ext HON.out hx4) (fun _ _ => id) (by decide) (by decide)
  have hsz : w.heap.size ≤ w2.heap.size := HS2.out.size
  have hmy : ∀ x ∈ X ++ [y], ∀ u ∈ x.vals, Apart u (.slice a B.length cap) := by
    intro x hx u hu
    rcases List.mem_append.1 hx with h | h
    · exact hlm x h u hu
    · simp only [List.mem_cons, List.not_mem_nil, or_false] at h
      subst h
      exact Apart.of_at HL.out hlk hsz (HAT.out u hu)
  have fwA : Fw (fun k => some k = (Value.slice ka A.length kc).ownBlock ∨ some k = (Value.slice a B.length cap).ownBlock) w ((((w4.setCell ⟨W, 1, none⟩ (.bool false)).setCell ⟨W, 2, none⟩ (.slice none 0 0)).setCell ⟨W, 3, none⟩ (.slice none 0 0)).setCell ⟨W, 0, none⟩ (.int .i64 ((came : Int) + 1))) :=
    (((Fw.of_ext HS2.out).trans (HFW.out.mono (fun _ _ h => .inl h))).trans (Fw.of_ext hx4)).trans (fw4 _)
  have hwb := l4.wb
  have FRA := hid (show Fr (fun k => bs ≤ k) w ((((w4.setCell ⟨W, 1, none⟩ (.bool false)).setCell ⟨W, 2, none⟩ (.slice none 0 0)).setCell ⟨W, 3, none⟩ (.slice none 0 0)).setCell ⟨W, 0, none⟩ (.int .i64 ((came : Int) + 1))) from
    (((((HFR3.out.trans (Fr.of_ext hx4)).trans (Fr.of_set _ _ _ hwb)).trans (Fr.of_set _ _ _ hwb)).trans (Fr.of_set _ _ _ hwb)).trans (Fr.of_set _ _ _ hwb)))
  have L4 := hid l4
  have HOL4 := hid hol4
  have HON4 := hid hon4
  have HMY := hid hmy
  have FWA := hid fwA
  have hnw : Apart (.slice a B.length cap) (.slice na B.length nc) := by
    cases hq : (Value.slice na B.length nc).ownBlock with
    | none => exact Apart.symm (.inl hq)
    | some g => exact Apart.fresh HL.out hq (HO1.out.lt g hq).1
  clear hx4 l1 l2 l3 l4 fw4 hol4 hon4 hmy fwA
  go_wp2_with fail
  · refine (L4.out.marks (owns_base HOL4.out (Nat.zero_le _)) HMY.out hB (by simp; omega)).mono ?_
    rintro e w5 ⟨rfl, lsv5, ls3v5, y2, hl5, hat5, hfw5, hfr5⟩
    have HL5 := hid hl5
    have HF5 := hid hfw5
    have HR5 := hid (show Fr (fun k => bs ≤ k) _ _ from FRA.out.trans (hfr5.mono (fun k _ q => q.elim (fun e => (HL.out.lt k e.symm).1) id)))
    clear hl5 hat5 hfw5 hfr5
    go_wp2_with fail
    go_end0
    refine ⟨rfl, _, _, [], _, _, _, ⟨HL5.out, World.ownsRow_nil _ _ _ _, World.ownsRow_nil _ _ _ _, .inl rfl, fun x _ u _ => Apart.nil u, by simp⟩, by simp, FWA.out.trans (HF5.out.mono (fun _ _ h => .inr h)), HR5.out⟩
  · go_end0
    have l5 := L4.out.set 2 (.slice a B.length cap) (d0 := .int .i64 ((came + 1 : Nat) : Int)) (d1 := .bool false) (d2 := .slice a B.length cap) (d3 := .slice none 0 0) (d4 := psv) rfl
    have l6 := l5.set 3 (.slice na B.length nc) (d0 := .int .i64 ((came + 1 : Nat) : Int)) (d1 := .bool false) (d2 := .slice a B.length cap) (d3 := .slice na B.length nc) (d4 := psv) rfl
    have f5 : ∀ S : Nat → Prop, Fw S _ _ := fun S => (Fw.of_set (S := S) L4.out.row 2 (.slice a B.length cap)).trans (Fw.of_set l5.row 3 (.slice na B.length nc))
    refine ⟨rfl, _, _, B, _, _, _, ⟨l6, (f5 (fun _ => False)).owns HOL4.out (fun _ _ => id) (by decide) (by decide), owns_base ((f5 (fun _ => False)).owns HON4.out (fun _ _ => id) (by decide) (by decide)) (Nat.zero_le _), hnw, HMY.out, hB⟩, by simp, FWA.out.trans (f5 _), (FRA.out.trans (Fr.of_set _ _ _ hwb)).trans (Fr.of_set _ _ _ hwb)⟩
end Go.Proofs.YtjohkmkgmbihkaaGreatDoor

namespace Go.Proofs.YtjohkmkgmbihkaaGreatDoor
set_option linter.unusedVariables false
open Go.ChangeShapes Go.WideShapes Go.ChangeAt Go.RowKit
attribute [local go_sem ↓] Go.wp_at_zero Go.wp_at_succ

/-- A book, and the document's. -/
structure PB where
  b : Nat
  v : Value
  r : Nat
  rv : Value
  L : List It
def PB.cells (p : PB) : List Value := [.pointer (some ⟨p.b, 0, none⟩), .pointer (some ⟨p.r, 0, none⟩)]
def PB.ok (w : World) (p : PB) : Prop := Bk w p.b p.v p.L ∧ Rf w p.r p.rv p.L
def PB.off (p q : PB) : Prop := p.b ≠ q.b ∧ p.r ≠ q.r ∧ Apart p.v q.v ∧ Apart p.rv q.rv
/-- The blocks that a step writes. -/
def PB.at (p : PB) (k : Nat) : Prop := k = p.b ∨ k = p.r ∨ some k = p.rv.ownBlock
theorem PB.at_type {w : World} {p : PB} (h : p.ok w) {k : Nat} {c : Array Value} {t : TypeId} {f : Nat × Nat} (hk : w.heap[k]? = some (.cells c t f)) (ha : p.at k) : t = 91 ∨ t = 99 ∨ t = 110 := by
  rcases ha with rfl | rfl | ha
  · rw [h.1.1] at hk; simp only [Option.some.injEq, Obj.cells.injEq] at hk; exact .inl hk.2.1.symm
  · rw [h.2.1] at hk; simp only [Option.some.injEq, Obj.cells.injEq] at hk; exact .inr (.inl hk.2.1.symm)
  · obtain ⟨c', f', q⟩ := own_type h.2.2.1 ha.symm
    rw [q] at hk; simp only [Option.some.injEq, Obj.cells.injEq] at hk; exact .inr (.inr hk.2.1.symm)
theorem Bk.fr {S : Nat → Prop} {w w' : World} (f : Fr S w w') {b : Nat} {v : Value} {L : List It} (h : Bk w b v L) (hb : ¬ S b) (hv : ∀ g, v.ownBlock = some g → ¬ S g) : Bk w' b v L := ⟨f.row h.1 hb, f.owns h.2.1 hv, h.2.2⟩
theorem Rf.fr {S : Nat → Prop} {w w' : World} (f : Fr S w w') {b : Nat} {v : Value} {L : List It} (h : Rf w b v L) (hb : ¬ S b) (hv : ∀ g, v.ownBlock = some g → ¬ S g) : Rf w' b v L := ⟨f.row h.1 hb, f.owns h.2.1 hv, h.2.2⟩
theorem Fr.of_mod2 {w w' : World} {r : Nat} {o : Option Nat} (h : Mod2 w w' r o) : Fr (fun k => k = r ∨ some k = o) w w' := ⟨h.os, h.tape, h.output, h.size, fun k hk hs => h.block k hk (fun e => hs (.inl e)) (fun e => hs (.inr e))⟩
theorem PB.br {w : World} {p : PB} (h : p.ok w) : p.b ≠ p.r ∧ (∀ g, p.v.ownBlock = some g → g ≠ p.r ∧ some g ≠ p.rv.ownBlock ∧ g ≠ p.b) ∧ (∀ g, p.rv.ownBlock = some g → g ≠ p.b) ∧ some p.b ≠ p.rv.ownBlock := by
  have e1 := h.1.1
  have e2 := h.2.1
  refine ⟨?_, ?_, ?_, ?_⟩
  · intro q; rw [q, e2] at e1; simp only [Option.some.injEq, Obj.cells.injEq] at e1; exact absurd e1.2.1 (by decide)
  · intro g hg
    obtain ⟨c, f, q⟩ := own_type h.1.2.1 hg
    refine ⟨?_, ?_, ?_⟩
    · rintro rfl; rw [e2] at q; simp only [Option.some.injEq, Obj.cells.injEq] at q; exact absurd q.2.1 (by decide)
    · intro e; exact rows_ne q h.2.2.1 (by decide) e.symm
    · rintro rfl; rw [e1] at q; simp only [Option.some.injEq, Obj.cells.injEq] at q; exact absurd q.2.1 (by decide)
  · intro g hg e; subst e; exact rows_ne e1 h.2.2.1 (by decide) hg
  · intro e; exact rows_ne e1 h.2.2.1 (by decide) e.symm

/-- What a step of a book leaves: the book and the document's hold the same. -/
def Did (w : World) (p : PB) (w' : World) : Prop := ∃ v' rv' L', Bk w' p.b v' L' ∧ Rf w' p.r rv' L' ∧ Fr p.at w w' ∧ (v' = p.v ∨ ∀ g, v'.ownBlock = some g → w.heap.size ≤ g) ∧ (rv' = p.rv ∨ ∀ g, rv'.ownBlock = some g → w.heap.size ≤ g)
theorem Did.same {w w' : World} {p : PB} (h : p.ok w) (hx : Ext w w') : Did w p w' := ⟨p.v, p.rv, p.L, h.1.ext hx, h.2.ext hx, Fr.of_ext hx, .inl rfl, .inl rfl⟩
theorem Did.both {w w1 w2 : World} {p : PB} {v' rv' : Value} {L' : List It} (h : p.ok w) (hb : Bk w1 p.b v' L') (hg : w.grownBy w1 (some p.b)) (hv : v' = p.v ∨ ∀ g, v'.ownBlock = some g → w.heap.size ≤ g)
    (hr : Rf w2 p.r rv' L') (hm : Mod2 w1 w2 p.r p.rv.ownBlock) (hrv : rv' = p.rv ∨ ∀ g, rv'.ownBlock = some g → w1.heap.size ≤ g) : Did w p w2 := by
  obtain ⟨q1, q2, q3, q4⟩ := PB.br h
  have hsz := hg.size
  have hlr := h.2.lt
  refine ⟨v', rv', L', hb.fr (Fr.of_mod2 hm) ?_ ?_, hr, ?_, hv, hrv.imp id (fun k g hg' => Nat.le_trans hsz (k g hg'))⟩
  · rintro (e | e)
    · exact q1 e
    · exact q4 e
  · intro g hgv
    rintro (e | e)
    · rcases hv with rfl | hv
      · exact (q2 g hgv).1 e
      · have := hv g hgv; omega
    · rcases hv with rfl | hv
      · exact (q2 g hgv).2.1 e
      · have := hv g hgv
        have := (h.2.2.1.lt g e.symm).2
        omega
  · exact (Fr.of_grown hg (fun k hk => .inl (by simpa using hk.symm))).trans ((Fr.of_mod2 hm).mono (fun k _ hk => hk.elim (fun e => .inr (.inl e)) (fun e => .inr (.inr e))))
theorem Rf.grown {w w' : World} {p : PB} (h : p.ok w) (hg : w.grownBy w' (some p.b)) : Rf w' p.r p.rv p.L :=
  h.2.fr (Fr.of_grown (S := fun k => k = p.b) hg (fun k hk => by simpa using hk.symm)) (fun e => (PB.br h).1 e.symm) (fun g hg' => (PB.br h).2.2.1 g hg')

theorem Did.of_ext {w w0 w' : World} {p : PB} (hx : Ext w w0) (h : Did w0 p w') : Did w p w' := by
  obtain ⟨v', rv', L', h1, h2, h3, h4, h5⟩ := h
  exact ⟨v', rv', L', h1, h2, (Fr.of_ext hx).trans h3, h4.imp id (fun k g hg => Nat.le_trans hx.size (k g hg)), h5.imp id (fun k g hg => Nat.le_trans hx.size (k g hg))⟩
theorem lbox2 (w : World) (c1 c2 : Array Value) (t1 t2 : TypeId) : Ext w ((w.alloc (.cells c1 t1)).alloc (.cells c2 t2)) ∧ (∀ j u, c1[j]? = some u → ((w.alloc (.cells c1 t1)).alloc (.cells c2 t2)).cell? ⟨w.heap.size, j, none⟩ = some u) ∧
    (∀ j u, c2[j]? = some u → ((w.alloc (.cells c1 t1)).alloc (.cells c2 t2)).cell? ⟨w.heap.size + 1, j, none⟩ = some u) ∧ w.heap.size + 1 < ((w.alloc (.cells c1 t1)).alloc (.cells c2 t2)).heap.size := by
  refine ⟨((Ext.refl w).alloc _).alloc _, fun j u hu => ?_, fun j u hu => ?_, by simp⟩
  · exact ((Ext.refl (w.alloc (.cells c1 t1))).alloc _).keep1 ((cell_new w c1 t1 j).trans hu)
  · have := (cell_new (w.alloc (.cells c1 t1)) c2 t2 j).trans hu
    simpa using this

set_option maxHeartbeats 4000000 in
set_option maxRecDepth 100000 in
theorem does_any (p : PB) (k bk h : Int) (S T : ByteArray) (w : World) (hp : p.ok w) :
    Calls Tryz.prog 56 #[.agg #[.pointer (some ⟨p.b, 0, none⟩), .pointer (some ⟨p.r, 0, none⟩)], .agg #[.int .i64 k, .int .i64 bk, .int .i64 h, .string S, .string T]] w fun e w' => e = .returned (.bool true) ∧ Did w p w' := by
  have HP := hid hp
  have hlb := hp.1.lt
  clear hp
  obtain ⟨hx0, c0, c1, hs0⟩ := lbox2 w #[.pointer (some ⟨p.b, 0, none⟩), .pointer (some ⟨p.r, 0, none⟩)] #[.int .i64 k, .int .i64 bk, .int .i64 h, .string S, .string T] 101 64
  have p1 := c0 1 _ rfl
  have o2 := c1 2 _ rfl
  have o3 := c1 3 _ rfl
  have o4 := c1 4 _ rfl
  have HX0 := hid hx0
  clear hx0 c0 c1
  go_enter Tryz.func56, Tryz.ntmps56
  go_wp2_with fail
  all_goals generalize (w.alloc (.cells #[.pointer (some ⟨p.b, 0, none⟩), .pointer (some ⟨p.r, 0, none⟩)] 101)).alloc (.cells #[.int .i64 k, .int .i64 bk, .int .i64 h, .string S, .string T] 64) = w0 at *
  · have hp0 : p.ok w0 := ⟨HP.out.1.ext HX0.out, HP.out.2.ext HX0.out⟩
    refine (Put_any p.b p.v p.L S T h w0 hp0.1).mono ?_
    rintro e w1 ⟨rfl, v', hb1, hg1, hv1⟩
    have q1 := hg1.cell p1 (by simp; omega)
    have q2 := hg1.cell o2 (by simp; omega)
    have q3 := hg1.cell o3 (by simp; omega)
    have q4 := hg1.cell o4 (by simp; omega)
    have HP0 := hid hp0
    have HB1 := hid hb1
    have HG1 := hid hg1
    have HV1 := hid hv1
    clear hp0 hb1 hg1 hv1
    go_wp2_with fail
    refine (rPut_any p.r p.rv p.L S T h w1 (Rf.grown HP0.out HG1.out)).mono ?_
    rintro e w2 ⟨rfl, rv', hr2, hm2, hv2⟩
    have HD := hid (Did.of_ext HX0.out (Did.both HP0.out HB1.out HG1.out HV1.out hr2 hm2 hv2))
    clear hr2 hm2 hv2
    go_wp2_with fail
    go_ret
    exact ⟨by simp, HD.out⟩
  · have hp0 : p.ok w0 := ⟨HP.out.1.ext HX0.out, HP.out.2.ext HX0.out⟩
    refine (Delete_any p.b p.v p.L S w0 hp0.1).mono ?_
    rintro e w1 ⟨rfl, v', hb1, hg1, hv1⟩
    have q1 := hg1.cell p1 (by simp; omega)
    have q2 := hg1.cell o2 (by simp; omega)
    have q3 := hg1.cell o3 (by simp; omega)
    have q4 := hg1.cell o4 (by simp; omega)
    have HP0 := hid hp0
    have HB1 := hid hb1
    have HG1 := hid hg1
    have HV1 := hid hv1
    clear hp0 hb1 hg1 hv1
    go_wp2_with fail
    refine (rDelete_any p.r p.rv p.L S w1 (Rf.grown HP0.out HG1.out)).mono ?_
    rintro e w2 ⟨rfl, rv', hr2, hm2, hv2⟩
    have HD := hid (Did.of_ext HX0.out (Did.both HP0.out HB1.out HG1.out HV1.out hr2 hm2 hv2))
    clear hr2 hm2 hv2
    go_wp2_with fail
    go_ret
    exact ⟨by simp, HD.out⟩
  · have hp0 : p.ok w0 := ⟨HP.out.1.ext HX0.out, HP.out.2.ext HX0.out⟩
    refine (Get_any p.b p.v p.L S w0 hp0.1).mono ?_
    rintro e w1 ⟨rfl, hx1⟩
    have q1 := hx1.keep1 p1
    have q2 := hx1.keep1 o2
    have q3 := hx1.keep1 o3
    have q4 := hx1.keep1 o4
    have rc := (hp0.2.ext hx1).cell
    have HP0 := hid hp0
    have HX1 := hid hx1
    clear hp0 hx1
    go_wp2_with fail
    refine (rGet_any p.r p.rv p.L S w1 (HP0.out.2.ext HX1.out)).mono ?_
    rintro e w2 ⟨rfl, hx2⟩
    have HD := hid (Did.of_ext HX0.out (Did.same HP0.out (HX1.out.trans hx2)))
    clear hx2
    go_wp2_with fail
    go_ret
    exact ⟨by simp, HD.out⟩
  · have hp0 : p.ok w0 := ⟨HP.out.1.ext HX0.out, HP.out.2.ext HX0.out⟩
    refine (Digest_any p.b p.v p.L w0 hp0.1).mono ?_
    rintro e w1 ⟨rfl, hx1⟩
    have q1 := hx1.keep1 p1
    have q2 := hx1.keep1 o2
    have q3 := hx1.keep1 o3
    have q4 := hx1.keep1 o4
    have rc := (hp0.2.ext hx1).cell
    have HP0 := hid hp0
    have HX1 := hid hx1
    clear hp0 hx1
    go_wp2_with fail
    refine (rDigest_any p.L HP0.out.1.2.2 p.rv w1 (HP0.out.2.ext HX1.out).its).mono ?_
    rintro e w2 ⟨rfl, hx2⟩
    have HD := hid (Did.of_ext HX0.out (Did.same HP0.out (HX1.out.trans hx2)))
    clear hx2
    go_wp2_with fail
    go_ret
    exact ⟨by simp, HD.out⟩
  · have hp0 : p.ok w0 := ⟨HP.out.1.ext HX0.out, HP.out.2.ext HX0.out⟩
    refine (Prove_any p.b p.v p.L S T w0 hp0.1).mono ?_
    rintro e w1 ⟨rfl, hx1⟩
    have q1 := hx1.keep1 p1
    have q2 := hx1.keep1 o2
    have q3 := hx1.keep1 o3
    have q4 := hx1.keep1 o4
    have rc := (hp0.2.ext hx1).cell
    have HP0 := hid hp0
    have HX1 := hid hx1
    clear hp0 hx1
    go_wp2_with fail
    refine (rProve_any p.r p.rv p.L S T w1 (HP0.out.2.ext HX1.out)).mono ?_
    rintro e w2 ⟨rfl, hx2⟩
    have HD := hid (Did.of_ext HX0.out (Did.same HP0.out (HX1.out.trans hx2)))
    clear hx2
    go_wp2_with fail
    go_ret
    exact ⟨by simp, HD.out⟩
end Go.Proofs.YtjohkmkgmbihkaaGreatDoor

namespace Go.Proofs.YtjohkmkgmbihkaaGreatDoor
set_option linter.unusedVariables false
open Go.ChangeShapes Go.WideShapes Go.ChangeAt Go.RowKit
attribute [local go_sem ↓] Go.wp_at_zero Go.wp_at_succ

theorem Fr.owns_type {S : Nat → Prop} {w w' : World} (h : Fr S w w') {base : Nat} {e : TypeId} {size : Nat} {v : Value} {n : Nat} {xs : List Value} (ho : w.ownsRow base e size v n xs) (hs : ∀ k c f, w.heap[k]? = some (.cells c e f) → ¬ S k) : w'.ownsRow base e size v n xs :=
  h.owns ho (fun g hg => by obtain ⟨c, f, q⟩ := own_type ho hg; exact hs _ _ _ q)
/-- S holds no block of the law's own. -/
def Free (S : Nat → Prop) (w : World) : Prop := ∀ k c t f, w.heap[k]? = some (.cells c t f) → S k → t ≠ 60 ∧ t ≠ 27 ∧ t ≠ 53
theorem Lw.fr {S : Nat → Prop} {w w' : World} (f : Fr S w w') (hs : Free S w) {bs : Nat} {W : Nat} {c0 c1 c2 c3 c4 lsv ls3v : Value} {X : List ML} (h : Lw bs w W c0 c1 c2 c3 c4 lsv ls3v X) : Lw bs w' W c0 c1 c2 c3 c4 lsv ls3v X := by
  have m : ∀ (u : Value) (c : Nat) (q : ByteArray), Mk w u c q → Mk w' u c q := fun u c q hm => f.owns_type hm (fun k c f' hk s => (hs k c _ f' hk s).2.2 rfl)
  exact ⟨f.row h.row (fun s => (hs _ _ _ _ h.row s).1 rfl), Nat.le_trans h.hbs f.size, h.wb, f.owns_type h.own (fun k c f' hk s => (hs k c _ f' hk s).2.1 rfl), f.owns_type h.own3 (fun k c f' hk s => (hs k c _ f' hk s).2.1 rfl), h.off,
    fun i x hx => ⟨m _ _ _ (h.marked i x hx).1, m _ _ _ (h.marked i x hx).2.1, m _ _ _ (h.marked i x hx).2.2.1, m _ _ _ (h.marked i x hx).2.2.2⟩⟩
theorem Wd.fr {S : Nat → Prop} {w w' : World} (f : Fr S w w') (hs : Free S w) {bs : Nat} {W came : Nat} {psv kv wv : Value} {A : List Pr} {lsv ls3v : Value} {X : List ML} (h : Wd bs w W came psv kv wv A lsv ls3v X) : Wd bs w' W came psv kv wv A lsv ls3v X :=
  ⟨h.lw.fr f hs, f.owns_type h.kept (fun k c f' hk s => (hs k c _ f' hk s).2.2 rfl), f.owns_type h.were (fun k c f' hk s => (hs k c _ f' hk s).2.2 rfl), h.kw, h.km, h.small⟩
theorem Wd.ext {w w' : World} (hx : Ext w w') {bs : Nat} {W came : Nat} {psv kv wv : Value} {A : List Pr} {lsv ls3v : Value} {X : List ML} (h : Wd bs w W came psv kv wv A lsv ls3v X) : Wd bs w' W came psv kv wv A lsv ls3v X :=
  Wd.fr (S := fun _ => False) (Fr.of_ext hx) (fun _ _ _ _ _ s => s.elim) h
theorem PB.ok.ext {w w' : World} {p : PB} (h : p.ok w) (hx : Ext w w') : p.ok w' := ⟨h.1.ext hx, h.2.ext hx⟩

/-- The whole. -/
structure Law (bs : Nat) (w : World) (W : Nat) (came : Nat) (psv kv wv : Value) (A : List Pr) (lsv ls3v : Value) (X : List ML) (P : List PB) : Prop where
  wd : Wd bs w W came psv kv wv A lsv ls3v X
  ps : w.ownsRow bs 101 2 psv P.length (P.flatMap PB.cells)
  bk : ∀ (i : Nat) (p : PB), P[i]? = some p → p.ok w
  dist : ∀ (i j : Nat) (p q : PB), P[i]? = some p → P[j]? = some q → i ≠ j → p.off q
  pb : ∀ (i : Nat) (p : PB), P[i]? = some p → bs ≤ p.b ∧ bs ≤ p.r ∧ ∀ g, p.rv.ownBlock = some g → bs ≤ g
theorem Law.ext {w w' : World} (hx : Ext w w') {bs : Nat} {W came : Nat} {psv kv wv : Value} {A : List Pr} {lsv ls3v : Value} {X : List ML} {P : List PB} (h : Law bs w W came psv kv wv A lsv ls3v X P) : Law bs w' W came psv kv wv A lsv ls3v X P :=
  ⟨h.wd.ext hx, owns_ext h.ps hx, fun i p hp => (h.bk i p hp).ext hx, h.dist, h.pb⟩

theorem infoLpair : ∃ i, Tryz.prog.info? 101 = some i ∧ i.zero = some (.agg #[.pointer none, .pointer none]) ∧ i.size = 2 ∧ i.bytes = 16 := info_of (by kernel_rfl)
theorem app_lpair {bs : Nat} (w : World) (hbs : bs ≤ w.heap.size) (v : Value) (n : Nat) (ls : List Value) (x y : Addr) (hown : w.ownsRow bs 101 2 v n ls) (hn : n ≤ 1000000000) :
    ∃ v' w', (Builtin.append_ #[57, 57] 57 #[v, .slice (some ⟨w.heap.size, 0, none⟩) 1 1]).run Tryz.prog (w.alloc (.cells #[.pointer (some x), .pointer (some y)] 101)) = .ok v' w' ∧
      w'.ownsRow bs 101 2 v' (n + 1) (ls ++ [.pointer (some x), .pointer (some y)]) ∧ w.grownBy w' v.ownBlock := by
  obtain ⟨i, hi, hz, hs, hb⟩ := infoLpair
  obtain ⟨v', w', hr, ho, hg, _, hat⟩ := run_append_own_at (P := Tryz.prog) (w.alloc (.cells #[.pointer (some x), .pointer (some y)] 101)) bs 57 57 101 i _ 2 16 Tryz.underlying57 hi hz hs hb rfl (by decide) v n ls (hown.alloc _) ⟨w.heap.size, 0, none⟩ 1 1 [.pointer (some x), .pointer (some y)] rfl
    (by intro j u hj; rw [addr_add, Nat.zero_add, cell_new]; simpa using hj) (by intro u hu; simp at hu; rcases hu with rfl | rfl <;> rfl) (by unfold maxLen; omega) (by omega) (by simp; omega)
  refine ⟨v', w', hr, ho, ⟨hg.os, hg.tape, hg.output, Nat.le_trans (by simp) hg.size, fun q hq hne => ?_⟩⟩
  rw [hg.block q (by simp; omega) hne, Below.heap_alloc _ _ _ hq]

theorem alloc_row' (w : World) (o : Obj) : (w.alloc o).heap[w.heap.size]? = some o := heap_alloc_new w o
theorem alloc_size' (w : World) (o : Obj) : (w.alloc o).heap.size = w.heap.size + 1 := by simp
set_option maxHeartbeats 4000000 in
set_option maxRecDepth 100000 in
theorem open_any (bs : Nat) (W : Nat) (came : Nat) (psv kv wv : Value) (A : List Pr) (lsv ls3v : Value) (X : List ML) (P : List PB) (w : World) (h : Law bs w W came psv kv wv A lsv ls3v X P) (hP : P.length ≤ 100000000) :
    Calls Tryz.prog 25 #[.pointer (some ⟨W, 0, none⟩)] w fun e w' => e = .returned (.bool true) ∧ (∃ psv' p, Law bs w' W came psv' kv wv A lsv ls3v X (P ++ [p])) ∧ Fr (fun k => bs ≤ k) w w' := by
  have HL := hid h
  clear h
  go_enter Tryz.func25, Tryz.ntmps25
  go_wp2_with fail
  refine (New_any w).mono ?_
  rintro e w1 ⟨rfl, hx1, hb1⟩
  have hxr := hx1.alloc (.cells #[.slice none 0 0] 99)
  have L2 := HL.out.ext hxr
  have rf : Rf (w1.alloc (.cells #[.slice none 0 0] 99)) w1.heap.size (.slice none 0 0) [] := ⟨alloc_row' _ _, World.ownsRow_nil _ _ _ _, Good.nil⟩
  have hb2 := hb1.ext ((Ext.refl w1).alloc (.cells #[.slice none 0 0] 99))
  obtain ⟨pv, w3, hr3, ho3, hg3⟩ := app_lpair (w1.alloc (.cells #[.slice none 0 0] 99)) L2.wd.lw.hbs psv P.length _ ⟨w.heap.size, 0, none⟩ ⟨w1.heap.size, 0, none⟩ L2.ps (by omega)
  rw [show (w1.alloc (.cells #[.slice none 0 0] 99)).heap.size = w1.heap.size + 1 from alloc_size' _ _] at hr3
  obtain ⟨pa, pc', rfl⟩ := own_slice ho3
  obtain ⟨qa, qc, rfl⟩ := own_slice L2.ps
  have fr3 : Fr (fun k => some k = (Value.slice qa P.length qc).ownBlock) (w1.alloc (.cells #[.slice none 0 0] 99)) w3 := Fr.of_grown hg3 (fun k hk => hk.symm)
  have ty : ∀ k c t f, (w1.alloc (.cells #[.slice none 0 0] 99)).heap[k]? = some (.cells c t f) → some k = (Value.slice qa P.length qc).ownBlock → t = 101 := by
    intro k c t f hk e
    obtain ⟨c', f', q⟩ := own_type L2.ps e.symm
    rw [q] at hk; simp only [Option.some.injEq, Obj.cells.injEq] at hk; exact hk.2.1.symm
  have wd3 := L2.wd.fr fr3 (fun k c t f hk e => by rw [ty k c t f hk e]; decide)
  have bk3 : ∀ (q : PB), q.ok (w1.alloc (.cells #[.slice none 0 0] 99)) → q.ok w3 := fun q hq =>
    ⟨⟨fr3.row hq.1.1 (fun e => absurd (ty _ _ _ _ hq.1.1 e) (by decide)), fr3.owns_type hq.1.2.1 (fun k c f hk e => absurd (ty _ _ _ _ hk e) (by decide)), hq.1.2.2⟩,
      ⟨fr3.row hq.2.1 (fun e => absurd (ty _ _ _ _ hq.2.1 e) (by decide)), fr3.owns_type hq.2.2.1 (fun k c f hk e => absurd (ty _ _ _ _ hk e) (by decide)), hq.2.2.2⟩⟩
  have wd4 : Wd bs (w3.setCell ⟨W, 4, none⟩ (.slice pa (P.length + 1) pc')) W came (.slice pa (P.length + 1) pc') kv wv A lsv ls3v X :=
    ⟨wd3.lw.set 4 _ rfl, set_owns wd3.lw.row 4 _ wd3.kept (by decide), set_owns wd3.lw.row 4 _ wd3.were (by decide), wd3.kw, wd3.km, wd3.small⟩
  have bk4 : ∀ (q : PB), q.ok (w1.alloc (.cells #[.slice none 0 0] 99)) → q.ok (w3.setCell ⟨W, 4, none⟩ (.slice pa (P.length + 1) pc')) := fun q hq => by
    have f := Fr.of_set (S := fun k => k = W) w3 ⟨W, 4, none⟩ (.slice pa (P.length + 1) pc') rfl
    have hq' := bk3 q hq
    have hw := wd3.lw.row
    refine ⟨⟨f.row hq'.1.1 ?_, f.owns_type hq'.1.2.1 ?_, hq'.1.2.2⟩, ⟨f.row hq'.2.1 ?_, f.owns_type hq'.2.2.1 ?_, hq'.2.2.2⟩⟩
    · intro e; have := hq'.1.1; rw [e, hw] at this; simp only [Option.some.injEq, Obj.cells.injEq] at this; exact absurd this.2.1 (by decide)
    · intro k c f hk e; rw [e, hw] at hk; simp only [Option.some.injEq, Obj.cells.injEq] at hk; exact absurd hk.2.1 (by decide)
    · intro e; have := hq'.2.1; rw [e, hw] at this; simp only [Option.some.injEq, Obj.cells.injEq] at this; exact absurd this.2.1 (by decide)
    · intro k c f hk e; rw [e, hw] at hk; simp only [Option.some.injEq, Obj.cells.injEq] at hk; exact absurd hk.2.1 (by decide)
  have hs1 := hx1.size
  have FIN := hid (show Law bs (w3.setCell ⟨W, 4, none⟩ (.slice pa (P.length + 1) pc')) W came (.slice pa (P.length + 1) pc') kv wv A lsv ls3v X (P ++ [⟨w.heap.size, .slice none 0 0, w1.heap.size, .slice none 0 0, []⟩]) by
    have old : ∀ (i : Nat) (p : PB), P[i]? = some p → p.off ⟨w.heap.size, .slice none 0 0, w1.heap.size, .slice none 0 0, []⟩ := fun i p hp => by
      have := HL.out.bk i p hp
      have h1 := this.1.lt
      have h2 := this.2.lt
      exact ⟨by simp; omega, by simp; omega, Apart.nil _, Apart.nil _⟩
    refine ⟨wd4, ?_, ?_, ?_, ?_⟩
    · have := set_owns wd3.lw.row 4 (.slice pa (P.length + 1) pc') ho3 (by decide)
      simpa [PB.cells] using this
    · intro i p hp
      by_cases hi : i < P.length
      · rw [List.getElem?_append_left hi] at hp
        exact bk4 p (L2.bk i p hp)
      · have hlt := (List.getElem?_eq_some_iff.1 hp).1
        simp only [List.length_append, List.length_cons, List.length_nil] at hlt
        obtain rfl : i = P.length := by omega
        simp only [List.getElem?_concat_length, Option.some.injEq] at hp
        subst hp
        exact bk4 _ ⟨hb2, rf⟩
    · intro i j p q hp hq hij
      have hil := (List.getElem?_eq_some_iff.1 hp).1
      have hjl := (List.getElem?_eq_some_iff.1 hq).1
      simp only [List.length_append, List.length_cons, List.length_nil] at hil hjl
      by_cases hi : i < P.length
      · rw [List.getElem?_append_left hi] at hp
        by_cases hj : j < P.length
        · rw [List.getElem?_append_left hj] at hq
          exact HL.out.dist i j p q hp hq hij
        · obtain rfl : j = P.length := by omega
          simp only [List.getElem?_concat_length, Option.some.injEq] at hq
          subst hq
          exact old i p hp
      · obtain rfl : i = P.length := by omega
        rw [List.getElem?_append_left (by omega)] at hq
        simp only [List.getElem?_concat_length, Option.some.injEq] at hp
        subst hp
        obtain ⟨a1, a2, a3, a4⟩ := old j q hq
        exact ⟨a1.symm, a2.symm, a3.symm, a4.symm⟩
    · intro i p hp
      have hb0 := HL.out.wd.lw.hbs
      by_cases hi : i < P.length
      · rw [List.getElem?_append_left hi] at hp
        exact HL.out.pb i p hp
      · have hlt := (List.getElem?_eq_some_iff.1 hp).1
        simp only [List.length_append, List.length_cons, List.length_nil] at hlt
        obtain rfl : i = P.length := by omega
        simp only [List.getElem?_concat_length, Option.some.injEq] at hp
        subst hp
        exact ⟨hb0, Nat.le_trans hb0 hs1, fun g hg => by cases hg⟩)
  have FRA := hid (show Fr (fun k => bs ≤ k) w (w3.setCell ⟨W, 4, none⟩ (.slice pa (P.length + 1) pc')) from
    ((Fr.of_ext hxr).trans (fr3.mono (fun k _ e => (L2.ps.lt k e.symm).1))).trans (Fr.of_set _ _ _ HL.out.wd.lw.wb))
  obtain ⟨_, _, _, _, z4, _, _, _⟩ := (HL.out.ext hx1).wd.lw.cells
  obtain ⟨_, _, _, _, y4, _, _, zf⟩ := wd3.lw.cells
  have f4 := zf 4
  have HR := hid hr3
  clear zf hr3 ho3 hg3 fr3 ty wd3 bk3 wd4 bk4 hxr L2 rf hb2 hb1 hx1
  go_wp2_with (at_builtin; refine wpList_append_run rfl _ _ 57 57 rfl (.slice qa P.length qc) (.slice (some ⟨w1.heap.size + 1, 0, none⟩) 1 1) rfl rfl _ _ HR.out ?_)
  go_ret
  exact ⟨rfl, ⟨_, _, FIN.out⟩, FRA.out⟩
end Go.Proofs.YtjohkmkgmbihkaaGreatDoor

namespace Go.Proofs.YtjohkmkgmbihkaaGreatDoor
set_option linter.unusedVariables false
open Go.ChangeShapes Go.WideShapes Go.ChangeAt Go.RowKit
attribute [local go_sem ↓] Go.wp_at_zero Go.wp_at_succ

theorem cells_get : ∀ (P : List PB) (i : Nat) (p : PB), P[i]? = some p → (P.flatMap PB.cells)[i * 2]? = some (.pointer (some ⟨p.b, 0, none⟩)) ∧ (P.flatMap PB.cells)[i * 2 + 1]? = some (.pointer (some ⟨p.r, 0, none⟩)) := by
  intro P
  induction P with
  | nil => intro i p h; simp at h
  | cons q P ih =>
    intro i p h
    rw [List.flatMap_cons]
    cases i with
    | zero => simp only [List.getElem?_cons_zero, Option.some.injEq] at h; subst h; simp [PB.cells]
    | succ i =>
      rw [List.getElem?_cons_succ] at h
      obtain ⟨h1, h2⟩ := ih i p h
      have hl : q.cells.length = 2 := rfl
      refine ⟨?_, ?_⟩
      · rw [List.getElem?_append_right (by omega), hl, show (i + 1) * 2 - 2 = i * 2 by omega]; exact h1
      · rw [List.getElem?_append_right (by omega), hl, show (i + 1) * 2 + 1 - 2 = i * 2 + 1 by omega]; exact h2
theorem cells_set (P : List PB) (i : Nat) (p q : PB) (hp : P[i]? = some p) (hc : q.cells = p.cells) : (P.set i q).flatMap PB.cells = P.flatMap PB.cells := by
  rw [List.flatMap_def, List.flatMap_def, List.map_set, hc]
  congr 1
  apply List.ext_getElem?
  intro j
  rw [List.getElem?_set]
  split
  · rename_i h; subst h
    have hlt := (List.getElem?_eq_some_iff.1 hp).1
    rw [List.getElem?_map, hp]; simp [hlt]
  · rfl
theorem row_type {w : World} {k : Nat} {c c' : Array Value} {t t' : TypeId} {f f' : Nat × Nat} (h : w.heap[k]? = some (.cells c t f)) (h' : w.heap[k]? = some (.cells c' t' f')) : t = t' := by
  rw [h] at h'; simp only [Option.some.injEq, Obj.cells.injEq] at h'; exact h'.2.1
theorem Law.did {w w' : World} {bs : Nat} {W came : Nat} {psv kv wv : Value} {A : List Pr} {lsv ls3v : Value} {X : List ML} {P : List PB} (h : Law bs w W came psv kv wv A lsv ls3v X P) {i : Nat} {p : PB} (hp : P[i]? = some p) (hd : Did w p w') :
    (∃ P', Law bs w' W came psv kv wv A lsv ls3v X P' ∧ P'.length = P.length) ∧ Fr (fun k => bs ≤ k) w w' := by
  obtain ⟨v', rv', L', hb, hr, fr, hv, hrv⟩ := hd
  have hok := h.bk i p hp
  have hlt := (List.getElem?_eq_some_iff.1 hp).1
  have ty : ∀ k c t f, w.heap[k]? = some (.cells c t f) → p.at k → t = 91 ∨ t = 99 ∨ t = 110 := fun k c t f hk ha => PB.at_type hok hk ha
  have hpb := h.pb i p hp
  have hbs := h.wd.lw.hbs
  refine ⟨⟨P.set i ⟨p.b, v', p.r, rv', L'⟩, ⟨?_, ?_, ?_, ?_, ?_⟩, by simp⟩, fr.mono (fun k _ a => by
    rcases a with a | a | a
    · rw [a]; exact hpb.1
    · rw [a]; exact hpb.2.1
    · exact hpb.2.2 k a.symm)⟩
  · exact h.wd.fr fr (fun k c t f hk ha => by rcases ty k c t f hk ha with e | e | e <;> rw [e] <;> decide)
  · rw [cells_set P i p ⟨p.b, v', p.r, rv', L'⟩ hp rfl, List.length_set]
    exact fr.owns_type h.ps (fun k c f hk ha => by rcases ty k c _ f hk ha with e | e | e <;> exact absurd e (by decide))
  · intro j q hq
    rw [List.getElem?_set] at hq
    split at hq
    · rename_i e
      simp only [Option.some.injEq] at hq
      subst hq
      exact ⟨hb, hr⟩
    · rename_i e
      have hqo := h.bk j q hq
      obtain ⟨o1, o2, o3, o4⟩ := h.dist j i q p hq hp (fun k => e k.symm)
      refine ⟨hqo.1.fr fr ?_ ?_, hqo.2.fr fr ?_ ?_⟩
      · rintro (k | k | k)
        · exact o1 k
        · exact absurd (row_type hqo.1.1 (k ▸ hok.2.1)) (by decide)
        · obtain ⟨c, f, r⟩ := own_type hok.2.2.1 k.symm
          exact absurd (row_type hqo.1.1 r) (by decide)
      · intro g hg ha
        obtain ⟨c, f, r⟩ := own_type hqo.1.2.1 hg
        rcases ty _ _ _ _ r ha with e | e | e <;> exact absurd e (by decide)
      · rintro (k | k | k)
        · exact absurd (row_type hqo.2.1 (k ▸ hok.1.1)) (by decide)
        · exact o2 k
        · obtain ⟨c, f, r⟩ := own_type hok.2.2.1 k.symm
          exact absurd (row_type hqo.2.1 r) (by decide)
      · intro g hg
        obtain ⟨c, f, r⟩ := own_type hqo.2.2.1 hg
        rintro (k | k | k)
        · exact absurd (row_type r (k ▸ hok.1.1)) (by decide)
        · exact absurd (row_type r (k ▸ hok.2.1)) (by decide)
        · exact o4.not g hg k
  · have new : ∀ (j : Nat) (q : PB), P[j]? = some q → j ≠ i → q.off ⟨p.b, v', p.r, rv', L'⟩ := by
      intro j q hq hji
      have hqo := h.bk j q hq
      obtain ⟨o1, o2, o3, o4⟩ := h.dist j i q p hq hp hji
      refine ⟨o1, o2, ?_, ?_⟩
      · rcases hv with e | hv
        · rw [e]; exact o3
        · cases hq' : v'.ownBlock with
          | none => exact Apart.symm (.inl hq')
          | some g => exact Apart.fresh hqo.1.2.1 hq' (hv g hq')
      · rcases hrv with e | hv
        · rw [e]; exact o4
        · cases hq' : rv'.ownBlock with
          | none => exact Apart.symm (.inl hq')
          | some g => exact Apart.fresh hqo.2.2.1 hq' (hv g hq')
    intro j k q r hq hr' hjk
    rw [List.getElem?_set] at hq hr'
    split at hq
    · rename_i e
      simp only [Option.some.injEq] at hq
      subst hq
      rw [if_neg (fun k' => hjk (e.symm.trans k'))] at hr'
      obtain ⟨a1, a2, a3, a4⟩ := new k r hr' (fun k' => hjk (e.symm.trans k'.symm))
      exact ⟨a1.symm, a2.symm, a3.symm, a4.symm⟩
    · rename_i e
      split at hr'
      · rename_i e2
        simp only [Option.some.injEq] at hr'
        subst hr'
        exact new j q hq (fun k' => e k'.symm)
      · exact h.dist j k q r hq hr' hjk
  · intro j q hq
    rw [List.getElem?_set] at hq
    split at hq
    · rename_i e
      simp only [Option.some.injEq] at hq
      subst hq
      refine ⟨hpb.1, hpb.2.1, fun g hg => ?_⟩
      rcases hrv with e | hv
      · exact hpb.2.2 g (e ▸ hg)
      · exact Nat.le_trans hbs (hv g hg)
    · exact h.pb j q hq
theorem Fw.ok {S : Nat → Prop} {w w' : World} (f : Fw S w w') (hs : ∀ k c t g, w.heap[k]? = some (.cells c t g) → S k → t = 53) {p : PB} (h : p.ok w) : p.ok w' := by
  refine ⟨⟨f.block _ _ _ _ h.1.1 (fun s => absurd (hs _ _ _ _ h.1.1 s) (by decide)) (by decide) (by decide), f.owns h.1.2.1 ?_ (by decide) (by decide), h.1.2.2⟩, ⟨f.block _ _ _ _ h.2.1 (fun s => absurd (hs _ _ _ _ h.2.1 s) (by decide)) (by decide) (by decide), f.owns h.2.2.1 ?_ (by decide) (by decide), h.2.2.2⟩⟩
  · intro g hg s
    obtain ⟨c, f', r⟩ := own_type h.1.2.1 hg
    exact absurd (hs _ _ _ _ r s) (by decide)
  · intro g hg s
    obtain ⟨c, f', r⟩ := own_type h.2.2.1 hg
    exact absurd (hs _ _ _ _ r s) (by decide)
/-- Behind takes. -/
theorem Law.took {w w' : World} {bs : Nat} {W came : Nat} {psv kv wv : Value} {A : List Pr} {lsv ls3v : Value} {X : List ML} {P : List PB} (h : Law bs w W came psv kv wv A lsv ls3v X P) {l : Value} {n : Nat} {xs : List Value} (hl : w.ownsRow bs 53 2 l n xs)
    {came' : Nat} {kv' wv' : Value} {A' : List Pr} {lsv' ls3v' : Value} {X' : List ML} (hw : Wd bs w' W came' psv kv' wv' A' lsv' ls3v' X') (f : Fw (fun k => some k = kv.ownBlock ∨ some k = l.ownBlock) w w') : Law bs w' W came' psv kv' wv' A' lsv' ls3v' X' P := by
  have hs : ∀ k c t g, w.heap[k]? = some (.cells c t g) → (some k = kv.ownBlock ∨ some k = l.ownBlock) → t = 53 := by
    rintro k c t g hk (e | e)
    · obtain ⟨c', f', r⟩ := own_type h.wd.kept e.symm
      exact row_type hk r
    · obtain ⟨c', f', r⟩ := own_type hl e.symm
      exact row_type hk r
  refine ⟨hw, f.owns h.ps ?_ (by decide) (by decide), fun i p hp => f.ok hs (h.bk i p hp), h.dist, h.pb⟩
  intro g hg s
  obtain ⟨c, f', r⟩ := own_type h.ps hg
  exact absurd (hs _ _ _ _ r s) (by decide)

set_option maxHeartbeats 4000000 in
set_option maxRecDepth 100000 in
theorem step_any (bs : Nat) (W : Nat) (came : Nat) (psv kv wv : Value) (A : List Pr) (lsv ls3v : Value) (X : List ML) (P : List PB) (w : World) (hL : Law bs w W came psv kv wv A lsv ls3v X P) (hP0 : 0 < P.length) (hP : P.length ≤ 100000000) (hX : X.length ≤ 10000000) (hc : came ≤ 100000000)
    (k bk h : Int) (S T : ByteArray) (hk : k ≠ 8) (hb0 : -9223372036854775808 ≤ bk) (hb1 : bk ≤ 9223372036854775807) :
    Calls Tryz.prog 26 #[.pointer (some ⟨W, 0, none⟩), .agg #[.int .i64 k, .int .i64 bk, .int .i64 h, .string S, .string T]] w fun e w' => e = .returned (.bool true) ∧
      (∃ came' psv' kv' wv' A' lsv' ls3v' X' P', Law bs w' W came' psv' kv' wv' A' lsv' ls3v' X' P' ∧ came' ≤ came + 1 ∧ X'.length ≤ X.length + 2 ∧ P'.length ≤ P.length + 1 ∧ P.length ≤ P'.length) ∧ Fr (fun k => bs ≤ k) w w' := by
  obtain ⟨i, hi, hpk⟩ : ∃ i : Nat, i < P.length ∧ pickN bk (P.length : Int) = i := by
    obtain ⟨h1, h2⟩ := pickN_bd bk (P.length : Int) (by omega)
    exact ⟨(pickN bk (P.length : Int)).toNat, by omega, by omega⟩
  obtain ⟨p, hp⟩ : ∃ p, P[i]? = some p := ⟨_, List.getElem?_eq_getElem hi⟩
  obtain ⟨g, cap, rfl⟩ : ∃ g cap, psv = .slice (some ⟨g, 0, none⟩) P.length cap := by
    rcases hL.ps.2 with ⟨_, q⟩ | ⟨g, c, cur, q, _⟩
    · omega
    · exact ⟨g, c, q⟩
  obtain ⟨q0, q1⟩ := cells_get P i p hp
  have hx0 : Ext w (w.alloc (.cells #[.int .i64 k, .int .i64 bk, .int .i64 h, .string S, .string T] 64)) := (Ext.refl w).alloc _
  have c0 : (w.alloc (.cells #[.int .i64 k, .int .i64 bk, .int .i64 h, .string S, .string T] 64)).cell? ⟨w.heap.size, 0, none⟩ = some (.int .i64 k) := cell_new w _ _ 0
  have c1 : (w.alloc (.cells #[.int .i64 k, .int .i64 bk, .int .i64 h, .string S, .string T] 64)).cell? ⟨w.heap.size, 1, none⟩ = some (.int .i64 bk) := cell_new w _ _ 1
  have c2 : (w.alloc (.cells #[.int .i64 k, .int .i64 bk, .int .i64 h, .string S, .string T] 64)).cell? ⟨w.heap.size, 2, none⟩ = some (.int .i64 h) := cell_new w _ _ 2
  have c3 : (w.alloc (.cells #[.int .i64 k, .int .i64 bk, .int .i64 h, .string S, .string T] 64)).cell? ⟨w.heap.size, 3, none⟩ = some (.string S) := cell_new w _ _ 3
  have c4 : (w.alloc (.cells #[.int .i64 k, .int .i64 bk, .int .i64 h, .string S, .string T] 64)).cell? ⟨w.heap.size, 4, none⟩ = some (.string T) := cell_new w _ _ 4
  have h0 : (w.alloc (.cells #[.int .i64 k, .int .i64 bk, .int .i64 h, .string S, .string T] 64)).heap.size = w.heap.size + 1 := alloc_size' _ _
  have hL0 := hL.ext hx0
  obtain ⟨_, _, _, _, z4, _, _, _⟩ := hL0.wd.lw.cells
  have y0 := (hL0.ps.cellAt (i * 2) (by omega)).trans q0
  have y1 := (hL0.ps.cellAt (i * 2 + 1) (by omega)).trans q1
  have HX0 := hid hx0
  have HL0 := hid hL0
  have HP := hid hp
  clear hL hL0 hp q0 q1 hx0
  go_enter Tryz.func26, Tryz.ntmps26
  go_wp2_with fail
  all_goals generalize w.alloc (.cells #[.int .i64 k, .int .i64 bk, .int .i64 h, .string S, .string T] 64) = w0 at *
  · refine (open_any bs W came _ kv wv A lsv ls3v X P w0 HL0.out hP).mono ?_
    rintro e w1 ⟨rfl, ⟨psv', p', hl1⟩, hf1⟩
    have HL1 := hid hl1
    have HF1 := hid hf1
    clear hl1 hf1
    go_wp2_with fail
    go_ret
    exact ⟨rfl, ⟨_, _, _, _, _, _, _, _, _, HL1.out, by omega, by omega, by simp, by simp⟩, (Fr.of_ext HX0.out).trans HF1.out⟩
  · go_ret
    exact ⟨by simp, ⟨_, _, _, _, _, _, _, _, _, HL0.out, by omega, by omega, by omega, by omega⟩, Fr.of_ext HX0.out⟩
  · go_region_held3 (fun w' => w'.cell? ⟨W, 4, none⟩ = some (.slice (some ⟨g, 0, none⟩) P.length cap) ∧ w'.cell? ⟨w.heap.size, 1, none⟩ = some (.int .i64 bk) ∧ w'.cell? ⟨g, i * 2, none⟩ = some (.pointer (some ⟨p.b, 0, none⟩)) ∧ w'.cell? ⟨g, i * 2 + 1, none⟩ = some (.pointer (some ⟨p.r, 0, none⟩))) (go_keep)
      (first
        | (go_at_call 50; refine (lpick_any bk P.length hb0 hb1 (by omega) (by omega) _).mono ?_; rintro e w2 ⟨rfl, h2⟩; subst h2; rw [hpk]))
    all_goals
      have hx1 : Ext w0 (w0.alloc (.cells #[.pointer (some ⟨p.b, 0, none⟩), .pointer (some ⟨p.r, 0, none⟩)] 101)).drew := ((Ext.refl _).alloc _).drew
      have p0 : (w0.alloc (.cells #[.pointer (some ⟨p.b, 0, none⟩), .pointer (some ⟨p.r, 0, none⟩)] 101)).drew.cell? ⟨w.heap.size + 1, 0, none⟩ = some (.pointer (some ⟨p.b, 0, none⟩)) := by rw [← h0]; exact cell_new w0 _ _ 0
      have p1 : (w0.alloc (.cells #[.pointer (some ⟨p.b, 0, none⟩), .pointer (some ⟨p.r, 0, none⟩)] 101)).drew.cell? ⟨w.heap.size + 1, 1, none⟩ = some (.pointer (some ⟨p.r, 0, none⟩)) := by rw [← h0]; exact cell_new w0 _ _ 1
      have d0 := hx1.keep1 c0
      have d1 := hx1.keep1 c1
      have d2 := hx1.keep1 c2
      have d3 := hx1.keep1 c3
      have d4 := hx1.keep1 c4
      have HX1 := hid hx1
      have HL1 := hid (HL0.out.ext hx1)
      clear hx1 c0 c1 c2 c3 c4 y0 y1 z4
      generalize (w0.alloc (.cells #[.pointer (some ⟨p.b, 0, none⟩), .pointer (some ⟨p.r, 0, none⟩)] 101)).drew = w1 at *
      go_wp2_with fail
      · refine (All_any p.b p.v p.L w1 (HL1.out.bk i p HP.out).1).mono ?_
        rintro e w2 ⟨lv, rfl, hx2, ho2⟩
        have hLl : (p.L.map It.pr).length ≤ 50 := by rw [List.length_map]; exact (HL1.out.bk i p HP.out).1.2.2.2.1
        rw [pairs_pc, ← List.length_map (f := It.pr)] at ho2
        obtain ⟨B, hBe⟩ : ∃ B, p.L.map It.pr = B := ⟨_, rfl⟩
        rw [hBe] at ho2 hLl
        have HBE := hid hBe
        obtain ⟨la, lc, rfl⟩ := own_slice ho2
        have e1 := hx2.keep1 p1
        have HO2 := hid ho2
        have HX2 := hid hx2
        have HL2 := hid (HL1.out.ext hx2)
        clear ho2 hx2 hBe
        go_wp2_with fail
        refine (rWithin_any p.r p.rv p.L w2 (HL2.out.bk i p HP.out).2).mono ?_
        rintro e w3 ⟨uv, rfl, hx3, ho3⟩
        rw [HBE.out] at ho3
        have HX3 := hid hx3
        have PU := hid (Prs.own ho3)
        have PL := hid (Prs.own (owns_ext HO2.out hx3))
        have hBm : B.length ≤ maxLen := by unfold maxLen; omega
        clear ho3 hx3
        go_wp2_with fail
        refine (samePairs_any B B _ _ w3 PL.out PU.out hBm hBm).mono ?_
        rintro e w4 ⟨rfl, hx4⟩
        rw [show decide (B = B) = true by simp]
        have hx24 := HX3.out.trans hx4
        have HL4 := hid (HL2.out.ext hx24)
        have HX24 := hid hx24
        have ol4 := owns_ext HO2.out hx24
        have hsz2 := HX2.out.size
        have hap : ∀ (base : Nat) (u : Value) (n : Nat) (xs : List Value), w1.ownsRow base 53 2 u n xs → Apart u (.slice la B.length lc) := fun base u n xs hu => by
          cases hq : (Value.slice la B.length lc).ownBlock with
          | none => exact Apart.symm (.inl hq)
          | some g' => exact Apart.fresh hu hq (HO2.out.lt g' hq).1
        have ak := hid (hap _ _ _ _ HL1.out.wd.kept).symm
        have am := hid (show ∀ x ∈ X, ∀ u ∈ x.vals, Apart u (.slice la B.length lc) by
          intro x hx u hu
          obtain ⟨j, hj, rfl⟩ := List.mem_iff_getElem.1 hx
          obtain ⟨m0, m1, m2, m3⟩ := HL1.out.wd.lw.marked j _ (List.getElem?_eq_getElem hj)
          simp only [ML.vals, List.mem_cons, List.not_mem_nil, or_false] at hu
          rcases hu with rfl | rfl | rfl | rfl
          · exact hap _ _ _ _ m0
          · exact hap _ _ _ _ m1
          · exact hap _ _ _ _ m2
          · exact hap _ _ _ _ m3)
        have OL := hid (owns_base ol4 HL1.out.wd.lw.hbs)
        clear hx4 hx24 ol4 hap
        go_wp2_with fail
        refine (takes_any bs W came _ kv wv A lsv ls3v X w4 HL4.out.wd (by omega) (by omega) la lc B OL.out (by omega) ak.out am.out).mono ?_
        rintro e w5 ⟨rfl, kv', wv', A', lsv', ls3v', X', hw5, hX5, hf5, hr5⟩
        have FIN := hid (HL4.out.took OL.out hw5 hf5)
        have FRA := hid (((((Fr.of_ext HX0.out).trans (Fr.of_ext HX1.out)).trans (Fr.of_ext HX2.out)).trans (Fr.of_ext HX24.out)).trans hr5)
        clear hw5 hf5 hr5
        go_wp2_with fail
        go_ret
        exact ⟨rfl, ⟨_, _, _, _, _, _, _, _, _, FIN.out, by omega, by omega, by omega, by omega⟩, FRA.out⟩
      · refine (does_any p k bk h S T w1 (HL1.out.bk i p HP.out)).mono ?_
        rintro e w2 ⟨rfl, hd⟩
        have HD := hid hd
        clear hd
        go_wp2_with fail
        go_ret
        obtain ⟨⟨P', hl2, hlen⟩, hf2⟩ := HL1.out.did HP.out HD.out
        exact ⟨rfl, ⟨_, _, _, _, _, _, _, _, _, hl2, by omega, by omega, by omega, by omega⟩, ((Fr.of_ext HX0.out).trans (Fr.of_ext HX1.out)).trans hf2⟩
  · go_ret
    exact ⟨by simp, ⟨_, _, _, _, _, _, _, _, _, HL0.out, by omega, by omega, by omega, by omega⟩, Fr.of_ext HX0.out⟩
end Go.Proofs.YtjohkmkgmbihkaaGreatDoor

namespace Go.Proofs.YtjohkmkgmbihkaaGreatDoor
set_option linter.unusedVariables false
open Go.ChangeShapes Go.WideShapes Go.ChangeAt Go.RowKit
attribute [local go_sem ↓] Go.wp_at_zero Go.wp_at_succ

structure Oq where
  k : Int
  bk : Int
  h : Int
  S : ByteArray
  T : ByteArray
def Oq.Ok (s : Oq) : Prop := I64 s.k ∧ I64 s.bk ∧ I64 s.h ∧ s.S.size ≤ maxLen ∧ s.T.size ≤ maxLen
/-- A slice of steps that came in. -/
def Oqs (w : World) (v : Value) (ss : List Oq) : Prop := (∃ a cap, v = .slice a ss.length cap ∧ ss.length ≤ cap ∧ cap ≤ maxLen ∧ ∀ i (h : i < ss.length), ∃ b o, a = some ⟨b, o, none⟩ ∧ b < w.heap.size ∧
    w.cell? ⟨b, o + i * 5, none⟩ = some (.int .i64 ss[i].k) ∧ w.cell? ⟨b, o + i * 5 + 1, none⟩ = some (.int .i64 ss[i].bk) ∧ w.cell? ⟨b, o + i * 5 + 2, none⟩ = some (.int .i64 ss[i].h) ∧ w.cell? ⟨b, o + i * 5 + 3, none⟩ = some (.string ss[i].S) ∧ w.cell? ⟨b, o + i * 5 + 4, none⟩ = some (.string ss[i].T)) ∧ ∀ s ∈ ss, s.Ok
theorem Oqs.ext {w w' : World} {v : Value} {A : List Oq} (h : Oqs w v A) (e : Ext w w') : Oqs w' v A := by
  obtain ⟨⟨a, cap, h1, h2, h3, h4⟩, h5⟩ := h
  refine ⟨⟨a, cap, h1, h2, h3, fun i hi => ?_⟩, h5⟩
  obtain ⟨b, o, g1, g2, g3, g4, g5, g6, g7⟩ := h4 i hi
  have k : ∀ (x : Addr) (u : Value), w.cell? x = some u → w'.cell? x = some u := fun x u hu => (e.cell (World.block_lt_of_cell? w x hu)).trans hu
  exact ⟨b, o, g1, Nat.lt_of_lt_of_le g2 e.size, k _ _ g3, k _ _ g4, k _ _ g5, k _ _ g6, k _ _ g7⟩
theorem Oqs.shape {w : World} {v : Value} {A : List Oq} (h : Oqs w v A) : ∃ a cap, v = .slice a A.length cap ∧ A.length ≤ cap ∧ cap ≤ maxLen := by
  obtain ⟨⟨a, cap, h1, h2, h3, _⟩, _⟩ := h
  exact ⟨a, cap, h1, h2, h3⟩
theorem Oqs.at {w : World} {a : Option Addr} {n cap : Nat} {A : List Oq} (h : Oqs w (.slice a n cap) A) {i : Nat} (hi : i < A.length) : ∃ b o, a = some ⟨b, o, none⟩ ∧ b < w.heap.size ∧
    w.cell? ⟨b, o + i * 5, none⟩ = some (.int .i64 A[i].k) ∧ w.cell? ⟨b, o + i * 5 + 1, none⟩ = some (.int .i64 A[i].bk) ∧ w.cell? ⟨b, o + i * 5 + 2, none⟩ = some (.int .i64 A[i].h) ∧ w.cell? ⟨b, o + i * 5 + 3, none⟩ = some (.string A[i].S) ∧ w.cell? ⟨b, o + i * 5 + 4, none⟩ = some (.string A[i].T) := by
  obtain ⟨⟨a', cap', h1, _, _, h4⟩, _⟩ := h
  simp only [Value.slice.injEq] at h1
  obtain ⟨rfl, _, _⟩ := h1
  exact h4 i hi

theorem Fr.to_ext {w w' : World} (h : Fr (fun k => w.heap.size ≤ k) w w') : Ext w w' := ⟨h.os, h.tape, h.output, h.size, fun k hk => h.block k hk (by omega)⟩
theorem Ext.fr {w w1 w2 : World} (h : Ext w w1) (f : Fr (fun k => w.heap.size ≤ k) w1 w2) : Ext w w2 := Fr.to_ext ((Fr.of_ext h).trans f)
/-- After so many steps. -/
def LawN (bs : Nat) (w : World) (W n : Nat) : Prop := ∃ (came : Nat) (psv kv wv : Value) (A : List Pr) (lsv ls3v : Value) (X : List ML) (P : List PB), Law bs w W came psv kv wv A lsv ls3v X P ∧ came ≤ n ∧ X.length ≤ 2 * n ∧ P.length ≤ n + 2 ∧ 2 ≤ P.length
theorem law_init (w : World) : Law w.heap.size (w.alloc (.cells #[.int .i64 0, .bool false, .slice none 0 0, .slice none 0 0, .slice none 0 0, .slice none 0 0, .slice none 0 0] 60)) w.heap.size 0 (.slice none 0 0) (.slice none 0 0) (.slice none 0 0) [] (.slice none 0 0) (.slice none 0 0) [] [] :=
  ⟨⟨⟨heap_alloc_new w _, by rw [alloc_size']; omega, Nat.le_refl _, World.ownsRow_nil _ _ _ _, World.ownsRow_nil _ _ _ _, .inl rfl, fun i x h => by simp at h⟩, World.ownsRow_nil _ _ _ _, World.ownsRow_nil _ _ _ _, .inl rfl, fun x h => (by cases h), by simp⟩,
    World.ownsRow_nil _ _ _ _, fun i p h => by simp at h, fun i j p q h => by simp at h, fun i p h => by simp at h⟩

theorem openN (bs W : Nat) (came : Nat) (psv kv wv : Value) (A : List Pr) (lsv ls3v : Value) (X : List ML) (P : List PB) (w : World) (h : Law bs w W came psv kv wv A lsv ls3v X P) (hP : P.length ≤ 100) :
    Calls Tryz.prog 25 #[.pointer (some ⟨W, 0, none⟩)] w fun e w' => e = .returned (.bool true) ∧ (∃ psv' P', Law bs w' W came psv' kv wv A lsv ls3v X P' ∧ P'.length = P.length + 1) ∧ Fr (fun k => bs ≤ k) w w' :=
  (open_any bs W came psv kv wv A lsv ls3v X P w h (by omega)).mono fun e w' ⟨he, ⟨psv', p, hl⟩, hf⟩ => ⟨he, ⟨psv', P ++ [p], hl, by simp⟩, hf⟩
theorem stepN (bs W n : Nat) (w : World) (h : LawN bs w W n) (hn : n ≤ 2000000) (k bk hh : Int) (S T : ByteArray) (hk : k ≠ 8) (hb0 : -9223372036854775808 ≤ bk) (hb1 : bk ≤ 9223372036854775807) :
    Calls Tryz.prog 26 #[.pointer (some ⟨W, 0, none⟩), .agg #[.int .i64 k, .int .i64 bk, .int .i64 hh, .string S, .string T]] w fun e w' => e = .returned (.bool true) ∧ LawN bs w' W (n + 1) ∧ Fr (fun k => bs ≤ k) w w' := by
  obtain ⟨came, psv, kv, wv, A, lsv, ls3v, X, P, hl, h1, h2, h3, h4⟩ := h
  refine (step_any bs W came psv kv wv A lsv ls3v X P w hl (by omega) (by omega) (by omega) (by omega) k bk hh S T hk hb0 hb1).mono ?_
  rintro e w' ⟨rfl, ⟨came', psv', kv', wv', A', lsv', ls3v', X', P', hl', q1, q2, q3, q4⟩, hf⟩
  exact ⟨rfl, ⟨came', psv', kv', wv', A', lsv', ls3v', X', P', hl', by omega, by omega, by omega, by omega⟩, hf⟩
theorem looksN (bs W n : Nat) (w : World) (h : LawN bs w W n) (hn : n ≤ 2000000) :
    Calls Tryz.prog 27 #[.pointer (some ⟨W, 0, none⟩)] w fun e w' => e = .returned (.bool true) ∧ LawN bs w' W n ∧ Ext w w' := by
  obtain ⟨came, psv, kv, wv, A, lsv, ls3v, X, P, hl, h1, h2, h3, h4⟩ := h
  refine (looks_any bs W came psv kv wv A lsv ls3v X w hl.wd (by omega)).mono ?_
  rintro e w' ⟨rfl, hx⟩
  exact ⟨rfl, ⟨came, psv, kv, wv, A, lsv, ls3v, X, P, hl.ext hx, h1, h2, h3, h4⟩, hx⟩

set_option maxHeartbeats 4000000 in
set_option maxRecDepth 100000 in
theorem plays_any (ss : List Oq) (v : Value) (hi : Int) (hhi : hi < 8) (w : World) (hs : Oqs w v ss) (hn : ss.length ≤ 1048576) :
    Calls Tryz.prog 10 #[v, .int .i64 hi] w fun e w' => e = .returned (.bool true) ∧ Ext w w' := by
  obtain ⟨a, cap, rfl, hcap, hcm⟩ := hs.shape
  have HS := hid hs
  have L0 := hid (law_init w)
  have X0 := hid (show Ext w (w.alloc (.cells #[.int .i64 0, .bool false, .slice none 0 0, .slice none 0 0, .slice none 0 0, .slice none 0 0, .slice none 0 0] 60)) from (Ext.refl w).alloc _)
  clear hs
  go_enter Tryz.func10, Tryz.ntmps10
  go_wp2_with fail
  refine (openN w.heap.size w.heap.size _ _ _ _ _ _ _ _ _ _ L0.out (by simp)).mono ?_
  rintro e w1 ⟨rfl, ⟨ps1, P1, hl1, hp1⟩, hf1⟩
  have L1 := hid hl1
  have X1 := hid (X0.out.fr hf1)
  clear hl1 hf1
  go_wp2_with fail
  refine (openN w.heap.size w.heap.size _ _ _ _ _ _ _ _ _ w1 L1.out (by simp at hp1; omega)).mono ?_
  rintro e w2 ⟨rfl, ⟨ps2, P2, hl2, hp2⟩, hf2⟩
  have L2 := hid (show LawN w.heap.size w2 w.heap.size 0 from ⟨_, _, _, _, _, _, _, _, _, hl2, by omega, by simp, by simp at hp1; omega, by simp at hp1; omega⟩)
  have X2 := hid (X1.out.fr hf2)
  clear hl2 hf2 hp1 hp2
  go_wp2_with fail
  refine (stepN w.heap.size w.heap.size 0 w2 L2.out (by omega) 2 0 2 _ _ (by decide) (by decide) (by decide)).mono ?_
  rintro e w3 ⟨rfl, hl3, hf3⟩
  have L3 := hid hl3
  have X3 := hid (X2.out.fr hf3)
  clear hl3 hf3
  go_wp2_with fail
  refine (stepN w.heap.size w.heap.size 1 w3 L3.out (by omega) 4 0 0 _ _ (by decide) (by decide) (by decide)).mono ?_
  rintro e w4 ⟨rfl, hl4, hf4⟩
  have L4 := hid hl4
  have X4 := hid (X3.out.fr hf4)
  clear hl4 hf4
  go_wp2_with fail
  clear L0 X0 L1 X1 L2 X2 L3 X3
  go_loopw [8] (fun i wr => ∃ k : Nat, k ≤ ss.length ∧ i = .int .i64 k ∧ LawN w.heap.size wr w.heap.size (k + 2) ∧ Ext w wr) (fun i _ => ss.length - (intOf i).toNat)
  case atStart => exact ⟨0, Nat.zero_le _, rfl, L4.out, X4.out⟩
  case round =>
    obtain ⟨k, hk, rfl, hl, hx⟩ := hrel
    have HL := hid hl
    have HX := hid hx
    clear hl hx
    by_cases hlt : k < ss.length
    · obtain ⟨b, o, rfl, hb, q0, q1, q2, q3, q4⟩ := (HS.out.ext HX.out).at hlt
      have hok := HS.out.2 _ (List.getElem_mem hlt)
      obtain ⟨x, hxe⟩ : ∃ x, ss[k] = x := ⟨_, rfl⟩
      rw [hxe] at q0 q1 q2 q3 q4 hok
      clear hxe
      obtain ⟨_, ⟨hb0, hb1⟩, _, _, _⟩ := hok
      by_cases hgt : hi < x.k
      · go_wp2_with fail
        go_roundw
        case rel =>
          obtain ⟨came, psv, kv, wv, A, lsv, ls3v, X, P, hl, h1, h2, h3, h4⟩ := HL.out
          exact ⟨k + 1, by omega, by go_num, ⟨came, psv, kv, wv, A, lsv, ls3v, X, P, hl, by omega, by omega, by omega, by omega⟩, HX.out⟩
        case measure => simp [intOf]; omega
      · go_wp2_with fail
        refine (stepN w.heap.size w.heap.size (k + 2) wr HL.out (by omega) x.k x.bk x.h x.S x.T (by omega) hb0 hb1).mono ?_
        rintro e w5 ⟨rfl, hl5, hf5⟩
        have L5 := hid hl5
        have X5 := hid (HX.out.fr hf5)
        clear hl5 hf5
        go_wp2_with fail
        refine (looksN w.heap.size w.heap.size (k + 2 + 1) w5 L5.out (by omega)).mono ?_
        rintro e w6 ⟨rfl, hl6, hx6⟩
        have L6 := hid hl6
        have X6 := hid (X5.out.trans hx6)
        clear hl6 hx6
        go_wp2_with fail
        go_roundw
        case rel => exact ⟨k + 1, by omega, by go_num, L6.out, X6.out⟩
        case measure => simp [intOf]; omega
    · obtain rfl : k = ss.length := by omega
      go_wp2_with fail
      go_ret
      exact ⟨rfl, HX.out⟩
end Go.Proofs.YtjohkmkgmbihkaaGreatDoor

namespace Go.Proofs.YtjohkmkgmbihkaaGreatDoor
set_option linter.unusedVariables false
open Go.ChangeShapes Go.WideShapes Go.ChangeAt Go.RowKit Go.Deep

instance : Inhabited Oq := ⟨⟨0, 0, 0, ⟨#[]⟩, ⟨#[]⟩⟩⟩
theorem bulk_one {H : Type} (d : DataW H) : 1 ≤ Rows.uptoBulk d := by
  cases d with
  | lit l => cases l <;> simp [Rows.uptoBulk]
  | nil => simp [Rows.uptoBulk]
  | ptr d => simp [Rows.uptoBulk]
  | slice elems spare => simp [Rows.uptoBulk]
  | agg parts => simp [Rows.uptoBulk]
  | iface t d => simp [Rows.uptoBulk]
  | map entries => simp [Rows.uptoBulk]
  | held h => simp [Rows.uptoBulk]
theorem bulk_length {H : Type} (l : List (DataW H)) : l.length ≤ Rows.uptoBulkAll l := by
  induction l with
  | nil => simp [Rows.uptoBulkAll]
  | cons x r ih => have := bulk_one x; simp only [Rows.uptoBulkAll, List.length_cons]; omega

section
variable {H : Type} {enc : TypeId × Value → H} {W : World}
theorem cellsOp : Tryz.prog.cellsOf 64 = 5 := by kernel_rfl
theorem ops_of {fuel : Nat} {a : Option Addr} {len cap : Nat} {x : DataW H × List MemPlace} (h : DataW.trod enc Tryz.prog W 0 (fun _ => true) true fuel 22 [.slice a len cap] = some x) :
    (∃ ss : List Oq, ss.length = len ∧ Oqs W (.slice a len cap) ss) ∧ len ≤ Rows.uptoBulk x.1 := by
  rcases open_slice Tryz.underlying22 h with ⟨hcs, _⟩ | ⟨a', len', cap', m, n, D, Pl, hcs, hb, hl, hm, hmm, hxx, hx⟩
  · simp at hcs
    obtain ⟨rfl, rfl, rfl⟩ := hcs
    exact ⟨⟨[], rfl, ⟨none, 0, rfl, Nat.le_refl _, by simp [maxLen], fun i hi => by simp at hi⟩, fun s hs => by cases hs⟩, Nat.zero_le _⟩
  · simp at hcs
    obtain ⟨rfl, rfl, rfl⟩ := hcs
    have hm' : m = cap := by simpa using hmm
    refine ⟨?_, ?_⟩
    · simp only [cellsOp] at hx
      have hel : ∀ i, i < len → ∃ s : Oq, s.Ok ∧ ∃ b o, a' = ⟨b, o, none⟩ ∧ b < W.heap.size ∧
          W.cell? ⟨b, o + i * 5, none⟩ = some (.int .i64 s.k) ∧ W.cell? ⟨b, o + i * 5 + 1, none⟩ = some (.int .i64 s.bk) ∧ W.cell? ⟨b, o + i * 5 + 2, none⟩ = some (.int .i64 s.h) ∧ W.cell? ⟨b, o + i * 5 + 3, none⟩ = some (.string s.S) ∧ W.cell? ⟨b, o + i * 5 + 4, none⟩ = some (.string s.T) := by
        intro i hi
        obtain ⟨cs', hc, ht⟩ := hx i (by omega)
        obtain ⟨_, hlen, hcell⟩ := World.cells?_some hc
        obtain ⟨c0, c1, c2, c3, c4, rfl⟩ := cells5 cs' hlen
        obtain ⟨xs, n', _, _, _, hxl, hfl⟩ := DataW.trod_struct Tryz.underlying64 ht
        have hx5 : xs.length = 5 := hxl
        have f0 : DataW.trod enc Tryz.prog W 0 (fun _ => true) true n' 3 (([c0, c1, c2, c3, c4].drop 0).take (Tryz.prog.cellsOf 3)) = xs[0]? := hfl 0 _ rfl
        have f1 : DataW.trod enc Tryz.prog W 0 (fun _ => true) true n' 3 (([c0, c1, c2, c3, c4].drop 1).take (Tryz.prog.cellsOf 3)) = xs[1]? := hfl 1 _ rfl
        have f2 : DataW.trod enc Tryz.prog W 0 (fun _ => true) true n' 3 (([c0, c1, c2, c3, c4].drop 2).take (Tryz.prog.cellsOf 3)) = xs[2]? := hfl 2 _ rfl
        have f3 : DataW.trod enc Tryz.prog W 0 (fun _ => true) true n' 9 (([c0, c1, c2, c3, c4].drop 3).take (Tryz.prog.cellsOf 9)) = xs[3]? := hfl 3 _ rfl
        have f4 : DataW.trod enc Tryz.prog W 0 (fun _ => true) true n' 9 (([c0, c1, c2, c3, c4].drop 4).take (Tryz.prog.cellsOf 9)) = xs[4]? := hfl 4 _ rfl
        rw [List.getElem?_eq_getElem (by omega)] at f0 f1 f2 f3 f4
        rw [cellsInt] at f0 f1 f2
        rw [cellsStr] at f3 f4
        obtain ⟨n0, e0, _, w0⟩ := DataW.trod_int Tryz.underlying3 f0
        obtain ⟨n1, e1, _, w1⟩ := DataW.trod_int Tryz.underlying3 f1
        obtain ⟨n2, e2, _, w2⟩ := DataW.trod_int Tryz.underlying3 f2
        obtain ⟨s3, e3, _, w3⟩ := DataW.trod_string Tryz.underlying9 f3
        obtain ⟨s4, e4, _, w4⟩ := DataW.trod_string Tryz.underlying9 f4
        simp at e0 e1 e2 e3 e4
        subst e0 e1 e2 e3 e4
        obtain ⟨b, o, spot⟩ := a'
        have g0 := hcell 0 (by omega)
        have g1 := hcell 1 (by omega)
        have g2 := hcell 2 (by omega)
        have g3 := hcell 3 (by omega)
        have g4 := hcell 4 (by omega)
        have hspot : spot = none := by
          obtain ⟨cs0, hc0, _⟩ := hx 0 (by omega)
          obtain ⟨_, hl0, hcell0⟩ := World.cells?_some hc0
          have q := hcell0 0 (by omega)
          rw [List.getElem?_eq_getElem (by omega)] at q
          simpa [Addr.add] using World.cell?_spot q
        subst hspot
        rw [addr_add, addr_add] at g0 g1 g2 g3 g4
        exact ⟨⟨n0, n1, n2, s3, s4⟩, ⟨bounds_i64 w0, bounds_i64 w1, bounds_i64 w2, w3, w4⟩, b, o, rfl, World.block_lt_of_cell? W _ g0, g0, g1, g2, g3, g4⟩
      obtain ⟨F, hF⟩ := choose_lt (α := Oq) (p := fun i s => s.Ok ∧ ∃ b o, a' = ⟨b, o, none⟩ ∧ b < W.heap.size ∧
          W.cell? ⟨b, o + i * 5, none⟩ = some (.int .i64 s.k) ∧ W.cell? ⟨b, o + i * 5 + 1, none⟩ = some (.int .i64 s.bk) ∧ W.cell? ⟨b, o + i * 5 + 2, none⟩ = some (.int .i64 s.h) ∧ W.cell? ⟨b, o + i * 5 + 3, none⟩ = some (.string s.S) ∧ W.cell? ⟨b, o + i * 5 + 4, none⟩ = some (.string s.T)) hel
      refine ⟨(List.range len).map F, by simp, ⟨some a', cap, by simp, by simpa using hl, hm, fun i hi => ?_⟩, ?_⟩
      · simp at hi
        obtain ⟨_, b, o, q1, q2, q3⟩ := hF i hi
        simp only [List.getElem_map, List.getElem_range]
        exact ⟨b, o, by rw [q1], q2, q3⟩
      · intro s hs
        simp at hs
        obtain ⟨i, hi, rfl⟩ := hs
        exact (hF i hi).1
    · rw [hxx]
      have := bulk_length ((List.range len).map D)
      simp only [List.length_map, List.length_range] at this
      simp only [Rows.uptoBulk]
      omega
end
end Go.Proofs.YtjohkmkgmbihkaaGreatDoor
