/- slices.Concat at pairs and at texts. -/
import Derived.Test.YtjohkmkgmbihkaaDoorShelfE
namespace Go.Proofs.YtjohkmkgmbihkaaDoor
set_option linter.unusedVariables false
open Go.ChangeShapes Go.WideShapes Go.ChangeAt Go.RowKit
/-- Pairs. -/
abbrev Pq := ByteArray × ByteArray
def qc (A : List Pq) : List Value := A.flatMap fun p => [.string p.1, .string p.2]
theorem qc_length (A : List Pq) : (qc A).length = A.length * 2 := by
  induction A with
  | nil => rfl
  | cons x A ih => simp only [qc, List.flatMap_cons, List.length_append, List.length_cons, List.length_nil] at ih ⊢; omega
theorem qc_append (A B : List Pq) : qc (A ++ B) = qc A ++ qc B := by simp [qc]
theorem oneCell_qc (A : List Pq) : ∀ x ∈ qc A, x.oneCell' = true := by
  intro x hx
  simp only [qc, List.mem_flatMap] at hx
  obtain ⟨y, _, hy⟩ := hx
  simp at hy
  rcases hy with rfl | rfl <;> rfl
def ItP (w : World) (v : Value) (A : List Pq) : Prop := Seg w v 2 A.length (qc A)
theorem ItP.ext {w w' : World} {v : Value} {A : List Pq} (h : ItP w v A) (e : Ext w w') : ItP w' v A := Seg.ext h e
theorem ItP.shape {w : World} {v : Value} {A : List Pq} (h : ItP w v A) : ∃ a cap, v = .slice a A.length cap ∧ A.length ≤ cap ∧ cap ≤ maxLen := Seg.shape h
theorem ItP.own {w : World} {base : Nat} {e : TypeId} {v : Value} {A : List Pq} (h : w.ownsRow base e 2 v A.length (qc A)) : ItP w v A := Seg.own h
theorem itP_one (w : World) (x : Pq) (t : TypeId) : ItP (w.alloc (.cells #[.string x.1, .string x.2] t)) (.slice (some ⟨w.heap.size, 0, none⟩) 1 1) [x] := by
  refine ⟨by simp [qc_length], .inr ⟨w.heap.size, 0, 1, rfl, by simp, by simp [maxLen], by simp, ?_⟩⟩
  intro j u hu
  rw [Nat.zero_add, cell_new]
  simpa [qc] using hu
/-- A zero. -/
def zEntryP : Value := .agg #[.string ⟨#[]⟩, .string ⟨#[]⟩]
/-- What the parts hold. -/
def flatP (ps : List (Value × List Pq)) : List Pq := ps.flatMap (·.2)
theorem flat_takeP (ps : List (Value × List Pq)) (i : Nat) (h : i < ps.length) : flatP (ps.take (i + 1)) = flatP (ps.take i) ++ ps[i].2 := by
  unfold flatP; rw [List.take_succ_eq_append_getElem h, List.flatMap_append]; simp
theorem flat_take_leP (ps : List (Value × List Pq)) (i : Nat) : (flatP (ps.take i)).length ≤ (flatP ps).length := by
  have : flatP ps = flatP (ps.take i) ++ flatP (ps.drop i) := by rw [flatP, flatP, flatP, ← List.flatMap_append, List.take_append_drop]
  rw [this]; simp

/-- Texts. -/
def sc (A : List ByteArray) : List Value := A.map .string
theorem sc_length (A : List ByteArray) : (sc A).length = A.length * 1 := by simp [sc]
theorem sc_append (A B : List ByteArray) : sc (A ++ B) = sc A ++ sc B := by simp [sc]
theorem oneCell_sc (A : List ByteArray) : ∀ x ∈ sc A, x.oneCell' = true := by
  intro x hx
  simp only [sc, List.mem_map] at hx
  obtain ⟨y, _, rfl⟩ := hx
  rfl
def ItS (w : World) (v : Value) (A : List ByteArray) : Prop := Seg w v 1 A.length (sc A)
theorem ItS.ext {w w' : World} {v : Value} {A : List ByteArray} (h : ItS w v A) (e : Ext w w') : ItS w' v A := Seg.ext h e
theorem ItS.shape {w : World} {v : Value} {A : List ByteArray} (h : ItS w v A) : ∃ a cap, v = .slice a A.length cap ∧ A.length ≤ cap ∧ cap ≤ maxLen := Seg.shape h
theorem ItS.own {w : World} {base : Nat} {e : TypeId} {v : Value} {A : List ByteArray} (h : w.ownsRow base e 1 v A.length (sc A)) : ItS w v A := Seg.own h
theorem itS_one (w : World) (x : ByteArray) (t : TypeId) : ItS (w.alloc (.cells #[.string x] t)) (.slice (some ⟨w.heap.size, 0, none⟩) 1 1) [x] := by
  refine ⟨by simp [sc_length], .inr ⟨w.heap.size, 0, 1, rfl, by simp, by simp [maxLen], by simp, ?_⟩⟩
  intro j u hu
  rw [Nat.zero_add, cell_new]
  simpa [sc] using hu
/-- A zero. -/
def zEntryS : Value := .string ⟨#[]⟩
theorem infoEntryS : ∃ i, Tryd.prog.info? 9 = some i ∧ i.zero = some zEntryS ∧ i.size = 1 ∧ i.bytes = 16 := info_of (by kernel_rfl)
theorem szS (w : World) : (sizeOf (Tryd.prog.elem 48)).run Tryd.prog w = .ok 1 w := by kernel_rfl
theorem cut_hS (a : Option Addr) (n cap i : Nat) (h : i ≤ cap) (w : World) :
    (Instr.slice 48 (.slice a n cap) none (some (.int .i64 (i : Int))) none).run Tryd.prog w = .ok (sliced a 0 i cap 1) w := by
  rw [run_slice_h w 48 a n cap (by kernel_rfl) .i64 i (by omega) (by omega), szS]
  rfl
set_option maxHeartbeats 400000 in
set_option maxRecDepth 100000 in
theorem Grow_anyS (n : Nat) (hn : n ≤ 1000) (w : World) :
    Calls Tryd.prog 53 #[.slice none 0 0, .int .i64 (n : Int)] w fun e w' => ∃ v, e = .returned v ∧ Ext w w' ∧ w'.ownsRow w.heap.size 9 1 v 0 [] := by
  obtain ⟨i, hi, hz, hs, hb⟩ := infoEntryS
  by_cases h0 : n = 0
  · subst h0
    go_enter Tryd.func53, Tryd.ntmps53
    go_wp2_with fail
    go_ret
    exact ⟨_, rfl, Ext.refl _, World.ownsRow_nil _ _ _ _⟩
  · have hr := run_append_zeros (P := Tryd.prog) w 48 3 48 9 i zEntryS Tryd.underlying48 Tryd.underlying3 hi hz n (by omega) (by omega) (by omega) (by omega)
    have hC := grownCap_le_maxLen w n 0 9 (by unfold maxLen; omega)
    have hC2 := grownCap_ge w n 0 9
    generalize grownCap w n 0 9 = C at hr hC hC2
    have hsz : (Builtin.zeroCells zEntryS.cells n ++ Builtin.zeroCells zEntryS.cells (C - n)).size = C * 1 := by
      rw [Array.size_append, size_zeroCells, size_zeroCells]
      have : zEntryS.cells.size = 1 := rfl
      rw [this]; omega
    generalize Builtin.zeroCells zEntryS.cells n ++ Builtin.zeroCells zEntryS.cells (C - n) = Z at hr hsz
    have hown := World.ownsRow_made (base := w.heap.size) (e := 9) (size := 1) w.drew Z C (Nat.le_refl _) hC hsz
    have HO := hid hown
    have HR := hid hr
    have h0' : 0 < n := by omega
    have rs : ∀ w, (Instr.slice 48 (.slice none 0 0) none (some (.int .i64 0)) none).run Tryd.prog w = .ok (.slice none 0 0) w := fun w => cut_hS none 0 0 0 (Nat.le_refl _) w
    have rt : ∀ b w, (Instr.slice 48 (.slice (some ⟨b, 0, none⟩) n C) none (some (.int .i64 0)) none).run Tryd.prog w = .ok (.slice (some ⟨b, 0, none⟩) 0 C) w := fun b w => by
      have := cut_hS (some ⟨b, 0, none⟩) n C 0 (Nat.zero_le _) w
      simpa [sliced, addr_add] using this
    clear hr hi hz hs hb h0 hown hsz hC hC2
    go_enter Tryd.func53, Tryd.ntmps53
    go_wp2_with (at_builtin; refine wpList_append_run rfl _ _ 48 3 rfl (.slice none 0 0) (.int .i64 (n : Int)) rfl rfl _ _ HR.out ?_)
    go_ret
    exact ⟨_, rfl, (Ext.refl w).drew.alloc _, HO.out⟩
/-- What the parts hold. -/
def flatS (ps : List (Value × List ByteArray)) : List ByteArray := ps.flatMap (·.2)
theorem flat_takeS (ps : List (Value × List ByteArray)) (i : Nat) (h : i < ps.length) : flatS (ps.take (i + 1)) = flatS (ps.take i) ++ ps[i].2 := by
  unfold flatS; rw [List.take_succ_eq_append_getElem h, List.flatMap_append]; simp
theorem flat_take_leS (ps : List (Value × List ByteArray)) (i : Nat) : (flatS (ps.take i)).length ≤ (flatS ps).length := by
  have : flatS ps = flatS (ps.take i) ++ flatS (ps.drop i) := by rw [flatS, flatS, flatS, ← List.flatMap_append, List.take_append_drop]
  rw [this]; simp

set_option maxHeartbeats 800000 in
set_option maxRecDepth 100000 in
theorem Concat_anyS (ps : List (Value × List ByteArray)) (g cap : Nat) (w : World) (hlen : ps.length ≤ 3) (htot : (flatS ps).length ≤ 401) (hg : g < w.heap.size)
    (hcell : ∀ i (h : i < ps.length), w.cell? ⟨g, i, none⟩ = some ps[i].1) (hits : ∀ i (h : i < ps.length), ItS w ps[i].1 ps[i].2) :
    Calls Tryd.prog 33 #[.slice (some ⟨g, 0, none⟩) ps.length cap] w
      fun e w' => ∃ v, e = .returned v ∧ Ext w w' ∧ w'.ownsRow w.heap.size 9 1 v (flatS ps).length (sc (flatS ps)) := by
  have HC := hid hcell
  have HI := hid hits
  clear hcell hits
  go_enter Tryd.func33, Tryd.ntmps33
  go_wp2_with fail
  go_loop [3, 5, 11] (fun n _ i => ∃ k : Nat, k ≤ ps.length ∧ i = .int .i64 k ∧ n = .int .i64 (flatS (ps.take k)).length) (fun _ _ i => ps.length - (intOf i).toNat)
  case atStart => exact ⟨0, Nat.zero_le _, rfl, rfl⟩
  case round =>
    obtain ⟨k, hk, rfl, rfl⟩ := hrel
    have hle := flat_take_leS ps k
    by_cases hlt : k < ps.length
    · obtain ⟨a, c, e, hc1, hc2⟩ := (HI.out k hlt).shape
      have h1 := HC.out k hlt
      rw [e] at h1
      have ef : (flatS (ps.take (k + 1))).length = (flatS (ps.take k)).length + ps[k].2.length := by rw [flat_takeS ps k hlt, List.length_append]
      have hle2 := flat_take_leS ps (k + 1)
      rw [ef] at hle2
      have HF := hid ef
      clear ef e
      go_wp2_with fail
      go_round
      case rel => exact ⟨k + 1, by omega, by go_num, by rw [HF.out]; go_num⟩
      case measure => simp [intOf]; omega
    · have ek : ps.take k = ps := List.take_of_length_le (by omega)
      have HK := hid ek
      clear ek
      go_wp2_with fail
      rw [HK.out]
      refine (Grow_anyS (flatS ps).length (by omega) _).mono ?_
      rintro e w1 ⟨v, rfl, hx, hown⟩
      go_wp2_with fail
      go_loopw [6, 8, 27] (fun v _ i wr => ∃ k : Nat, k ≤ ps.length ∧ i = .int .i64 k ∧ Ext w wr ∧ wr.ownsRow w.heap.size 9 1 v (flatS (ps.take k)).length (sc (flatS (ps.take k)))) (fun _ _ i _ => ps.length - (intOf i).toNat)
      case atStart => exact ⟨0, Nat.zero_le _, rfl, hx, hown⟩
      case round =>
        obtain ⟨m, hm, rfl, hxr, hownr⟩ := hrel
        have hle' := flat_take_leS ps m
        by_cases hlt' : m < ps.length
        · have h1 : wr.cell? ⟨g, m, none⟩ = some ps[m].1 := (hxr.cell (p := ⟨g, m, none⟩) hg).trans (HC.out m hlt')
          have hle2 := flat_take_leS ps (m + 1)
          rw [flat_takeS ps m hlt', List.length_append] at hle2
          obtain ⟨i, hi, hz, hs, hb⟩ := infoEntryS
          obtain ⟨v', w', hr, hown', hgrow⟩ := append_seg (P := Tryd.prog) wr w.heap.size 48 48 9 i zEntryS 1 16 Tryd.underlying48 hi hz hs hb rfl (by decide) u6 _ _ hownr
            ps[m].1 ps[m].2.length (sc ps[m].2) ((HI.out m hlt').ext hxr) (oneCell_sc _) (by unfold maxLen; omega) (by omega) hxr.size
          have hx' := Ext.grown hxr hownr hgrow
          have ef : flatS (ps.take (m + 1)) = flatS (ps.take m) ++ ps[m].2 := flat_takeS ps m hlt'
          have hown2 : w'.ownsRow w.heap.size 9 1 v' (flatS (ps.take (m + 1))).length (sc (flatS (ps.take (m + 1)))) := by
            rw [ef, List.length_append, sc_append]; exact hown'
          have HR := hid hr
          have HO := hid hown2
          generalize ps[m].1 = pv at HR h1
          clear hi hz hs hb hr hown' hgrow ef hown2 hownr
          go_wp2_with (at_builtin; refine wpList_append_run rfl _ _ 48 48 rfl u6 pv rfl rfl _ _ HR.out ?_)
          go_roundw
          case rel => exact ⟨m + 1, by omega, by go_num, hx', HO.out⟩
          case measure => simp [intOf]; omega
        · have ek' : ps.take m = ps := List.take_of_length_le (by omega)
          rw [ek'] at hownr
          have HO := hid hownr
          clear ek' hownr
          go_wp2_with fail
          go_ret
          exact ⟨_, rfl, hxr, HO.out⟩
theorem Concat3S (w1 : World) (s1 s2 : Value) (A B : List ByteArray) (x : ByteArray) (h1 : ItS w1 s1 A) (h2 : ItS w1 s2 B) (hlen : A.length + B.length ≤ 400) :
    Calls Tryd.prog 33 #[.slice (some ⟨w1.heap.size + 1, 0, none⟩) 3 3]
      ((w1.alloc (.cells #[.string x] 9)).alloc (.cells #[s1, .slice (some ⟨w1.heap.size, 0, none⟩) 1 1, s2] 48))
      fun e w' => ∃ v, e = .returned v ∧ Ext w1 w' ∧ w'.ownsRow w1.heap.size 9 1 v (A ++ x :: B).length (sc (A ++ x :: B)) := by
  have e2 : (w1.alloc (.cells #[.string x] 9)).heap.size = w1.heap.size + 1 := by simp
  have hx1 : Ext w1 (w1.alloc (.cells #[.string x] 9)) := (Ext.refl w1).alloc _
  have ho := itS_one w1 x 9
  generalize w1.alloc (.cells #[.string x] 9) = w2 at *
  have hx2 := (Ext.refl w2).alloc (.cells #[s1, .slice (some ⟨w1.heap.size, 0, none⟩) 1 1, s2] 48)
  have hc := cell_new w2 #[s1, .slice (some ⟨w1.heap.size, 0, none⟩) 1 1, s2] 48
  have hsz : (w2.alloc (.cells #[s1, .slice (some ⟨w1.heap.size, 0, none⟩) 1 1, s2] 48)).heap.size = w2.heap.size + 1 := by simp
  rw [e2] at hc hsz
  generalize w2.alloc (.cells #[s1, .slice (some ⟨w1.heap.size, 0, none⟩) 1 1, s2] 48) = w3 at *
  have e : flatS [(s1, A), (.slice (some ⟨w1.heap.size, 0, none⟩) 1 1, [x]), (s2, B)] = A ++ x :: B := by simp [flatS]
  have hb := hx2.size
  refine (Concat_anyS [(s1, A), (.slice (some ⟨w1.heap.size, 0, none⟩) 1 1, [x]), (s2, B)] (w1.heap.size + 1) 3 w3 (by simp) (by rw [e]; simp; omega) (by omega) ?_ ?_).mono ?_
  · intro i hi
    rw [hc]
    match i, hi with
    | 0, _ => rfl
    | 1, _ => rfl
    | 2, _ => rfl
  · intro i hi
    match i, hi with
    | 0, _ => exact h1.ext (hx1.trans hx2)
    | 1, _ => exact ho.ext hx2
    | 2, _ => exact h2.ext (hx1.trans hx2)
  · rintro e' w' ⟨v, rfl, hx, hown⟩
    rw [e] at hown
    exact ⟨v, rfl, (hx1.trans hx2).trans hx, owns_base hown (by omega)⟩

theorem Concat2S (w1 : World) (s1 s2 : Value) (A B : List ByteArray) (h1 : ItS w1 s1 A) (h2 : ItS w1 s2 B) (hlen : A.length + B.length ≤ 400) :
    Calls Tryd.prog 33 #[.slice (some ⟨w1.heap.size, 0, none⟩) 2 2] (w1.alloc (.cells #[s1, s2] 48))
      fun e w' => ∃ v, e = .returned v ∧ Ext w1 w' ∧ w'.ownsRow w1.heap.size 9 1 v (A ++ B).length (sc (A ++ B)) := by
  have hx2 := (Ext.refl w1).alloc (.cells #[s1, s2] 48)
  have hc := cell_new w1 #[s1, s2] 48
  have hsz : (w1.alloc (.cells #[s1, s2] 48)).heap.size = w1.heap.size + 1 := by simp
  generalize w1.alloc (.cells #[s1, s2] 48) = w3 at *
  have e : flatS [(s1, A), (s2, B)] = A ++ B := by simp [flatS]
  refine (Concat_anyS [(s1, A), (s2, B)] w1.heap.size 2 w3 (by simp) (by rw [e]; simp; omega) (by omega) ?_ ?_).mono ?_
  · intro i hi
    rw [hc]
    match i, hi with
    | 0, _ => rfl
    | 1, _ => rfl
  · intro i hi
    match i, hi with
    | 0, _ => exact h1.ext hx2
    | 1, _ => exact h2.ext hx2
  · rintro e' w' ⟨v, rfl, hx, hown⟩
    rw [e] at hown
    exact ⟨v, rfl, hx2.trans hx, owns_base hown (by omega)⟩

end Go.Proofs.YtjohkmkgmbihkaaDoor
