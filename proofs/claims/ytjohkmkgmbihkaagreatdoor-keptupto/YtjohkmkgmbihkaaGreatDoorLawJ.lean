/- The law plays a script. -/
import Derived.Test.YtjohkmkgmbihkaaGreatDoorLawI
namespace Go.Proofs.YtjohkmkgmbihkaaGreatDoor
set_option linter.unusedVariables false
open Go.ChangeShapes Go.WideShapes Go.ChangeAt Go.RowKit
attribute [local go_sem ↓] Go.wp_at_zero Go.wp_at_succ

structure Oq where
  k : Int
  bk : Int
  h : Int
  S : ByteArray
  T : ByteArray
def Oq.Ok (s : Oq) : Prop := I64 s.k ∧ I64 s.bk ∧ I64 s.h ∧ s.S.size ≤ maxLen ∧ s.T.size ≤ maxLen
/-- A slice of steps that came in. -/
def Oqs (w : World) (v : Value) (ss : List Oq) : Prop := (∃ a cap, v = .slice a ss.length cap ∧ ss.length ≤ cap ∧ cap ≤ maxLen ∧ ∀ i (h : i < ss.length), ∃ b o, a = some ⟨b, o, none⟩ ∧ b < w.heap.size ∧
    w.cell? ⟨b, o + i * 5, none⟩ = some (.int .i64 ss[i].k) ∧ w.cell? ⟨b, o + i * 5 + 1, none⟩ = some (.int .i64 ss[i].bk) ∧ w.cell? ⟨b, o + i * 5 + 2, none⟩ = some (.int .i64 ss[i].h) ∧ w.cell? ⟨b, o + i * 5 + 3, none⟩ = some (.string ss[i].S) ∧ w.cell? ⟨b, o + i * 5 + 4, none⟩ = some (.string ss[i].T)) ∧ ∀ s ∈ ss, s.Ok
theorem Oqs.ext {w w' : World} {v : Value} {A : List Oq} (h : Oqs w v A) (e : Ext w w') : Oqs w' v A := by
  obtain ⟨⟨a, cap, h1, h2, h3, h4⟩, h5⟩ := h
  refine ⟨⟨a, cap, h1, h2, h3, fun i hi => ?_⟩, h5⟩
  obtain ⟨b, o, g1, g2, g3, g4, g5, g6, g7⟩ := h4 i hi
  have k : ∀ (x : Addr) (u : Value), w.cell? x = some u → w'.cell? x = some u := fun x u hu => (e.cell (World.block_lt_of_cell? w x hu)).trans hu
  exact ⟨b, o, g1, Nat.lt_of_lt_of_le g2 e.size, k _ _ g3, k _ _ g4, k _ _ g5, k _ _ g6, k _ _ g7⟩
theorem Oqs.shape {w : World} {v : Value} {A : List Oq} (h : Oqs w v A) : ∃ a cap, v = .slice a A.length cap ∧ A.length ≤ cap ∧ cap ≤ maxLen := by
  obtain ⟨⟨a, cap, h1, h2, h3, _⟩, _⟩ := h
  exact ⟨a, cap, h1, h2, h3⟩
theorem Oqs.at {w : World} {a : Option Addr} {n cap : Nat} {A : List Oq} (h : Oqs w (.slice a n cap) A) {i : Nat} (hi : i < A.length) : ∃ b o, a = some ⟨b, o, none⟩ ∧ b < w.heap.size ∧
    w.cell? ⟨b, o + i * 5, none⟩ = some (.int .i64 A[i].k) ∧ w.cell? ⟨b, o + i * 5 + 1, none⟩ = some (.int .i64 A[i].bk) ∧ w.cell? ⟨b, o + i * 5 + 2, none⟩ = some (.int .i64 A[i].h) ∧ w.cell? ⟨b, o + i * 5 + 3, none⟩ = some (.string A[i].S) ∧ w.cell? ⟨b, o + i * 5 + 4, none⟩ = some (.string A[i].T) := by
  obtain ⟨⟨a', cap', h1, _, _, h4⟩, _⟩ := h
  simp only [Value.slice.injEq] at h1
  obtain ⟨rfl, _, _⟩ := h1
  exact h4 i hi

theorem Fr.to_ext {w w' : World} (h : Fr (fun k => w.heap.size ≤ k) w w') : Ext w w' := ⟨h.os, h.tape, h.output, h.size, fun k hk => h.block k hk (by omega)⟩
theorem Ext.fr {w w1 w2 : World} (h : Ext w w1) (f : Fr (fun k => w.heap.size ≤ k) w1 w2) : Ext w w2 := Fr.to_ext ((Fr.of_ext h).trans f)
/-- After so many steps. -/
def LawN (bs : Nat) (w : World) (W n : Nat) : Prop := ∃ (came : Nat) (psv kv wv : Value) (A : List Pr) (lsv ls3v : Value) (X : List ML) (P : List PB), Law bs w W came psv kv wv A lsv ls3v X P ∧ came ≤ n ∧ X.length ≤ 2 * n ∧ P.length ≤ n + 2 ∧ 2 ≤ P.length
theorem law_init (w : World) : Law w.heap.size (w.alloc (.cells #[.int .i64 0, .bool false, .slice none 0 0, .slice none 0 0, .slice none 0 0, .slice none 0 0, .slice none 0 0] 60)) w.heap.size 0 (.slice none 0 0) (.slice none 0 0) (.slice none 0 0) [] (.slice none 0 0) (.slice none 0 0) [] [] :=
  ⟨⟨⟨heap_alloc_new w _, by rw [alloc_size']; omega, Nat.le_refl _, World.ownsRow_nil _ _ _ _, World.ownsRow_nil _ _ _ _, .inl rfl, fun i x h => by simp at h⟩, World.ownsRow_nil _ _ _ _, World.ownsRow_nil _ _ _ _, .inl rfl, fun x h => (by cases h), by simp⟩,
    World.ownsRow_nil _ _ _ _, fun i p h => by simp at h, fun i j p q h => by simp at h, fun i p h => by simp at h⟩

theorem openN (bs W : Nat) (came : Nat) (psv kv wv : Value) (A : List Pr) (lsv ls3v : Value) (X : List ML) (P : List PB) (w : World) (h : Law bs w W came psv kv wv A lsv ls3v X P) (hP : P.length ≤ 100) :
    Calls Tryz.prog 25 #[.pointer (some ⟨W, 0, none⟩)] w fun e w' => e = .returned (.bool true) ∧ (∃ psv' P', Law bs w' W came psv' kv wv A lsv ls3v X P' ∧ P'.length = P.length + 1) ∧ Fr (fun k => bs ≤ k) w w' :=
  (open_any bs W came psv kv wv A lsv ls3v X P w h (by omega)).mono fun e w' ⟨he, ⟨psv', p, hl⟩, hf⟩ => ⟨he, ⟨psv', P ++ [p], hl, by simp⟩, hf⟩
theorem stepN (bs W n : Nat) (w : World) (h : LawN bs w W n) (hn : n ≤ 2000000) (k bk hh : Int) (S T : ByteArray) (hk : k ≠ 8) (hb0 : -9223372036854775808 ≤ bk) (hb1 : bk ≤ 9223372036854775807) :
    Calls Tryz.prog 26 #[.pointer (some ⟨W, 0, none⟩), .agg #[.int .i64 k, .int .i64 bk, .int .i64 hh, .string S, .string T]] w fun e w' => e = .returned (.bool true) ∧ LawN bs w' W (n + 1) ∧ Fr (fun k => bs ≤ k) w w' := by
  obtain ⟨came, psv, kv, wv, A, lsv, ls3v, X, P, hl, h1, h2, h3, h4⟩ := h
  refine (step_any bs W came psv kv wv A lsv ls3v X P w hl (by omega) (by omega) (by omega) (by omega) k bk hh S T hk hb0 hb1).mono ?_
  rintro e w' ⟨rfl, ⟨came', psv', kv', wv', A', lsv', ls3v', X', P', hl', q1, q2, q3, q4⟩, hf⟩
  exact ⟨rfl, ⟨came', psv', kv', wv', A', lsv', ls3v', X', P', hl', by omega, by omega, by omega, by omega⟩, hf⟩
theorem looksN (bs W n : Nat) (w : World) (h : LawN bs w W n) (hn : n ≤ 2000000) :
    Calls Tryz.prog 27 #[.pointer (some ⟨W, 0, none⟩)] w fun e w' => e = .returned (.bool true) ∧ LawN bs w' W n ∧ Ext w w' := by
  obtain ⟨came, psv, kv, wv, A, lsv, ls3v, X, P, hl, h1, h2, h3, h4⟩ := h
  refine (looks_any bs W came psv kv wv A lsv ls3v X w hl.wd (by omega)).mono ?_
  rintro e w' ⟨rfl, hx⟩
  exact ⟨rfl, ⟨came, psv, kv, wv, A, lsv, ls3v, X, P, hl.ext hx, h1, h2, h3, h4⟩, hx⟩

set_option maxHeartbeats 4000000 in
set_option maxRecDepth 100000 in
theorem plays_any (ss : List Oq) (v : Value) (hi : Int) (hhi : hi < 8) (w : World) (hs : Oqs w v ss) (hn : ss.length ≤ 1048576) :
    Calls Tryz.prog 10 #[v, .int .i64 hi] w fun e w' => e = .returned (.bool true) ∧ Ext w w' := by
  obtain ⟨a, cap, rfl, hcap, hcm⟩ := hs.shape
  have HS := hid hs
  have L0 := hid (law_init w)
  have X0 := hid (show Ext w (w.alloc (.cells #[.int .i64 0, .bool false, .slice none 0 0, .slice none 0 0, .slice none 0 0, .slice none 0 0, .slice none 0 0] 60)) from (Ext.refl w).alloc _)
  clear hs
  go_enter Tryz.func10, Tryz.ntmps10
  go_wp2_with fail
  refine (openN w.heap.size w.heap.size _ _ _ _ _ _ _ _ _ _ L0.out (by simp)).mono ?_
  rintro e w1 ⟨rfl, ⟨ps1, P1, hl1, hp1⟩, hf1⟩
  have L1 := hid hl1
  have X1 := hid (X0.out.fr hf1)
  clear hl1 hf1
  go_wp2_with fail
  refine (openN w.heap.size w.heap.size _ _ _ _ _ _ _ _ _ w1 L1.out (by simp at hp1; omega)).mono ?_
  rintro e w2 ⟨rfl, ⟨ps2, P2, hl2, hp2⟩, hf2⟩
  have L2 := hid (show LawN w.heap.size w2 w.heap.size 0 from ⟨_, _, _, _, _, _, _, _, _, hl2, by omega, by simp, by simp at hp1; omega, by simp at hp1; omega⟩)
  have X2 := hid (X1.out.fr hf2)
  clear hl2 hf2 hp1 hp2
  go_wp2_with fail
  refine (stepN w.heap.size w.heap.size 0 w2 L2.out (by omega) 2 0 2 _ _ (by decide) (by decide) (by decide)).mono ?_
  rintro e w3 ⟨rfl, hl3, hf3⟩
  have L3 := hid hl3
  have X3 := hid (X2.out.fr hf3)
  clear hl3 hf3
  go_wp2_with fail
  refine (stepN w.heap.size w.heap.size 1 w3 L3.out (by omega) 4 0 0 _ _ (by decide) (by decide) (by decide)).mono ?_
  rintro e w4 ⟨rfl, hl4, hf4⟩
  have L4 := hid hl4
  have X4 := hid (X3.out.fr hf4)
  clear hl4 hf4
  go_wp2_with fail
  clear L0 X0 L1 X1 L2 X2 L3 X3
  go_loopw [8] (fun i wr => ∃ k : Nat, k ≤ ss.length ∧ i = .int .i64 k ∧ LawN w.heap.size wr w.heap.size (k + 2) ∧ Ext w wr) (fun i _ => ss.length - (intOf i).toNat)
  case atStart => exact ⟨0, Nat.zero_le _, rfl, L4.out, X4.out⟩
  case round =>
    obtain ⟨k, hk, rfl, hl, hx⟩ := hrel
    have HL := hid hl
    have HX := hid hx
    clear hl hx
    by_cases hlt : k < ss.length
    · obtain ⟨b, o, rfl, hb, q0, q1, q2, q3, q4⟩ := (HS.out.ext HX.out).at hlt
      have hok := HS.out.2 _ (List.getElem_mem hlt)
      obtain ⟨x, hxe⟩ : ∃ x, ss[k] = x := ⟨_, rfl⟩
      rw [hxe] at q0 q1 q2 q3 q4 hok
      clear hxe
      obtain ⟨_, ⟨hb0, hb1⟩, _, _, _⟩ := hok
      by_cases hgt : hi < x.k
      · go_wp2_with fail
        go_roundw
        case rel =>
          obtain ⟨came, psv, kv, wv, A, lsv, ls3v, X, P, hl, h1, h2, h3, h4⟩ := HL.out
          exact ⟨k + 1, by omega, by go_num, ⟨came, psv, kv, wv, A, lsv, ls3v, X, P, hl, by omega, by omega, by omega, by omega⟩, HX.out⟩
        case measure => simp [intOf]; omega
      · go_wp2_with fail
        refine (stepN w.heap.size w.heap.size (k + 2) wr HL.out (by omega) x.k x.bk x.h x.S x.T (by omega) hb0 hb1).mono ?_
        rintro e w5 ⟨rfl, hl5, hf5⟩
        have L5 := hid hl5
        have X5 := hid (HX.out.fr hf5)
        clear hl5 hf5
        go_wp2_with fail
        refine (looksN w.heap.size w.heap.size (k + 2 + 1) w5 L5.out (by omega)).mono ?_
        rintro e w6 ⟨rfl, hl6, hx6⟩
        have L6 := hid hl6
        have X6 := hid (X5.out.trans hx6)
        clear hl6 hx6
        go_wp2_with fail
        go_roundw
        case rel => exact ⟨k + 1, by omega, by go_num, L6.out, X6.out⟩
        case measure => simp [intOf]; omega
    · obtain rfl : k = ss.length := by omega
      go_wp2_with fail
      go_ret
      exact ⟨rfl, HX.out⟩
end Go.Proofs.YtjohkmkgmbihkaaGreatDoor
