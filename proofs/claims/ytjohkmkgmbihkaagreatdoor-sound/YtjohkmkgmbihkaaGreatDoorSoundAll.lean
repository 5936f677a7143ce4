/- For all steps and every three texts: whatever bytes pass with the digest of a book that was filled by the steps, for a question: they tell what the book has, or Extract of the book's answer and these gives two texts that are not the same and have one sum; and the other way round. No condition; the one listed variable is tied to the program's text. -/
import Derived.Test.YtjohkmkgmbihkaaGreatDoorChkB
import Derived.Deep.RegionHeld3
import Derived.Deep.DeepCutAuto
import Derived.Test.YtjohkmkgmbihkaaGreatDoorAnsRead3
import Derived.Test.YtjohkmkgmbihkaaGreatDoorProvA
import Derived.Test.YtjohkmkgmbihkaaGreatDoorStepsRow
import Derived.Test.YtjohkmkgmbihkaaGreatDoorLaid
namespace Go.Proofs.YtjohkmkgmbihkaaGreatDoor
open Go.ChangeShapes Go.WideShapes Go.ChangeAt Go.RowKit
set_option linter.unusedVariables false
/-- The first two texts that are not the same. -/
def dif : List ByteArray → List ByteArray → Option (ByteArray × ByteArray)
  | a :: A, b :: B => if beq a b then dif A B else some (a, b)
  | _, _ => none
theorem dif_step {A B : List ByteArray} {k : Nat} (h1 : k < A.length) (h2 : k < B.length) : dif (A.drop k) (B.drop k) = if beq A[k] B[k] then dif (A.drop (k + 1)) (B.drop (k + 1)) else some (A[k], B[k]) := by
  rw [← List.getElem_cons_drop h1, ← List.getElem_cons_drop h2]; rfl
theorem dif_end {A B : List ByteArray} {k : Nat} (h : A.length ≤ k ∨ B.length ≤ k) : dif (A.drop k) (B.drop k) = none := by
  rcases h with h | h
  · rw [List.drop_eq_nil_of_le h]; cases B.drop k <;> rfl
  · rw [List.drop_eq_nil_of_le h]; cases A.drop k <;> rfl
theorem its_at {w : World} {a : Option Addr} {n c : Nat} {A : List ByteArray} (h : ItS w (.slice a n c) A) {k : Nat} (hk : k < A.length) : ∃ b o, a = some ⟨b, o, none⟩ ∧ b < w.heap.size ∧ w.cell? ⟨b, o + k, none⟩ = some (.string A[k]) := by
  rcases h.2 with ⟨_, h2⟩ | ⟨b, o, cap, hv, h3, h4, h5, h6⟩
  · omega
  · simp only [Value.slice.injEq] at hv
    exact ⟨b, o, hv.1, h5, h6 k _ (by simp [sc, hk])⟩
def difT (t1 t2 : AT) : Option (ByteArray × ByteArray) := dif (txtT t1) (txtT t2)
def difV (o : Option (ByteArray × ByteArray)) : Value := match o with
  | none => .tuple #[.string ⟨#[]⟩, .string ⟨#[]⟩, .bool false]
  | some (x, y) => .tuple #[.string x, .string y, .bool true]

set_option maxHeartbeats 4000000 in
set_option maxRecDepth 100000 in
theorem Differ_any (t1 t2 : AT) (hc1 : cnt t1 ≤ 50) (ho1 : okA t1) (hc2 : cnt t2 ≤ 50) (ho2 : okA t2) (p1 p2 : Option Addr) (d1 d2 : ByteArray) (w : World) (ha1 : AIn w t1 p1 d1) (ha2 : AIn w t2 p2 d2) :
    Calls Tryz.prog 48 #[.agg #[.pointer p1, .string d1], .agg #[.pointer p2, .string d2]] w fun e w' => e = .returned (difV (difT t1 t2)) ∧ Ext w w' := by
  have hfl : ∀ x a n c w, (Instr.field 131 (.agg #[.string x, .slice a n c]) 1).run Tryz.prog w = .ok (.slice a n c) w := fun x a n c w => by first | kernel_rfl | rfl
  have C1 := hid (fun (w' : World) (hx : Ext w w') => Told_any t1 hc1 ho1 p1 d1 w' (ha1.ext hx))
  have C2 := hid (fun (w' : World) (hx : Ext w w') => Told_any t2 hc2 ho2 p2 d2 w' (ha2.ext hx))
  have l1 := txtT_len t1
  have l2 := txtT_len t2
  obtain ⟨W1, hW1⟩ : ∃ z, z = (w.alloc (.cells #[.pointer p1, .string d1] 82)).alloc (.cells #[.pointer p2, .string d2] 82) := ⟨_, rfl⟩
  have Q := hid (fun (w' : World) (hx : Ext W1 w') => (by rw [hW1] at hx; exact box2 hx :
    w'.cell? ⟨w.heap.size, 0, none⟩ = some (.pointer p1) ∧ w'.cell? ⟨w.heap.size, 1, none⟩ = some (.string d1) ∧ w'.cell? ⟨w.heap.size + 1, 0, none⟩ = some (.pointer p2) ∧ w'.cell? ⟨w.heap.size + 1, 1, none⟩ = some (.string d2) ∧ Ext w w'))
  have HW1 := hid hW1
  have A0 : (txtT t1).length ≤ 101 := by omega
  have B0 : (txtT t2).length ≤ 101 := by omega
  unfold difT
  clear ha1 ha2 hc1 hc2 ho1 ho2 hW1 l1 l2
  obtain ⟨A, hA⟩ : ∃ z, txtT t1 = z := ⟨_, rfl⟩
  obtain ⟨B, hB⟩ : ∃ z, txtT t2 = z := ⟨_, rfl⟩
  have RA := hid (fun (w0 w' : World) (v : Value) (h : RTold w0 w' t1 v) => (by obtain ⟨a, n, c, h1, h2, _⟩ := h; rw [hA] at h2; exact ⟨digT t1, a, n, c, h1, h2⟩ : ∃ d a n c, v = .agg #[.string d, .slice a n c] ∧ ItS w' (.slice a n c) A))
  have RB := hid (fun (w0 w' : World) (v : Value) (h : RTold w0 w' t2 v) => (by obtain ⟨a, n, c, h1, h2, _⟩ := h; rw [hB] at h2; exact ⟨digT t2, a, n, c, h1, h2⟩ : ∃ d a n c, v = .agg #[.string d, .slice a n c] ∧ ItS w' (.slice a n c) B))
  rw [hA] at A0 ⊢
  rw [hB] at B0 ⊢
  clear hA hB
  go_enter Tryz.func48, Tryz.ntmps48
  go_wp2_with fail
  rw [← HW1.out]
  obtain ⟨z0, z1, z2, z3, hy⟩ := Q.out W1 (Ext.refl _)
  go_cut [7, 8] (fun a b wx => ∃ a1 n1 c1 a2 n2 c2, a = .slice a1 n1 c1 ∧ b = .slice a2 n2 c2 ∧ ItS wx (.slice a1 n1 c1) A ∧ ItS wx (.slice a2 n2 c2) B ∧ Ext w wx)
  case first =>
    go_region_held3 (fun w' => w'.cell? ⟨w.heap.size, 0, none⟩ = some (.pointer p1) ∧ w'.cell? ⟨w.heap.size, 1, none⟩ = some (.string d1) ∧ w'.cell? ⟨w.heap.size + 1, 0, none⟩ = some (.pointer p2) ∧ w'.cell? ⟨w.heap.size + 1, 1, none⟩ = some (.string d2)) (go_keep)
      (first
        | (go_at_call_of 72 (Value.string d1); refine (C1.out _ (by first | exact hy.drew | exact hy)).mono ?_; rintro e w3 ⟨v3, rfl, hx3, hv3⟩; obtain ⟨e1, b1, k1, c1, rfl, hi1⟩ := RA.out _ _ _ hv3; have hy3 : Ext W1 w3 := Ext.trans ((Ext.refl _).drew) hx3; clear hv3; obtain ⟨m0, m1, m2, m3, m4⟩ := Q.out _ hy3)
        | (go_at_call_of 72 (Value.string d2); refine (C2.out _ m4).mono ?_; rintro e w4 ⟨v4, rfl, hx4, hv4⟩; obtain ⟨e2, b2, k2, c2, rfl, hi2⟩ := RB.out _ _ _ hv4; have hy4 := hy3.trans hx4; have hi3 := hi1.ext hx4; clear hv4; obtain ⟨o0, o1, o2, o3, o4⟩ := Q.out _ hy4))
    all_goals (try go_wp2_with fail)
    all_goals go_meet
    all_goals exact ⟨_, _, _, _, _, _, rfl, rfl, hi3, hi2, o4⟩
  case rest =>
    obtain ⟨W2, rfl⟩ : ∃ z, z = wc := ⟨_, rfl⟩
    obtain ⟨a1, n1, c1, a2, n2, c2, rfl, rfl, h1, h2, hx2⟩ := hcut
    obtain ⟨x1, y1, e1, g1, g2⟩ := h1.shape
    obtain ⟨x2, y2, e2, g3, g4⟩ := h2.shape
    simp only [Value.slice.injEq] at e1 e2
    obtain ⟨-, rfl, -⟩ := e1
    obtain ⟨-, rfl, -⟩ := e2
    have H1 := hid h1
    have H2 := hid h2
    have HX2 := hid hx2
    clear h1 h2 hx2 z0 z1 z2 z3 hy g1 g2 g3 g4
    obtain ⟨N, hN, hNA, hNB⟩ : ∃ N : Nat, N = min A.length B.length ∧ N ≤ A.length ∧ N ≤ B.length := ⟨_, rfl, by omega, by omega⟩
    have HN := hid hN
    clear hN
    go_upto_region 2 with (fail)
    go_cut [20, 21] (fun m i wx => m = .int .i64 (N : Int) ∧ i = .int .i64 0 ∧ wx = W2)
    case first =>
      go_wp2_with fail
      all_goals go_meet
      all_goals first | exact ⟨by rw [show N = A.length by have := HN.out; omega], rfl, rfl⟩ | exact ⟨by rw [show N = B.length by have := HN.out; omega], rfl, rfl⟩
    case rest =>
      obtain ⟨rfl, rfl, hw2⟩ := hcut
      replace hw2 := hw2.symm
      subst hw2
      go_wp2_with fail
      go_loopw [9, 21] (fun _ i wr => ∃ k : Nat, k ≤ N ∧ i = .int .i64 k ∧ dif A B = dif (A.drop k) (B.drop k) ∧ Ext W2 wr) (fun _ i _ => N - (intOf i).toNat)
      case atStart => exact ⟨0, Nat.zero_le _, rfl, by simp, Ext.refl _⟩
      case round =>
        obtain ⟨k, hk1, rfl, hd, hx⟩ := hrel
        have HD := hid hd
        have HX := hid hx
        clear hd hx
        by_cases hlt : k < N
        · obtain ⟨hA, hB⟩ : k < A.length ∧ k < B.length := by omega
          have hst := dif_step hA hB
          obtain ⟨b1, o1, rfl, hb1, q1⟩ := its_at H1.out hA
          obtain ⟨b2, o2, rfl, hb2, q2⟩ := its_at H2.out hB
          replace q1 := HX.out.keep1 q1
          replace q2 := HX.out.keep1 q2
          generalize A[k] = xa at *
          generalize B[k] = xb at *
          have i0 : (0 : Int) ≤ (k : Int) := by omega
          have i1 : (k : Int) < (A.length : Int) := by omega
          have i2 : (k : Int) < (B.length : Int) := by omega
          cases hb : beq xa xb with
          | true =>
            rw [hb] at hst
            simp only [if_true] at hst
            have hbb : (xa.toList == xb.toList) = true := hb
            obtain rfl := beq_iff.1 hb
            have HST := hid (HD.out.trans hst)
            clear hst hb
            go_wp2_with fail
            go_quiet (fail)
            go_wp2_with fail
            go_roundw
            case rel => exact ⟨k + 1, by omega, by go_num, HST.out, by first | exact HX.out.drewN _ | exact HX.out.drew | exact HX.out⟩
            case measure => simp [intOf] <;> omega
          | false =>
            rw [hb] at hst
            simp only [Bool.false_eq_true, if_false] at hst
            have hbb : (xa.toList == xb.toList) = false := hb
            have HST := hid (HD.out.trans hst)
            clear hst hb
            go_wp2_with fail
            go_quiet (fail)
            go_wp2_with fail
            go_quiet (fail)
            go_wp2_with fail
            go_ret3
            exact ⟨by rw [HST.out]; rfl, HX2.out.trans (by first | exact (HX.out.drewN _).drewN _ | exact HX.out.drewN _ | exact HX.out.drew.drew | exact HX.out.drew)⟩
        · have HE := hid (HD.out.trans (dif_end (A := A) (B := B) (k := k) (by have := HN.out; omega)))
          go_wp2_with fail
          go_ret3
          exact ⟨by rw [HE.out]; rfl, HX2.out.trans HX.out⟩
end Go.Proofs.YtjohkmkgmbihkaaGreatDoor

namespace Go.Proofs.YtjohkmkgmbihkaaGreatDoor
open Go.ChangeShapes Go.WideShapes Go.ChangeAt Go.RowKit
set_option linter.unusedVariables false
/-- Of two answers without fault: are their digests the same; their first difference. -/
def extD : Bool → Option (ByteArray × ByteArray) → Int × ByteArray × ByteArray
  | false, _ => (9, e0, e0)
  | true, none => (10, e0, e0)
  | true, some (x, y) => (0, x, y)
/-- What Extract answers. -/
def extO (lo hi s1 s2 : ByteArray) : Int × ByteArray × ByteArray :=
  if lookE lo hi s1 ≠ 0 then (lookE lo hi s1, e0, e0) else if lookE lo hi s2 ≠ 0 then (lookE lo hi s2, e0, e0) else match rdA s1, rdA s2 with
  | some t1, some t2 => extD (beq (digT t1) (digT t2)) (difT t1 t2)
  | _, _ => (9, e0, e0)
def extV (o : Int × ByteArray × ByteArray) : Value := .tuple #[.string o.2.1, .string o.2.2, .int .i64 o.1]

set_option maxHeartbeats 8000000 in
set_option maxRecDepth 100000 in
theorem Extract_any (lo hi s1 s2 : ByteArray) (hs1 : s1.size ≤ 9223372036854775807) (hs2 : s2.size ≤ 9223372036854775807) (w : World) (hg : ErrT w) :
    Calls Tryz.prog 23 #[.string lo, .string hi, .string s1, .string s2] w fun e w' => e = .returned (extV (extO lo hi s1 s2)) ∧ Ext w w' := by
  obtain ⟨W1, hW1⟩ : ∃ z, z = w.alloc (.cells #[.string lo, .string hi] 77) := ⟨_, rfl⟩
  have hx1 : Ext w W1 := by rw [hW1]; exact (Ext.refl w).alloc _
  have hq1 : W1.heap[w.heap.size]? = some (.cells #[.string lo, .string hi] 77) := by rw [hW1]; exact heap_alloc_new w _
  have Q := hid (fun (w' : World) (hx : Ext W1 w') => q_cells (hx.row hq1))
  have HR1 := hid (read_any lo hi s1 hs1 W1 (hg.ext hx1))
  have HR2 := hid (fun (w' : World) (hx : Ext W1 w') => read_any lo hi s2 hs2 w' (hg.ext (hx1.trans hx)))
  have HW1 := hid hW1
  have HX1 := hid hx1
  clear hW1 hx1 hq1 hg hs1 hs2
  by_cases h1 : lookE lo hi s1 = 0
  · obtain ⟨t1, hr1⟩ := look_some h1
    obtain ⟨ok1, cn1⟩ := rdA_gives hr1
    have L1 := hid h1
    have R1 := hid hr1
    by_cases h2 : lookE lo hi s2 = 0
    · obtain ⟨t2, hr2⟩ := look_some h2
      obtain ⟨ok2, cn2⟩ := rdA_gives hr2
      have L2 := hid h2
      have R2 := hid hr2
      have hO : extO lo hi s1 s2 = extD (beq (digT t1) (digT t2)) (difT t1 t2) := by
        unfold extO
        rw [if_neg (by simp [h1]), if_neg (by simp [h2]), hr1, hr2]
      rw [hO]
      have D1 := hid (fun (p : Option Addr) (d : ByteArray) (w' : World) (h : AIn w' t1 p d) => TDigest_any t1 cn1 ok1 p d w' h)
      have D2 := hid (fun (p : Option Addr) (d : ByteArray) (w' : World) (h : AIn w' t2 p d) => TDigest_any t2 cn2 ok2 p d w' h)
      have DF := hid (fun (p1 p2 : Option Addr) (d1 d2 : ByteArray) (w' : World) (h1 : AIn w' t1 p1 d1) (h2 : AIn w' t2 p2 d2) => Differ_any t1 t2 cn1 ok1 cn2 ok2 p1 p2 d1 d2 w' h1 h2)
      clear hO h1 h2 hr1 hr2 ok1 ok2 cn1 cn2
      obtain ⟨g1, hg1⟩ : ∃ z, digT t1 = z := ⟨_, rfl⟩
      obtain ⟨g2, hg2⟩ : ∃ z, digT t2 = z := ⟨_, rfl⟩
      obtain ⟨o, hdo⟩ : ∃ z, difT t1 t2 = z := ⟨_, rfl⟩
      rw [hg1, hg2, hdo]
      rw [hg1] at D1
      rw [hg2] at D2
      rw [hdo] at DF
      clear hg1 hg2 hdo
      have hb : ∃ b, beq g1 g2 = b := ⟨_, rfl⟩
      obtain ⟨bq, hbq⟩ := hb
      have hbb : (g1.toList == g2.toList) = bq := hbq
      rw [hbq]
      clear hbq
      go_enter Tryz.func23, Tryz.ntmps23
      go_wp2_with fail
      rw [← HW1.out]
      refine HR1.out.mono ?_
      rintro e w2 ⟨hx2, h⟩
      rcases h with ⟨h, _⟩ | ⟨_, t1', p1, d1, hr', rfl, hai1⟩
      · exact absurd L1.out h
      obtain rfl : t1 = t1' := Option.some.inj (R1.out.symm.trans hr')
      have x3 := (Ext.refl w2).alloc (.cells #[.pointer p1, .string d1] 82)
      have hn3 := heap_alloc_new w2 (.cells #[.pointer p1, .string d1] 82)
      have hy3 := hx2.trans x3
      obtain ⟨q0, q1⟩ := Q.out _ hy3
      have HY3 := hid hy3
      have HN3 := hid hn3
      have A3 := hid (hai1.ext x3)
      clear hr' hai1 x3 hx2 hy3 hn3
      go_wp2_with fail
      refine (HR2.out _ HY3.out).mono ?_
      rintro e w4 ⟨hx4, h⟩
      rcases h with ⟨h, _⟩ | ⟨_, t2', p2, d2, hr', rfl, hai2⟩
      · exact absurd L2.out h
      obtain rfl : t2 = t2' := Option.some.inj (R2.out.symm.trans hr')
      have x5 := (Ext.refl w4).alloc (.cells #[.pointer p2, .string d2] 82)
      have hn5 := heap_alloc_new w4 (.cells #[.pointer p2, .string d2] 82)
      obtain ⟨W5, hW5⟩ : ∃ z, z = w4.alloc (.cells #[.pointer p2, .string d2] 82) := ⟨_, rfl⟩
      rw [← hW5] at x5 hn5
      have hn4 := (hx4.trans x5).row HN3.out
      have Q5 := hid (fun (w' : World) (hx : Ext W5 w') => (⟨cell_of_row _ _ 0 _ _ _ (hx.row hn4), cell_of_row _ _ 1 _ _ _ (hx.row hn4), cell_of_row _ _ 0 _ _ _ (hx.row hn5), cell_of_row _ _ 1 _ _ _ (hx.row hn5)⟩ :
        w'.cell? ⟨w2.heap.size, 0, none⟩ = some (.pointer p1) ∧ w'.cell? ⟨w2.heap.size, 1, none⟩ = some (.string d1) ∧ w'.cell? ⟨w4.heap.size, 0, none⟩ = some (.pointer p2) ∧ w'.cell? ⟨w4.heap.size, 1, none⟩ = some (.string d2)))
      have A5 := hid (A3.out.ext (hx4.trans x5))
      have B5 := hid (hai2.ext x5)
      have HY5 := hid (HX1.out.trans ((HY3.out.trans hx4).trans x5))
      have HW5 := hid hW5
      clear hr' hai2 x5 hx4 hn5 hn4 hW5 q0 q1
      go_wp2_with fail
      rw [← HW5.out]
      obtain ⟨z0, z1, z2, z3⟩ := Q5.out W5 (Ext.refl _)
      have E1 := hid (fun (w' : World) (hx : Ext W5 w') => D1.out p1 d1 w' (A5.out.ext hx))
      have E2 := hid (fun (w' : World) (hx : Ext W5 w') => D2.out p2 d2 w' (B5.out.ext hx))
      go_cut [43] (fun b wx => b = .bool (!bq) ∧ Ext W5 wx)
      case first =>
        go_region_held3 (fun w' => w'.cell? ⟨w2.heap.size, 0, none⟩ = some (.pointer p1) ∧ w'.cell? ⟨w2.heap.size, 1, none⟩ = some (.string d1) ∧ w'.cell? ⟨w4.heap.size, 0, none⟩ = some (.pointer p2) ∧ w'.cell? ⟨w4.heap.size, 1, none⟩ = some (.string d2)) (go_keep)
          (first
            | (go_at_call_of 43 (Value.string d1); refine (E1.out _ ((Ext.refl _).drew)).mono ?_; rintro e w6 ⟨rfl, hx6⟩; have hy6 : Ext W5 w6 := Ext.trans ((Ext.refl _).drew) hx6; obtain ⟨m0, m1, m2, m3⟩ := Q5.out _ hy6)
            | (go_at_call_of 43 (Value.string d2); refine (E2.out _ hy6).mono ?_; rintro e w7 ⟨rfl, hx7⟩; have hy7 := hy6.trans hx7; obtain ⟨m0, m1, m2, m3⟩ := Q5.out _ hy7))
        all_goals (try go_wp2_with fail)
        all_goals go_meet
        all_goals exact ⟨rfl, hy7⟩
      case rest =>
        obtain ⟨W6, rfl⟩ : ∃ z, z = wc := ⟨_, rfl⟩
        obtain ⟨rfl, hx6⟩ := hcut
        clear z0 z1 z2 z3
        obtain ⟨z0, z1, z2, z3⟩ := Q5.out W6 hx6
        have F6 := hid (DF.out p1 p2 d1 d2 W6 (A5.out.ext hx6) (B5.out.ext hx6))
        have HY6 := hid (HY5.out.trans hx6)
        clear hx6
        cases bq with
        | false =>
          go_wp2_with fail
          go_ret3
          exact ⟨rfl, HY6.out⟩
        | true =>
          go_wp2_with fail
          refine F6.out.mono ?_
          rintro e w7 ⟨rfl, hx7⟩
          have HY7 := hid (HY6.out.trans hx7)
          cases o with
          | none =>
            simp only [difV]
            go_wp2_with fail
            go_ret3
            exact ⟨rfl, HY7.out⟩
          | some xy =>
            obtain ⟨xx, yy⟩ := xy
            simp only [difV]
            go_wp2_with fail
            go_ret3
            exact ⟨rfl, HY7.out⟩
    · have hO : extO lo hi s1 s2 = (lookE lo hi s2, e0, e0) := by
        unfold extO
        rw [if_neg (by simp [h1]), if_pos h2]
      rw [hO]
      clear hO h1 hr1 ok1 cn1
      generalize lookE lo hi s2 = le at *
      go_enter Tryz.func23, Tryz.ntmps23
      go_wp2_with fail
      rw [← HW1.out]
      refine HR1.out.mono ?_
      rintro e w2 ⟨hx2, h⟩
      rcases h with ⟨h, _⟩ | ⟨_, t1', p1, d1, hr', rfl, hai1⟩
      · exact absurd L1.out h
      have x3 := (Ext.refl w2).alloc (.cells #[.pointer p1, .string d1] 82)
      have hy3 := hx2.trans x3
      obtain ⟨q0, q1⟩ := Q.out _ hy3
      have HY3 := hid hy3
      clear hr' hai1 x3 hx2 hy3
      go_wp2_with fail
      refine (HR2.out _ HY3.out).mono ?_
      rintro e w4 ⟨hx4, h⟩
      rcases h with ⟨_, rfl⟩ | ⟨h, _⟩
      rotate_left
      · exact absurd h h2
      have HX5 := hid ((HX1.out.trans (HY3.out.trans hx4)).alloc oT)
      clear hx4
      go_wp2_with fail
      go_ret3
      exact ⟨rfl, HX5.out⟩
  · have hO : extO lo hi s1 s2 = (lookE lo hi s1, e0, e0) := by
      unfold extO
      rw [if_pos h1]
    rw [hO]
    clear hO
    generalize lookE lo hi s1 = le at *
    go_enter Tryz.func23, Tryz.ntmps23
    go_wp2_with fail
    rw [← HW1.out]
    refine HR1.out.mono ?_
    rintro e w2 ⟨hx2, h⟩
    rcases h with ⟨_, rfl⟩ | ⟨h, _⟩
    rotate_left
    · exact absurd h h1
    have HX5 := hid ((HX1.out.trans hx2).alloc oT)
    clear hx2
    go_wp2_with fail
    go_ret3
    exact ⟨rfl, HX5.out⟩
end Go.Proofs.YtjohkmkgmbihkaaGreatDoor

namespace Go.Proofs.YtjohkmkgmbihkaaGreatDoor
set_option linter.unusedVariables false
theorem text_inj {x1 x2 : It} {l1 l2 r1 r2 : ByteArray} (h1 : fault x1.key x1.val x1.h = 0) (h2 : fault x2.key x2.val x2.h = 0) (a1 : l1.size = 3) (a2 : l2.size = 3)
    (h : head x1 ++ l1 ++ r1 = head x2 ++ l2 ++ r2) : x1 = x2 ∧ l1 = l2 ∧ r1 = r2 := by
  rw [ByteArray.append_assoc, ByteArray.append_assoc, head_app, head_app] at h
  have e1 := tk_app ⟨#[78]⟩ (byte x1.key.size ++ (x1.key ++ (byte x1.val.size ++ (x1.val ++ (byte x1.h ++ (l1 ++ r1)))))) 1 rfl
  rw [h, tk_app ⟨#[78]⟩ _ 1 rfl] at e1
  have e2 := (Prod.mk.inj (Option.some.inj e1)).2
  have e3 := ent_app x1 (l1 ++ r1) h1
  rw [← e2, ent_app x2 (l2 ++ r2) h2] at e3
  have e4 := Prod.mk.inj (Option.some.inj e3)
  have e5 := tk_app l1 r1 3 a1
  rw [← e4.2, tk_app l2 r2 3 a2] at e5
  have e6 := Prod.mk.inj (Option.some.inj e5)
  exact ⟨e4.1.symm, e6.1.symm, e6.2.symm⟩
theorem dif_same (A R S : List ByteArray) : dif (A ++ R) (A ++ S) = dif R S := by
  induction A with
  | nil => rfl
  | cons a A ih =>
    show (if beq a a then dif (A ++ R) (A ++ S) else some (a, a)) = _
    rw [if_pos (beq_iff.2 rfl)]
    exact ih
theorem dif_head {a b : ByteArray} (A B : List ByteArray) (h : a ≠ b) : dif (a :: A) (b :: B) = some (a, b) := by
  show (if beq a b then dif A B else some (a, b)) = _
  rw [if_neg (by simp [beq_false.2 h])]
theorem node_ne_E (x : It) (l r : ByteArray) : head x ++ l ++ r ≠ tE := by
  intro h
  have := congrArg ByteArray.size h
  rw [ByteArray.size_append, ByteArray.size_append, head_size] at this
  have e : tE.size = 1 := rfl
  omega
/-- The first difference tells two texts that are not the same and have one sum. -/
def Split (A B : List ByteArray) : Prop := ∃ x y, dif A B = some (x, y) ∧ x ≠ y ∧ Sm.sum x = Sm.sum y
theorem two_answers (lo hi : ByteArray) : ∀ (t1 t2 : AT) (a b : ByteArray), okA t1 → okA t2 → okT lo hi t1 a b = true → okT lo hi t2 a b = true → digT t1 = digT t2 → ∀ R S : List ByteArray, t1 = t2 ∨ Split (txtT t1 ++ R) (txtT t2 ++ S)
  | .alone d1, .alone d2, a, b, _, _, _, _, h, R, S => by
    left
    have : d1 = d2 := h
    rw [this]
  | .empty, .empty, a, b, _, _, _, _, h, R, S => .inl rfl
  | .alone d1, .empty, a, b, _, _, h1, h2, _, R, S => by
    simp only [okT] at h1 h2
    rw [h2] at h1
    simp at h1
  | .empty, .alone d2, a, b, _, _, h1, h2, _, R, S => by
    simp only [okT] at h1 h2
    rw [h1] at h2
    simp at h2
  | .alone d1, .node x l r, a, b, _, _, h1, h2, _, R, S => by
    simp only [okT, Bool.and_eq_true] at h1 h2
    rw [h2.1.1.1] at h1
    simp at h1
  | .node x l r, .alone d2, a, b, _, _, h1, h2, _, R, S => by
    simp only [okT, Bool.and_eq_true] at h1 h2
    rw [h1.1.1.1] at h2
    simp at h2
  | .empty, .node x l r, a, b, _, _, _, _, h, R, S => by
    right
    exact ⟨_, _, dif_head _ _ (Ne.symm (node_ne_E x (digT l) (digT r))), Ne.symm (node_ne_E x (digT l) (digT r)), h⟩
  | .node x l r, .empty, a, b, _, _, _, _, h, R, S => by
    right
    exact ⟨_, _, dif_head _ _ (node_ne_E x (digT l) (digT r)), node_ne_E x (digT l) (digT r), h⟩
  | .node x1 l1 r1, .node x2 l2 r2, a, b, o1, o2, h1, h2, h, R, S => by
    by_cases ht : head x1 ++ digT l1 ++ digT r1 = head x2 ++ digT l2 ++ digT r2
    · obtain ⟨rfl, el, er⟩ := text_inj o1.1 o2.1 (digT_size o1.2.1) (digT_size o2.2.1) ht
      simp only [okT, Bool.and_eq_true] at h1 h2
      rcases two_answers lo hi l1 l2 a x1.key o1.2.1 o2.2.1 h1.1.2 h2.1.2 el (txtT r1 ++ R) (txtT r2 ++ S) with rfl | ⟨x, y, e1, e2, e3⟩
      · rcases two_answers lo hi r1 r2 x1.key b o1.2.2 o2.2.2 h1.2 h2.2 er R S with rfl | ⟨x, y, e1, e2, e3⟩
        · exact .inl rfl
        · right
          refine ⟨x, y, ?_, e2, e3⟩
          show dif ((head x1 ++ digT l1 ++ digT r1) :: ((txtT l1 ++ txtT r1) ++ R)) ((head x1 ++ digT l1 ++ digT r2) :: ((txtT l1 ++ txtT r2) ++ S)) = _
          rw [← er]
          have := dif_same ((head x1 ++ digT l1 ++ digT r1) :: txtT l1) (txtT r1 ++ R) (txtT r2 ++ S)
          rw [← e1, ← this]
          simp [List.append_assoc]
      · right
        refine ⟨x, y, ?_, e2, e3⟩
        show dif ((head x1 ++ digT l1 ++ digT r1) :: ((txtT l1 ++ txtT r1) ++ R)) ((head x1 ++ digT l2 ++ digT r2) :: ((txtT l2 ++ txtT r2) ++ S)) = _
        rw [← ht]
        have := dif_same [head x1 ++ digT l1 ++ digT r1] (txtT l1 ++ (txtT r1 ++ R)) (txtT l2 ++ (txtT r2 ++ S))
        rw [← e1, ← this]
        simp [List.append_assoc]
    · right
      exact ⟨_, _, dif_head _ _ ht, ht, h⟩
theorem dif_swap : ∀ (A B : List ByteArray), dif B A = (dif A B).map fun p => (p.2, p.1)
  | [], [] => rfl
  | [], _ :: _ => rfl
  | _ :: _, [] => rfl
  | a :: A, b :: B => by
    show (if beq b a then dif B A else some (b, a)) = (if beq a b then dif A B else some (a, b)).map _
    by_cases h : a = b
    · subst h
      rw [if_pos (beq_iff.2 rfl), if_pos (beq_iff.2 rfl)]
      exact dif_swap A B
    · rw [if_neg (by simp [beq_false.2 (Ne.symm h)]), if_neg (by simp [beq_false.2 h])]
      rfl
theorem dif_self (A : List ByteArray) : dif A A = none := by
  have := dif_same A [] []
  simpa [dif] using this
/-- What Extract says of two answers of one digest. -/
theorem sound_plain (lo hi : ByteArray) (t1 t2 : AT) (o1 : okA t1) (o2 : okA t2) (h1 : okT lo hi t1 e0 e0 = true) (h2 : okT lo hi t2 e0 e0 = true) (hd : digT t1 = digT t2) :
    (difT t1 t2 = none ∧ difT t2 t1 = none ∧ t1 = t2) ∨ ∃ x y, difT t1 t2 = some (x, y) ∧ difT t2 t1 = some (y, x) ∧ x ≠ y ∧ Sm.sum x = Sm.sum y := by
  rcases two_answers lo hi t1 t2 e0 e0 o1 o2 h1 h2 hd [] [] with rfl | ⟨x, y, e1, e2, e3⟩
  · exact .inl ⟨dif_self _, dif_self _, rfl⟩
  · right
    rw [List.append_nil, List.append_nil] at e1
    refine ⟨x, y, e1, ?_, e2, e3⟩
    unfold difT
    rw [dif_swap, e1]
    rfl
end Go.Proofs.YtjohkmkgmbihkaaGreatDoor

namespace Go.Proofs.YtjohkmkgmbihkaaGreatDoor
set_option linter.unusedVariables false
open Go.ChangeShapes Go.WideShapes Go.ChangeAt Go.RowKit
theorem dif_mem : ∀ {A B : List ByteArray} {x y : ByteArray}, dif A B = some (x, y) → x ∈ A ∧ y ∈ B
  | [], _, _, _, h => by cases ‹List ByteArray› <;> cases h
  | _ :: _, [], _, _, h => by cases h
  | a :: A, b :: B, x, y, h => by
    have h' : (if beq a b then dif A B else some (a, b)) = some (x, y) := h
    split at h'
    · have := dif_mem h'
      exact ⟨List.mem_cons_of_mem _ this.1, List.mem_cons_of_mem _ this.2⟩
    · cases h'
      exact ⟨List.mem_cons_self, List.mem_cons_self⟩
theorem txt_size : ∀ {t : AT}, okA t → ∀ x ∈ txtT t, x.size ≤ 50
  | .empty, _, x, hx => by
    simp only [txtT, List.mem_singleton] at hx
    subst hx; decide
  | .alone _, _, x, hx => by simp [txtT] at hx
  | .node z l r, h, x, hx => by
    simp only [txtT, List.mem_cons, List.mem_append] at hx
    rcases hx with rfl | hx | hx
    · obtain ⟨h1, h2, h3⟩ := fault_small h.1
      rw [ByteArray.size_append, ByteArray.size_append, head_size, digT_size h.2.1, digT_size h.2.2]
      omega
    · exact txt_size h.2.1 x hx
    · exact txt_size h.2.2 x hx
theorem look_okT {lo hi s : ByteArray} {t : AT} (h : lookE lo hi s = 0) (hr : rdA s = some t) : okT lo hi t e0 e0 = true := by
  unfold lookE at h
  split at h
  next ha => exact absurd h ha
  · rw [hr] at h
    simp only at h
    split at h
    · assumption
    · cases h
/-- The three ways in which forged bytes can go. -/
theorem sound_cases {L : List It} (hg : Good L) (lo hi F : ByteArray) (ha : askE lo hi = 0) :
    (∃ fv x1 y1 x2 y2, fv ≠ 0 ∧ chkE (dig L) lo hi F = fv ∧ chkL (dig L) lo hi F = [] ∧ extO lo hi (proveV L lo hi) F = (fv, x1, y1) ∧ extO lo hi F (proveV L lo hi) = (fv, x2, y2)) ∨
    (chkE (dig L) lo hi F = 0 ∧ chkL (dig L) lo hi F = withinP (prs L) lo hi ∧ extO lo hi (proveV L lo hi) F = (10, e0, e0) ∧ extO lo hi F (proveV L lo hi) = (10, e0, e0)) ∨
    (∃ P x y, P.length ≤ 50 ∧ chkE (dig L) lo hi F = 0 ∧ chkL (dig L) lo hi F = P ∧ extO lo hi (proveV L lo hi) F = (0, x, y) ∧ extO lo hi F (proveV L lo hi) = (0, y, x) ∧ x ≠ y ∧ Sm.sum x = Sm.sum y ∧ x.size ≤ 50 ∧ y.size ≤ 50) := by
  have hp : proveV L lo hi = ans lo hi L e0 e0 := by unfold proveV; rw [if_pos ha]
  have hr := rdA_ans lo hi L (good_fault hg) hg.2.1
  have hok := okT_ofL lo hi hg.1
  have hl : lookE lo hi (ans lo hi L e0 e0) = 0 := by
    unfold lookE
    rw [if_neg (by simp [ha]), hr]
    simp [hok]
  rw [hp]
  obtain ⟨o1, c1⟩ := rdA_gives hr
  by_cases hF : lookE lo hi F = 0
  · obtain ⟨t2, hr2⟩ := look_some hF
    obtain ⟨o2, c2⟩ := rdA_gives hr2
    have hok2 := look_okT hF hr2
    have x1 : extO lo hi (ans lo hi L e0 e0) F = extD (beq (dig L) (digT t2)) (difT (ofL lo hi L) t2) := by
      unfold extO; rw [if_neg (by simp [hl]), if_neg (by simp [hF]), hr, hr2]; simp only [digT_ofL]
    have x2 : extO lo hi F (ans lo hi L e0 e0) = extD (beq (digT t2) (dig L)) (difT t2 (ofL lo hi L)) := by
      unfold extO; rw [if_neg (by simp [hF]), if_neg (by simp [hl]), hr, hr2]; simp only [digT_ofL]
    by_cases hd : dig L = digT t2
    · have b1 : beq (dig L) (digT t2) = true := beq_iff.2 hd
      have b2 : beq (digT t2) (dig L) = true := beq_iff.2 hd.symm
      have hc : chkE (dig L) lo hi F = 0 := by unfold chkE; rw [if_neg (by simp [hF]), hr2]; simp [b2]
      have hcl : chkL (dig L) lo hi F = prsT lo hi t2 := by unfold chkL; rw [if_neg (by simp [hc]), hr2]
      rw [x1, x2, hc, hcl, b1, b2]
      rcases sound_plain lo hi (ofL lo hi L) t2 o1 o2 hok hok2 (by rw [digT_ofL]; exact hd) with ⟨d1, d2, e⟩ | ⟨x, y, d1, d2, e1, e2⟩
      · right; left
        rw [d1, d2, ← e, prsT_ofL lo hi hg.1, askL_within]
        exact ⟨rfl, rfl, rfl, rfl⟩
      · right; right
        rw [d1, d2]
        have hm := dif_mem d1
        have hpl := prsT_len lo hi t2
        exact ⟨_, x, y, by omega, rfl, rfl, rfl, rfl, e1, e2, txt_size o1 x hm.1, txt_size o2 y hm.2⟩
    · left
      have b1 : beq (dig L) (digT t2) = false := beq_false.2 hd
      have b2 : beq (digT t2) (dig L) = false := beq_false.2 (Ne.symm hd)
      have hc : chkE (dig L) lo hi F = 9 := by unfold chkE; rw [if_neg (by simp [hF]), hr2]; simp [b2]
      have hcl : chkL (dig L) lo hi F = [] := by unfold chkL; rw [if_pos (by simp [hc])]
      rw [x1, x2, hc, hcl, b1, b2]
      exact ⟨9, e0, e0, e0, e0, by decide, rfl, rfl, rfl, rfl⟩
  · left
    have hc : chkE (dig L) lo hi F = lookE lo hi F := by unfold chkE; rw [if_pos hF]
    have hcl : chkL (dig L) lo hi F = [] := by unfold chkL; rw [if_pos (by rw [hc]; exact hF)]
    refine ⟨lookE lo hi F, e0, e0, e0, e0, hF, hc, hcl, ?_, ?_⟩
    · unfold extO; rw [if_neg (by simp [hl]), if_pos hF]
    · unfold extO; rw [if_pos hF]
end Go.Proofs.YtjohkmkgmbihkaaGreatDoor

namespace Go.Proofs.YtjohkmkgmbihkaaGreatDoor
set_option linter.unusedVariables false
open Go.ChangeShapes Go.WideShapes Go.ChangeAt Go.RowKit

set_option maxHeartbeats 4000000 in
set_option maxRecDepth 100000 in
theorem Sound_no (ss : List St) (v : Value) (lo hi F : ByteArray) (w : World) (hv : Sts w v ss) (hlen : ss.length ≤ maxLen) (hF : F.size ≤ maxLen) (hge : ErrT w) (ha : askE lo hi ≠ 0) :
    Calls Tryz.prog 9 #[v, .string lo, .string hi, .string F] w fun e w' => e = .returned (.bool true) ∧ Ext w w' := by
  obtain ⟨hgood, hk30⟩ := fill_good ss (min ss.length 60 + 1)
  rw [show fillTo ss (min ss.length 60 + 1) = fillL ss from rfl] at hgood hk30
  have HF := hid (fun w hv => filled_any ss v w hv hlen)
  generalize fillL ss = L at *
  have HP := hid (fun w b hB => prove_on b L lo hi w w (Ext.refl _) hB)
  have hc : chkE (dig L) lo hi F = askE lo hi := by
    have hl : lookE lo hi F = askE lo hi := by unfold lookE; rw [if_pos ha]
    unfold chkE; rw [if_pos (by rw [hl]; exact ha), hl]
  have CK := hid (fun w hg => Check_any (dig L) lo hi F (by unfold maxLen at hF; omega) w hg)
  rw [hc] at CK
  have HD := hid (fun w b hB => digest_on b L w w (Ext.refl _) hB)
  have HV := hid hv
  have HG := hid hge
  generalize chkL (dig L) lo hi F = CL at *
  generalize proveV L lo hi = S at *
  generalize dig L = dl at *
  generalize askE lo hi = ak at *
  clear hv hge hc hgood hk30
  go_enter Tryz.func9, Tryz.ntmps9
  go_wp2_with fail
  refine (HF.out _ HV.out).mono ?_
  rintro e w1 ⟨lv, rfl, hx1, hB, hO⟩
  obtain ⟨la, lc, elv, _⟩ := (Prs.own hO).shape
  subst elv
  have HB := hid hB
  have HO := hid hO
  have HX1 := hid hx1
  clear hB hO hx1
  go_wp2_with fail
  refine (HD.out _ _ HB.out).mono ?_
  rintro e w2 ⟨rfl, hB2, hx2⟩
  have HB2 := hid hB2
  clear hB2
  go_wp2_with fail
  refine (HP.out _ _ HB2.out).mono ?_
  rintro e w3 ⟨rfl, hB3, hx3⟩
  have HY3 := hid (HX1.out.trans (hx2.trans hx3))
  have HO3 := hid (owns_ext HO.out (hx2.trans hx3))
  clear hB3 hx2 hx3
  go_wp2_with fail
  refine (CK.out _ (HG.out.ext HY3.out)).mono ?_
  rintro e w4 ⟨gv, rfl, hx4, hgv⟩
  obtain ⟨ga, gc, rfl⟩ := hgv.shape
  have HGV := hid hgv
  have HY4 := hid (HY3.out.trans hx4)
  have HO4 := hid (owns_ext HO3.out hx4)
  clear hgv
  go_wp2_with fail
  all_goals (go_ret; exact ⟨by first | rfl | simp, HY4.out⟩)

set_option maxHeartbeats 8000000 in
set_option maxRecDepth 100000 in
theorem Sound_ok (ss : List St) (v : Value) (lo hi F : ByteArray) (w : World) (hv : Sts w v ss) (hlen : ss.length ≤ maxLen) (hF : F.size ≤ maxLen) (hge : ErrT w) (ha : askE lo hi = 0) :
    Calls Tryz.prog 9 #[v, .string lo, .string hi, .string F] w fun e w' => e = .returned (.bool true) ∧ Ext w w' := by
  obtain ⟨hgood, hk30⟩ := fill_good ss (min ss.length 60 + 1)
  rw [show fillTo ss (min ss.length 60 + 1) = fillL ss from rfl] at hgood hk30
  have HF := hid (fun w hv => filled_any ss v w hv hlen)
  generalize fillL ss = L at *
  have hL := hgood.2.1
  have hpr : (prs L).length ≤ 50 := by rw [prs_length]; omega
  have hw1 : (withinP (prs L) lo hi).length ≤ 50 := Nat.le_trans (List.length_filter_le _ _) hpr
  have hps := prove_size hgood lo hi
  have hcs := sound_cases hgood lo hi F ha
  have HP := hid (fun w b hB => prove_on b L lo hi w w (Ext.refl _) hB)
  rw [ha] at HP
  have HD := hid (fun w b hB => digest_on b L w w (Ext.refl _) hB)
  unfold maxLen at hF
  generalize proveV L lo hi = S at *
  have CK := hid (fun w hg => Check_any (dig L) lo hi F (by omega) w hg)
  have X1 := hid (fun w hg => Extract_any lo hi S F (by omega) (by omega) w hg)
  have X2 := hid (fun w hg => Extract_any lo hi F S (by omega) (by omega) w hg)
  have HV := hid hv
  have HG := hid hge
  clear hv hge hgood hk30 ha
  generalize dig L = dl at *
  rcases hcs with ⟨fv, x1, y1, x2, y2, hne, k1, k2, k3, k4⟩ | ⟨k1, k2, k3, k4⟩ | ⟨PP, x, y, hPP, k1, k2, k3, k4, hxy, hsum, hsx, hsy⟩
  · rw [k1, k2] at CK
    rw [k3] at X1
    rw [k4] at X2
    clear k1 k2 k3 k4
    go_enter Tryz.func9, Tryz.ntmps9
    go_wp2_with fail
    refine (HF.out _ HV.out).mono ?_
    rintro e w1 ⟨lv, rfl, hx1, hB, hO⟩
    obtain ⟨la, lc, elv, _⟩ := (Prs.own hO).shape
    subst elv
    have HB := hid hB
    have HO := hid hO
    have HX1 := hid hx1
    clear hB hO hx1
    go_wp2_with fail
    refine (HD.out _ _ HB.out).mono ?_
    rintro e w2 ⟨rfl, hB2, hx2⟩
    have HB2 := hid hB2
    clear hB2
    go_wp2_with fail
    refine (HP.out _ _ HB2.out).mono ?_
    rintro e w3 ⟨rfl, hB3, hx3⟩
    have HY3 := hid (HX1.out.trans (hx2.trans hx3))
    have HO3 := hid (owns_ext HO.out (hx2.trans hx3))
    clear hB3 hx2 hx3
    go_wp2_with fail
    refine (CK.out _ (HG.out.ext HY3.out)).mono ?_
    rintro e w4 ⟨gv, rfl, hx4, hgv⟩
    obtain ⟨ga, gc, rfl⟩ := hgv.shape
    have HGV := hid hgv
    have HY4 := hid (HY3.out.trans hx4)
    have HO4 := hid (owns_ext HO3.out hx4)
    clear hgv
    go_wp2_with fail
    refine (X1.out _ (HG.out.ext HY4.out)).mono ?_
    rintro e w5 ⟨rfl, hx5⟩
    have HY5 := hid (HY4.out.trans hx5)
    simp only [extV]
    go_wp2_with fail
    refine (X2.out _ (HG.out.ext HY5.out)).mono ?_
    rintro e w6 ⟨rfl, hx6⟩
    have HY6 := hid (HY5.out.trans hx6)
    have HO6 := hid (owns_ext (owns_ext HO4.out hx5) hx6)
    have HG6 := hid (ItP.ext (ItP.ext (HGV.out.it) hx5) hx6)
    simp only [extV]
    go_wp2_with fail
    all_goals (go_ret; exact ⟨by first | rfl | simp, HY6.out⟩)
  · rw [k1, k2] at CK
    rw [k3] at X1
    rw [k4] at X2
    clear k1 k2 k3 k4
    obtain ⟨PP, hPQ⟩ : ∃ z, withinP (prs L) lo hi = z := ⟨_, rfl⟩
    rw [hPQ] at CK
    have hPP : PP.length ≤ 50 := by rw [← hPQ]; exact hw1
    have HPQ := hid hPQ
    clear hPQ
    go_enter Tryz.func9, Tryz.ntmps9
    go_wp2_with fail
    refine (HF.out _ HV.out).mono ?_
    rintro e w1 ⟨lv, rfl, hx1, hB, hO⟩
    obtain ⟨la, lc, elv, _⟩ := (Prs.own hO).shape
    subst elv
    have HB := hid hB
    have HO := hid hO
    have HX1 := hid hx1
    clear hB hO hx1
    go_wp2_with fail
    refine (HD.out _ _ HB.out).mono ?_
    rintro e w2 ⟨rfl, hB2, hx2⟩
    have HB2 := hid hB2
    clear hB2
    go_wp2_with fail
    refine (HP.out _ _ HB2.out).mono ?_
    rintro e w3 ⟨rfl, hB3, hx3⟩
    have HY3 := hid (HX1.out.trans (hx2.trans hx3))
    have HO3 := hid (owns_ext HO.out (hx2.trans hx3))
    clear hB3 hx2 hx3
    go_wp2_with fail
    refine (CK.out _ (HG.out.ext HY3.out)).mono ?_
    rintro e w4 ⟨gv, rfl, hx4, hgv⟩
    obtain ⟨ga, gc, rfl⟩ := hgv.shape
    have HGV := hid hgv
    have HY4 := hid (HY3.out.trans hx4)
    have HO4 := hid (owns_ext HO3.out hx4)
    clear hgv
    go_wp2_with fail
    refine (X1.out _ (HG.out.ext HY4.out)).mono ?_
    rintro e w5 ⟨rfl, hx5⟩
    have HY5 := hid (HY4.out.trans hx5)
    simp only [extV]
    go_wp2_with fail
    refine (X2.out _ (HG.out.ext HY5.out)).mono ?_
    rintro e w6 ⟨rfl, hx6⟩
    have HY6 := hid (HY5.out.trans hx6)
    have HO6 := hid (owns_ext (owns_ext HO4.out hx5) hx6)
    have HG6 := hid (ItP.ext (ItP.ext (HGV.out.it) hx5) hx6)
    simp only [extV]
    go_wp2_with fail
    refine (within_any (prs L) _ lo hi _ (Prs.own HO6.out) (by omega)).mono ?_
    rintro e w7 ⟨wv, rfl, hx7, hwv⟩
    obtain ⟨wa, wc', ewv, _⟩ := (Prs.own hwv).shape
    subst ewv
    have HWV := hid hwv
    have HY7 := hid (HY6.out.trans hx7)
    clear hwv
    go_wp2_with fail
    refine (same_any PP (withinP (prs L) lo hi) _ _ _ (HG6.out.ext hx7) (Prs.own HWV.out) (by unfold maxLen; omega) (by unfold maxLen; omega)).mono ?_
    rintro e w8 ⟨rfl, hx8⟩
    have HY8 := hid (HY7.out.trans hx8)
    rw [show decide (PP = withinP (prs L) lo hi) = true by simp [HPQ.out]]
    go_wp2_with fail
    all_goals (go_ret; exact ⟨by first | rfl | simp, HY8.out⟩)
  · rw [k1, k2] at CK
    rw [k3] at X1
    rw [k4] at X2
    clear k1 k2 k3 k4
    have hq : (x.toList == y.toList) = false := beq_false.2 hxy
    have HS := hid hsum
    have S1 := hid (fun w => Sum_any x w (by unfold maxLen; omega))
    have S2 := hid (fun w => Sum_any y w (by unfold maxLen; omega))
    rw [hsum] at S1
    clear hsum
    go_enter Tryz.func9, Tryz.ntmps9
    go_wp2_with fail
    refine (HF.out _ HV.out).mono ?_
    rintro e w1 ⟨lv, rfl, hx1, hB, hO⟩
    obtain ⟨la, lc, elv, _⟩ := (Prs.own hO).shape
    subst elv
    have HB := hid hB
    have HO := hid hO
    have HX1 := hid hx1
    clear hB hO hx1
    go_wp2_with fail
    refine (HD.out _ _ HB.out).mono ?_
    rintro e w2 ⟨rfl, hB2, hx2⟩
    have HB2 := hid hB2
    clear hB2
    go_wp2_with fail
    refine (HP.out _ _ HB2.out).mono ?_
    rintro e w3 ⟨rfl, hB3, hx3⟩
    have HY3 := hid (HX1.out.trans (hx2.trans hx3))
    have HO3 := hid (owns_ext HO.out (hx2.trans hx3))
    clear hB3 hx2 hx3
    go_wp2_with fail
    refine (CK.out _ (HG.out.ext HY3.out)).mono ?_
    rintro e w4 ⟨gv, rfl, hx4, hgv⟩
    obtain ⟨ga, gc, rfl⟩ := hgv.shape
    have HGV := hid hgv
    have HY4 := hid (HY3.out.trans hx4)
    have HO4 := hid (owns_ext HO3.out hx4)
    clear hgv
    go_wp2_with fail
    refine (X1.out _ (HG.out.ext HY4.out)).mono ?_
    rintro e w5 ⟨rfl, hx5⟩
    have HY5 := hid (HY4.out.trans hx5)
    simp only [extV]
    go_wp2_with fail
    refine (X2.out _ (HG.out.ext HY5.out)).mono ?_
    rintro e w6 ⟨rfl, hx6⟩
    have HY6 := hid (HY5.out.trans hx6)
    have HO6 := hid (owns_ext (owns_ext HO4.out hx5) hx6)
    have HG6 := hid (ItP.ext (ItP.ext (HGV.out.it) hx5) hx6)
    simp only [extV]
    go_wp2_with fail
    refine (within_any (prs L) _ lo hi _ (Prs.own HO6.out) (by omega)).mono ?_
    rintro e w7 ⟨wv, rfl, hx7, hwv⟩
    obtain ⟨wa, wc', ewv, _⟩ := (Prs.own hwv).shape
    subst ewv
    have HWV := hid hwv
    have HY7 := hid (HY6.out.trans hx7)
    clear hwv
    go_wp2_with fail
    refine (same_any PP (withinP (prs L) lo hi) _ _ _ (HG6.out.ext hx7) (Prs.own HWV.out) (by unfold maxLen; omega) (by unfold maxLen; omega)).mono ?_
    rintro e w8 ⟨rfl, hx8⟩
    have HY8 := hid (HY7.out.trans hx8)
    generalize decide (PP = withinP (prs L) lo hi) = rb at *
    go_wp2_with fail
    refine (S1.out _).mono ?_
    rintro e w9 ⟨rfl, hx9⟩
    have HY9 := hid (HY8.out.trans hx9)
    go_wp2_with fail
    refine (S2.out _).mono ?_
    rintro e w10 ⟨rfl, hx10⟩
    have HY10 := hid (HY9.out.trans hx10)
    generalize Sm.sum y = sy at *
    go_wp2_with fail
    all_goals (go_ret; exact ⟨by first | rfl | simp, HY10.out⟩)
end Go.Proofs.YtjohkmkgmbihkaaGreatDoor

namespace Go.Proofs.YtjohkmkgmbihkaaGreatDoor
set_option linter.unusedVariables false
open Go.ChangeShapes Go.WideShapes Go.ChangeAt Go.RowKit
namespace sound
open Go.ChangeMaps (open_string shut_string)
theorem laidOut : laidOutB Tryz.prog = true := by kernel_rfl

set_option maxRecDepth 100000 in
theorem contract (H : Type) (enc : TypeId × Value → H) (W : World) (base : Nat) (args : Array Value) (ds gs : List (DataW H)) (before : List MemPlace)
    (hval0 : ∀ (j : Nat) t v, Tryz.f9.params[j]? = some t → args[j]? = some v → Value.okWide Tryz.prog W .any base t v)
    (hW : DataW.Whole enc Tryz.prog Tryz.f9.params.toList Rows.soundSpec.vars false W args.toList ds gs before) (hL : laidMetH Tryz.prog Rows.soundRow.laid W) :
    Calls Tryz.prog 9 args W fun e W' => ∃ v, e = .returned v ∧ Rows.soundSpec.post enc Tryz.prog Tryz.f9 false true false false W args v W' := by
  have hval : ∀ (j : Nat) t v, Tryz.f9.params[j]? = some t → args[j]? = some v → Value.okWide Tryz.prog W .any base t v := hval0
  have hW' := hW
  obtain ⟨p, q, hA0, hV, rfl, hfz, hnd⟩ := hW
  have hA : DataW.TrodAll enc Tryz.prog W 0 (fun _ => true) true Tryz.f9.params.toList args.toList ds p := hA0
  rw [Tryz.params9] at hA hval
  obtain ⟨v0, vs0, d0, ds0, p0, q0, hargs, rfl, rfl, h0, r0⟩ := trodAll_cons hA
  obtain ⟨v1, vs1, d1, ds1, p1, q1, rfl, rfl, rfl, h1, r1⟩ := trodAll_cons r0
  obtain ⟨v2, vs2, d2, ds2, p2, q2, rfl, rfl, rfl, h2, r2⟩ := trodAll_cons r1
  obtain ⟨v3, vs3, d3, ds3, p3, q3, rfl, rfl, rfl, h3, r3⟩ := trodAll_cons r2
  obtain ⟨rfl, rfl, rfl⟩ := trodAll_nil r3
  obtain rfl : args = #[v0, v1, v2, v3] := by cases args; simp_all
  obtain ⟨rfl, rfl⟩ := trodVars_none hV
  obtain ⟨a0, len0, cap0, rfl⟩ := okWide_slice Tryz.underlying35 (hval 0 35 v0 rfl rfl)
  have k0 := h0
  have lt0 : ∀ x ∈ p0, x.block < W.heap.size := by obtain ⟨m, hm⟩ := k0; exact DataW.trod_lt m _ _ _ hm
  obtain ⟨ss, hl, hs⟩ : ∃ ss : List St, ss.length = len0 ∧ Sts W (.slice a0 len0 cap0) ss := by
    obtain ⟨fuel, hf⟩ := h0
    exact steps_of hf
  obtain ⟨a1, rfl, rfl, rfl, w1⟩ := open_string Tryz.underlying9 (hval 1 9 v1 rfl rfl) h1
  obtain ⟨a2, rfl, rfl, rfl, w2⟩ := open_string Tryz.underlying9 (hval 2 9 v2 rfl rfl) h2
  obtain ⟨a3, rfl, rfl, rfl, w3⟩ := open_string Tryz.underlying9 (hval 3 9 v3 rfl rfl) h3
  clear hA0 hval0
  have hm : ss.length ≤ maxLen := by obtain ⟨_, _, _, q1, q2⟩ := hs.shape; omega
  have hE : ErrT W := errT_of_laid hL
  have walk : Calls Tryz.prog 9 #[.slice a0 len0 cap0, .string a1, .string a2, .string a3] W fun e w' => e = .returned (.bool true) ∧ Ext W w' := by
    by_cases ha : askE a1 a2 = 0
    · exact Sound_ok ss _ a1 a2 a3 W hs hm w3 hE ha
    · exact Sound_no ss _ a1 a2 a3 W hs hm w3 hE ha
  refine walk.mono fun e W' ⟨he, bel⟩ => ?_
  subst he
  exact ⟨_, rfl, _, _, _, [], _, [], hW', trodAll_mk1 (shut_bool Tryz.underlying4 _), (trodAll_cons_mk (Below.trod laidOut (by kernel_rfl) (of_decide_eq_true (by kernel_rfl)) k0 bel lt0) (trodAll_cons_mk (shut_string Tryz.underlying9 w1) (trodAll_cons_mk (shut_string Tryz.underlying9 w2) (trodAll_cons_mk (shut_string Tryz.underlying9 w3) trodAll_mk0)))), rfl, bel.frame _, fun h => by cases h⟩

theorem laid_met (os : Os) : laidMetH Tryz.prog Rows.soundRow.laid ((laidWorld os).forCall (fun _ _ => 0) ⟨#[], #[.slice none 0 0, .string ByteArray.empty, .string ByteArray.empty, .string ByteArray.empty], []⟩).memory :=
  laidMetH_of_parts (laidMet_nil _ _) (by kernel_rfl)
theorem reads (os : Os) {H : Type} (enc : TypeId × Value → H) : ∃ places, DataW.whole enc Tryz.prog ((laidWorld os).forCall (fun _ _ => 0) ⟨#[], #[.slice none 0 0, .string ByteArray.empty, .string ByteArray.empty, .string ByteArray.empty], []⟩).memory Tryz.f9.params.toList Rows.soundSpec.vars false #[Value.slice none 0 0, .string ByteArray.empty, .string ByteArray.empty, .string ByteArray.empty].toList 8 = some ([.nil, .lit (.string []), .lit (.string []), .lit (.string [])], [], places) :=
  ⟨[], by kernel_rfl⟩

set_option maxRecDepth 100000 in
theorem lifted (os : Os) (started : os.Started) (H : Type) (enc : TypeId × Value → H) (F : Stop.Interp) :
    ReturnsInHanded {} Tryz.checked os 9 .any ((OpenSpec.ofChange Rows.soundSpec).preRow enc Tryz.prog Tryz.f9 Rows.soundRow.domain false Rows.soundRow.laid) (((OpenSpec.ofChange Rows.soundSpec).at F).post enc Tryz.prog Tryz.f9 false true false false) := by
  obtain ⟨places, hx⟩ := reads os enc
  refine returnsInHanded_of_row (C := Tryz.checked) (s := OpenSpec.ofChange Rows.soundSpec) Tryz.own started (by kernel_rfl) Tryz.func9
    (witness_row_at (enc := enc) (C := Tryz.checked) false (laidWorld os) #[.slice none 0 0, .string ByteArray.empty, .string ByteArray.empty, .string ByteArray.empty] rfl (by kernel_rfl) (by kernel_rfl) (by kernel_rfl)
      (OpenSpec.preRow_of_cond 8 hx (by kernel_rfl) (fun k hk => by cases hk) (by kernel_rfl) (laid_met os))) ?_
  intro W base args ds gs before hval hW _ _ _ hL _ _
  exact contract H enc W base args ds gs before hval hW hL

theorem said : Rows.SoundSaid :=
  OpenClaim.holds_of_cond 9 Tryz.f9 rfl rfl rfl rfl rfl rfl rfl ⟨rfl, rfl, rfl, rfl, rfl⟩ rfl rfl rfl rfl rfl (by kernel_rfl) Tryz.func9 (by kernel_rfl)
    (of_decide_eq_true (by kernel_rfl)) (by unfold Func.isWrapper; first | (rw [if_pos (by decide +kernel)]; kernel_rfl) | (rw [if_neg (by decide +kernel)]; exact ⟨rfl, rfl⟩))
    (fun os started H enc _ F => by rw [OpenClaim.pre_eq_preRow]; exact lifted os started H enc F)

/-- No parameter wants a stand-in. -/
theorem plain (f : FuncId) (fn : Func) (hf : Tryz.pinned.checked.prog.funcNamed "attest/attestkeep.Sound" = some f) (hfn : Tryz.pinned.checked.prog.funcs[f]? = some fn) :
    true = Tryz.pinned.checked.prog.looks [] ∧ ∀ (j : Nat) t, fn.params[j]? = some t → Tryz.pinned.checked.prog.wantsStandIn t = false := by
  obtain rfl : f = 9 := Option.some.inj ((show Tryz.prog.funcNamed "attest/attestkeep.Sound" = some 9 by kernel_rfl).symm.trans hf) |>.symm
  obtain rfl : fn = Tryz.f9 := (Option.some.inj (Tryz.func9.symm.trans hfn)).symm
  refine ⟨by kernel_rfl, fun j t ht => ?_⟩
  rw [Tryz.params9] at ht
  have hm := Array.mem_of_getElem? ht
  have ht' : t = 35 ∨ t = 9 := by
    simp at hm
    omega
  rcases ht' with rfl | rfl
  · exact (show Tryz.prog.wantsStandIn 35 = false by kernel_rfl)
  · exact (show Tryz.prog.wantsStandIn 9 = false by kernel_rfl)
end sound
/-- The statement. -/
theorem sound_card : Rows.SoundCardSaid :=
  Claim7.holds_tied_plain_at .later [] _ _ _ _ sound.said (fun _ h => by cases h) (by kernel_rfl) (fun _ h => by cases h) sound_row_tie rfl ⟨rfl, rfl⟩ (by kernel_rfl) rfl sound.plain (by kernel_rfl)
#print axioms sound_card
end Go.Proofs.YtjohkmkgmbihkaaGreatDoor
