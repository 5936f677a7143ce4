/- For all steps, every text and every number: two books that were filled by the steps, with one key put into both, whose two values have one sum in their places: they have one digest; the answer of the second passes with the first's digest and tells the other value, and Extract of both answers gives two texts that are not the same and have one sum. No condition; the one listed variable is tied to the program's text. -/
import Derived.Test.YtjohkmkgmbihkaaGreatDoorChkB
import Derived.Deep.RegionHeld3
import Derived.Deep.DeepCutAuto
import Derived.Test.YtjohkmkgmbihkaaGreatDoorAnsRead3
import Derived.Test.YtjohkmkgmbihkaaGreatDoorProvA
import Derived.Test.YtjohkmkgmbihkaaGreatDoorStepsRow
import Derived.Test.YtjohkmkgmbihkaaGreatDoorLaid
namespace Go.Proofs.YtjohkmkgmbihkaaGreatDoor
open Go.ChangeShapes Go.WideShapes Go.ChangeAt Go.RowKit
set_option linter.unusedVariables false
/-- The first two texts that are not the same. -/
def dif : List ByteArray → List ByteArray → Option (ByteArray × ByteArray)
  | a :: A, b :: B => if beq a b then dif A B else some (a, b)
  | _, _ => none
theorem dif_step {A B : List ByteArray} {k : Nat} (h1 : k < A.length) (h2 : k < B.length) : dif (A.drop k) (B.drop k) = if beq A[k] B[k] then dif (A.drop (k + 1)) (B.drop (k + 1)) else some (A[k], B[k]) := by
  rw [← List.getElem_cons_drop h1, ← List.getElem_cons_drop h2]; rfl
theorem dif_end {A B : List ByteArray} {k : Nat} (h : A.length ≤ k ∨ B.length ≤ k) : dif (A.drop k) (B.drop k) = none := by
  rcases h with h | h
  · rw [List.drop_eq_nil_of_le h]; cases B.drop k <;> rfl
  · rw [List.drop_eq_nil_of_le h]; cases A.drop k <;> rfl
theorem its_at {w : World} {a : Option Addr} {n c : Nat} {A : List ByteArray} (h : ItS w (.slice a n c) A) {k : Nat} (hk : k < A.length) : ∃ b o, a = some ⟨b, o, none⟩ ∧ b < w.heap.size ∧ w.cell? ⟨b, o + k, none⟩ = some (.string A[k]) := by
  rcases h.2 with ⟨_, h2⟩ | ⟨b, o, cap, hv, h3, h4, h5, h6⟩
  · omega
  · simp only [Value.slice.injEq] at hv
    exact ⟨b, o, hv.1, h5, h6 k _ (by simp [sc, hk])⟩
def difT (t1 t2 : AT) : Option (ByteArray × ByteArray) := dif (txtT t1) (txtT t2)
def difV (o : Option (ByteArray × ByteArray)) : Value := match o with
  | none => .tuple #[.string ⟨#[]⟩, .string ⟨#[]⟩, .bool false]
  | some (x, y) => .tuple #[.string x, .string y, .bool true]

set_option maxHeartbeats 4000000 in
set_option maxRecDepth 100000 in
theorem Differ_any (t1 t2 : AT) (hc1 : cnt t1 ≤ 50) (ho1 : okA t1) (hc2 : cnt t2 ≤ 50) (ho2 : okA t2) (p1 p2 : Option Addr) (d1 d2 : ByteArray) (w : World) (ha1 : AIn w t1 p1 d1) (ha2 : AIn w t2 p2 d2) :
    Calls Tryz.prog 48 #[.agg #[.pointer p1, .string d1], .agg #[.pointer p2, .string d2]] w fun e w' => e = .returned (difV (difT t1 t2)) ∧ Ext w w' := by
  have hfl : ∀ x a n c w, (Instr.field 131 (.agg #[.string x, .slice a n c]) 1).run Tryz.prog w = .ok (.slice a n c) w := fun x a n c w => by first | kernel_rfl | rfl
  have C1 := hid (fun (w' : World) (hx : Ext w w') => Told_any t1 hc1 ho1 p1 d1 w' (ha1.ext hx))
  have C2 := hid (fun (w' : World) (hx : Ext w w') => Told_any t2 hc2 ho2 p2 d2 w' (ha2.ext hx))
  have l1 := txtT_len t1
  have l2 := txtT_len t2
  obtain ⟨W1, hW1⟩ : ∃ z, z = (w.alloc (.cells #[.pointer p1, .string d1] 82)).alloc (.cells #[.pointer p2, .string d2] 82) := ⟨_, rfl⟩
  have Q := hid (fun (w' : World) (hx : Ext W1 w') => (by rw [hW1] at hx; exact box2 hx :
    w'.cell? ⟨w.heap.size, 0, none⟩ = some (.pointer p1) ∧ w'.cell? ⟨w.heap.size, 1, none⟩ = some (.string d1) ∧ w'.cell? ⟨w.heap.size + 1, 0, none⟩ = some (.pointer p2) ∧ w'.cell? ⟨w.heap.size + 1, 1, none⟩ = some (.string d2) ∧ Ext w w'))
  have HW1 := hid hW1
  have A0 : (txtT t1).length ≤ 101 := by omega
  have B0 : (txtT t2).length ≤ 101 := by omega
  unfold difT
  clear ha1 ha2 hc1 hc2 ho1 ho2 hW1 l1 l2
  obtain ⟨A, hA⟩ : ∃ z, txtT t1 = z := ⟨_, rfl⟩
  obtain ⟨B, hB⟩ : ∃ z, txtT t2 = z := ⟨_, rfl⟩
  have RA := hid (fun (w0 w' : World) (v : Value) (h : RTold w0 w' t1 v) => (by obtain ⟨a, n, c, h1, h2, _⟩ := h; rw [hA] at h2; exact ⟨digT t1, a, n, c, h1, h2⟩ : ∃ d a n c, v = .agg #[.string d, .slice a n c] ∧ ItS w' (.slice a n c) A))
  have RB := hid (fun (w0 w' : World) (v : Value) (h : RTold w0 w' t2 v) => (by obtain ⟨a, n, c, h1, h2, _⟩ := h; rw [hB] at h2; exact ⟨digT t2, a, n, c, h1, h2⟩ : ∃ d a n c, v = .agg #[.string d, .slice a n c] ∧ ItS w' (.slice a n c) B))
  rw [hA] at A0 ⊢
  rw [hB] at B0 ⊢
  clear hA hB
  go_enter Tryz.func48, Tryz.ntmps48
  go_wp2_with fail
  rw [← HW1.out]
  obtain ⟨z0, z1, z2, z3, hy⟩ := Q.out W1 (Ext.refl _)
  go_cut [7, 8] (fun a b wx => ∃ a1 n1 c1 a2 n2 c2, a = .slice a1 n1 c1 ∧ b = .slice a2 n2 c2 ∧ ItS wx (.slice a1 n1 c1) A ∧ ItS wx (.slice a2 n2 c2) B ∧ Ext w wx)
  case first =>
    go_region_held3 (fun w' => w'.cell? ⟨w.heap.size, 0, none⟩ = some (.pointer p1) ∧ w'.cell? ⟨w.heap.size, 1, none⟩ = some (.string d1) ∧ w'.cell? ⟨w.heap.size + 1, 0, none⟩ = some (.pointer p2) ∧ w'.cell? ⟨w.heap.size + 1, 1, none⟩ = some (.string d2)) (go_keep)
      (first
        | (go_at_call_of 72 (Value.string d1); refine (C1.out _ (by first | exact hy.drew | exact hy)).mono ?_; rintro e w3 ⟨v3, rfl, hx3, hv3⟩; obtain ⟨e1, b1, k1, c1, rfl, hi1⟩ := RA.out _ _ _ hv3; have hy3 : Ext W1 w3 := Ext.trans ((Ext.refl _).drew) hx3; clear hv3; obtain ⟨m0, m1, m2, m3, m4⟩ := Q.out _ hy3)
        | (go_at_call_of 72 (Value.string d2); refine (C2.out _ m4).mono ?_; rintro e w4 ⟨v4, rfl, hx4, hv4⟩; obtain ⟨e2, b2, k2, c2, rfl, hi2⟩ := RB.out _ _ _ hv4; have hy4 := hy3.trans hx4; have hi3 := hi1.ext hx4; clear hv4; obtain ⟨o0, o1, o2, o3, o4⟩ := Q.out _ hy4))
    all_goals (try go_wp2_with fail)
    all_goals go_meet
    all_goals exact ⟨_, _, _, _, _, _, rfl, rfl, hi3, hi2, o4⟩
  case rest =>
    obtain ⟨W2, rfl⟩ : ∃ z, z = wc := ⟨_, rfl⟩
    obtain ⟨a1, n1, c1, a2, n2, c2, rfl, rfl, h1, h2, hx2⟩ := hcut
    obtain ⟨x1, y1, e1, g1, g2⟩ := h1.shape
    obtain ⟨x2, y2, e2, g3, g4⟩ := h2.shape
    simp only [Value.slice.injEq] at e1 e2
    obtain ⟨-, rfl, -⟩ := e1
    obtain ⟨-, rfl, -⟩ := e2
    have H1 := hid h1
    have H2 := hid h2
    have HX2 := hid hx2
    clear h1 h2 hx2 z0 z1 z2 z3 hy g1 g2 g3 g4
    obtain ⟨N, hN, hNA, hNB⟩ : ∃ N : Nat, N = min A.length B.length ∧ N ≤ A.length ∧ N ≤ B.length := ⟨_, rfl, by omega, by omega⟩
    have HN := hid hN
    clear hN
    go_upto_region 2 with (fail)
    go_cut [20, 21] (fun m i wx => m = .int .i64 (N : Int) ∧ i = .int .i64 0 ∧ wx = W2)
    case first =>
      go_wp2_with fail
      all_goals go_meet
      all_goals first | exact ⟨by rw [show N = A.length by have := HN.out; omega], rfl, rfl⟩ | exact ⟨by rw [show N = B.length by have := HN.out; omega], rfl, rfl⟩
    case rest =>
      obtain ⟨rfl, rfl, hw2⟩ := hcut
      replace hw2 := hw2.symm
      subst hw2
      go_wp2_with fail
      go_loopw [9, 21] (fun _ i wr => ∃ k : Nat, k ≤ N ∧ i = .int .i64 k ∧ dif A B = dif (A.drop k) (B.drop k) ∧ Ext W2 wr) (fun _ i _ => N - (intOf i).toNat)
      case atStart => exact ⟨0, Nat.zero_le _, rfl, by simp, Ext.refl _⟩
      case round =>
        obtain ⟨k, hk1, rfl, hd, hx⟩ := hrel
        have HD := hid hd
        have HX := hid hx
        clear hd hx
        by_cases hlt : k < N
        · obtain ⟨hA, hB⟩ : k < A.length ∧ k < B.length := by omega
          have hst := dif_step hA hB
          obtain ⟨b1, o1, rfl, hb1, q1⟩ := its_at H1.out hA
          obtain ⟨b2, o2, rfl, hb2, q2⟩ := its_at H2.out hB
          replace q1 := HX.out.keep1 q1
          replace q2 := HX.out.keep1 q2
          generalize A[k] = xa at *
          generalize B[k] = xb at *
          have i0 : (0 : Int) ≤ (k : Int) := by omega
          have i1 : (k : Int) < (A.length : Int) := by omega
          have i2 : (k : Int) < (B.length : Int) := by omega
          cases hb : beq xa xb with
          | true =>
            rw [hb] at hst
            simp only [if_true] at hst
            have hbb : (xa.toList == xb.toList) = true := hb
            obtain rfl := beq_iff.1 hb
            have HST := hid (HD.out.trans hst)
            clear hst hb
            go_wp2_with fail
            go_quiet (fail)
            go_wp2_with fail
            go_roundw
            case rel => exact ⟨k + 1, by omega, by go_num, HST.out, by first | exact HX.out.drewN _ | exact HX.out.drew | exact HX.out⟩
            case measure => simp [intOf] <;> omega
          | false =>
            rw [hb] at hst
            simp only [Bool.false_eq_true, if_false] at hst
            have hbb : (xa.toList == xb.toList) = false := hb
            have HST := hid (HD.out.trans hst)
            clear hst hb
            go_wp2_with fail
            go_quiet (fail)
            go_wp2_with fail
            go_quiet (fail)
            go_wp2_with fail
            go_ret3
            exact ⟨by rw [HST.out]; rfl, HX2.out.trans (by first | exact (HX.out.drewN _).drewN _ | exact HX.out.drewN _ | exact HX.out.drew.drew | exact HX.out.drew)⟩
        · have HE := hid (HD.out.trans (dif_end (A := A) (B := B) (k := k) (by have := HN.out; omega)))
          go_wp2_with fail
          go_ret3
          exact ⟨by rw [HE.out]; rfl, HX2.out.trans HX.out⟩
end Go.Proofs.YtjohkmkgmbihkaaGreatDoor

namespace Go.Proofs.YtjohkmkgmbihkaaGreatDoor
open Go.ChangeShapes Go.WideShapes Go.ChangeAt Go.RowKit
set_option linter.unusedVariables false
/-- Of two answers without fault: are their digests the same; their first difference. -/
def extD : Bool → Option (ByteArray × ByteArray) → Int × ByteArray × ByteArray
  | false, _ => (9, e0, e0)
  | true, none => (10, e0, e0)
  | true, some (x, y) => (0, x, y)
/-- What Extract answers. -/
def extO (lo hi s1 s2 : ByteArray) : Int × ByteArray × ByteArray :=
  if lookE lo hi s1 ≠ 0 then (lookE lo hi s1, e0, e0) else if lookE lo hi s2 ≠ 0 then (lookE lo hi s2, e0, e0) else match rdA s1, rdA s2 with
  | some t1, some t2 => extD (beq (digT t1) (digT t2)) (difT t1 t2)
  | _, _ => (9, e0, e0)
def extV (o : Int × ByteArray × ByteArray) : Value := .tuple #[.string o.2.1, .string o.2.2, .int .i64 o.1]

set_option maxHeartbeats 8000000 in
set_option maxRecDepth 100000 in
theorem Extract_any (lo hi s1 s2 : ByteArray) (hs1 : s1.size ≤ 9223372036854775807) (hs2 : s2.size ≤ 9223372036854775807) (w : World) (hg : ErrT w) :
    Calls Tryz.prog 23 #[.string lo, .string hi, .string s1, .string s2] w fun e w' => e = .returned (extV (extO lo hi s1 s2)) ∧ Ext w w' := by
  obtain ⟨W1, hW1⟩ : ∃ z, z = w.alloc (.cells #[.string lo, .string hi] 77) := ⟨_, rfl⟩
  have hx1 : Ext w W1 := by rw [hW1]; exact (Ext.refl w).alloc _
  have hq1 : W1.heap[w.heap.size]? = some (.cells #[.string lo, .string hi] 77) := by rw [hW1]; exact heap_alloc_new w _
  have Q := hid (fun (w' : World) (hx : Ext W1 w') => q_cells (hx.row hq1))
  have HR1 := hid (read_any lo hi s1 hs1 W1 (hg.ext hx1))
  have HR2 := hid (fun (w' : World) (hx : Ext W1 w') => read_any lo hi s2 hs2 w' (hg.ext (hx1.trans hx)))
  have HW1 := hid hW1
  have HX1 := hid hx1
  clear hW1 hx1 hq1 hg hs1 hs2
  by_cases h1 : lookE lo hi s1 = 0
  · obtain ⟨t1, hr1⟩ := look_some h1
    obtain ⟨ok1, cn1⟩ := rdA_gives hr1
    have L1 := hid h1
    have R1 := hid hr1
    by_cases h2 : lookE lo hi s2 = 0
    · obtain ⟨t2, hr2⟩ := look_some h2
      obtain ⟨ok2, cn2⟩ := rdA_gives hr2
      have L2 := hid h2
      have R2 := hid hr2
      have hO : extO lo hi s1 s2 = extD (beq (digT t1) (digT t2)) (difT t1 t2) := by
        unfold extO
        rw [if_neg (by simp [h1]), if_neg (by simp [h2]), hr1, hr2]
      rw [hO]
      have D1 := hid (fun (p : Option Addr) (d : ByteArray) (w' : World) (h : AIn w' t1 p d) => TDigest_any t1 cn1 ok1 p d w' h)
      have D2 := hid (fun (p : Option Addr) (d : ByteArray) (w' : World) (h : AIn w' t2 p d) => TDigest_any t2 cn2 ok2 p d w' h)
      have DF := hid (fun (p1 p2 : Option Addr) (d1 d2 : ByteArray) (w' : World) (h1 : AIn w' t1 p1 d1) (h2 : AIn w' t2 p2 d2) => Differ_any t1 t2 cn1 ok1 cn2 ok2 p1 p2 d1 d2 w' h1 h2)
      clear hO h1 h2 hr1 hr2 ok1 ok2 cn1 cn2
      obtain ⟨g1, hg1⟩ : ∃ z, digT t1 = z := ⟨_, rfl⟩
      obtain ⟨g2, hg2⟩ : ∃ z, digT t2 = z := ⟨_, rfl⟩
      obtain ⟨o, hdo⟩ : ∃ z, difT t1 t2 = z := ⟨_, rfl⟩
      rw [hg1, hg2, hdo]
      rw [hg1] at D1
      rw [hg2] at D2
      rw [hdo] at DF
      clear hg1 hg2 hdo
      have hb : ∃ b, beq g1 g2 = b := ⟨_, rfl⟩
      obtain ⟨bq, hbq⟩ := hb
      have hbb : (g1.toList == g2.toList) = bq := hbq
      rw [hbq]
      clear hbq
      go_enter Tryz.func23, Tryz.ntmps23
      go_wp2_with fail
      rw [← HW1.out]
      refine HR1.out.mono ?_
      rintro e w2 ⟨hx2, h⟩
      rcases h with ⟨h, _⟩ | ⟨_, t1', p1, d1, hr', rfl, hai1⟩
      · exact absurd L1.out h
      obtain rfl : t1 = t1' := Option.some.inj (R1.out.symm.trans hr')
      have x3 := (Ext.refl w2).alloc (.cells #[.pointer p1, .string d1] 82)
      have hn3 := heap_alloc_new w2 (.cells #[.pointer p1, .string d1] 82)
      have hy3 := hx2.trans x3
      obtain ⟨q0, q1⟩ := Q.out _ hy3
      have HY3 := hid hy3
      have HN3 := hid hn3
      have A3 := hid (hai1.ext x3)
      clear hr' hai1 x3 hx2 hy3 hn3
      go_wp2_with fail
      refine (HR2.out _ HY3.out).mono ?_
      rintro e w4 ⟨hx4, h⟩
      rcases h with ⟨h, _⟩ | ⟨_, t2', p2, d2, hr', rfl, hai2⟩
      · exact absurd L2.out h
      obtain rfl : t2 = t2' := Option.some.inj (R2.out.symm.trans hr')
      have x5 := (Ext.refl w4).alloc (.cells #[.pointer p2, .string d2] 82)
      have hn5 := heap_alloc_new w4 (.cells #[.pointer p2, .string d2] 82)
      obtain ⟨W5, hW5⟩ : ∃ z, z = w4.alloc (.cells #[.pointer p2, .string d2] 82) := ⟨_, rfl⟩
      rw [← hW5] at x5 hn5
      have hn4 := (hx4.trans x5).row HN3.out
      have Q5 := hid (fun (w' : World) (hx : Ext W5 w') => (⟨cell_of_row _ _ 0 _ _ _ (hx.row hn4), cell_of_row _ _ 1 _ _ _ (hx.row hn4), cell_of_row _ _ 0 _ _ _ (hx.row hn5), cell_of_row _ _ 1 _ _ _ (hx.row hn5)⟩ :
        w'.cell? ⟨w2.heap.size, 0, none⟩ = some (.pointer p1) ∧ w'.cell? ⟨w2.heap.size, 1, none⟩ = some (.string d1) ∧ w'.cell? ⟨w4.heap.size, 0, none⟩ = some (.pointer p2) ∧ w'.cell? ⟨w4.heap.size, 1, none⟩ = some (.string d2)))
      have A5 := hid (A3.out.ext (hx4.trans x5))
      have B5 := hid (hai2.ext x5)
      have HY5 := hid (HX1.out.trans ((HY3.out.trans hx4).trans x5))
      have HW5 := hid hW5
      clear hr' hai2 x5 hx4 hn5 hn4 hW5 q0 q1
      go_wp2_with fail
      rw [← HW5.out]
      obtain ⟨z0, z1, z2, z3⟩ := Q5.out W5 (Ext.refl _)
      have E1 := hid (fun (w' : World) (hx : Ext W5 w') => D1.out p1 d1 w' (A5.out.ext hx))
      have E2 := hid (fun (w' : World) (hx : Ext W5 w') => D2.out p2 d2 w' (B5.out.ext hx))
      go_cut [43] (fun b wx => b = .bool (!bq) ∧ Ext W5 wx)
      case first =>
        go_region_held3 (fun w' => w'.cell? ⟨w2.heap.size, 0, none⟩ = some (.pointer p1) ∧ w'.cell? ⟨w2.heap.size, 1, none⟩ = some (.string d1) ∧ w'.cell? ⟨w4.heap.size, 0, none⟩ = some (.pointer p2) ∧ w'.cell? ⟨w4.heap.size, 1, none⟩ = some (.string d2)) (go_keep)
          (first
            | (go_at_call_of 43 (Value.string d1); refine (E1.out _ ((Ext.refl _).drew)).mono ?_; rintro e w6 ⟨rfl, hx6⟩; have hy6 : Ext W5 w6 := Ext.trans ((Ext.refl _).drew) hx6; obtain ⟨m0, m1, m2, m3⟩ := Q5.out _ hy6)
            | (go_at_call_of 43 (Value.string d2); refine (E2.out _ hy6).mono ?_; rintro e w7 ⟨rfl, hx7⟩; have hy7 := hy6.trans hx7; obtain ⟨m0, m1, m2, m3⟩ := Q5.out _ hy7))
        all_goals (try go_wp2_with fail)
        all_goals go_meet
        all_goals exact ⟨rfl, hy7⟩
      case rest =>
        obtain ⟨W6, rfl⟩ : ∃ z, z = wc := ⟨_, rfl⟩
        obtain ⟨rfl, hx6⟩ := hcut
        clear z0 z1 z2 z3
        obtain ⟨z0, z1, z2, z3⟩ := Q5.out W6 hx6
        have F6 := hid (DF.out p1 p2 d1 d2 W6 (A5.out.ext hx6) (B5.out.ext hx6))
        have HY6 := hid (HY5.out.trans hx6)
        clear hx6
        cases bq with
        | false =>
          go_wp2_with fail
          go_ret3
          exact ⟨rfl, HY6.out⟩
        | true =>
          go_wp2_with fail
          refine F6.out.mono ?_
          rintro e w7 ⟨rfl, hx7⟩
          have HY7 := hid (HY6.out.trans hx7)
          cases o with
          | none =>
            simp only [difV]
            go_wp2_with fail
            go_ret3
            exact ⟨rfl, HY7.out⟩
          | some xy =>
            obtain ⟨xx, yy⟩ := xy
            simp only [difV]
            go_wp2_with fail
            go_ret3
            exact ⟨rfl, HY7.out⟩
    · have hO : extO lo hi s1 s2 = (lookE lo hi s2, e0, e0) := by
        unfold extO
        rw [if_neg (by simp [h1]), if_pos h2]
      rw [hO]
      clear hO h1 hr1 ok1 cn1
      generalize lookE lo hi s2 = le at *
      go_enter Tryz.func23, Tryz.ntmps23
      go_wp2_with fail
      rw [← HW1.out]
      refine HR1.out.mono ?_
      rintro e w2 ⟨hx2, h⟩
      rcases h with ⟨h, _⟩ | ⟨_, t1', p1, d1, hr', rfl, hai1⟩
      · exact absurd L1.out h
      have x3 := (Ext.refl w2).alloc (.cells #[.pointer p1, .string d1] 82)
      have hy3 := hx2.trans x3
      obtain ⟨q0, q1⟩ := Q.out _ hy3
      have HY3 := hid hy3
      clear hr' hai1 x3 hx2 hy3
      go_wp2_with fail
      refine (HR2.out _ HY3.out).mono ?_
      rintro e w4 ⟨hx4, h⟩
      rcases h with ⟨_, rfl⟩ | ⟨h, _⟩
      rotate_left
      · exact absurd h h2
      have HX5 := hid ((HX1.out.trans (HY3.out.trans hx4)).alloc oT)
      clear hx4
      go_wp2_with fail
      go_ret3
      exact ⟨rfl, HX5.out⟩
  · have hO : extO lo hi s1 s2 = (lookE lo hi s1, e0, e0) := by
      unfold extO
      rw [if_pos h1]
    rw [hO]
    clear hO
    generalize lookE lo hi s1 = le at *
    go_enter Tryz.func23, Tryz.ntmps23
    go_wp2_with fail
    rw [← HW1.out]
    refine HR1.out.mono ?_
    rintro e w2 ⟨hx2, h⟩
    rcases h with ⟨_, rfl⟩ | ⟨h, _⟩
    rotate_left
    · exact absurd h h1
    have HX5 := hid ((HX1.out.trans hx2).alloc oT)
    clear hx2
    go_wp2_with fail
    go_ret3
    exact ⟨rfl, HX5.out⟩
end Go.Proofs.YtjohkmkgmbihkaaGreatDoor

namespace Go.Proofs.YtjohkmkgmbihkaaGreatDoor
set_option linter.unusedVariables false
theorem text_inj {x1 x2 : It} {l1 l2 r1 r2 : ByteArray} (h1 : fault x1.key x1.val x1.h = 0) (h2 : fault x2.key x2.val x2.h = 0) (a1 : l1.size = 3) (a2 : l2.size = 3)
    (h : head x1 ++ l1 ++ r1 = head x2 ++ l2 ++ r2) : x1 = x2 ∧ l1 = l2 ∧ r1 = r2 := by
  rw [ByteArray.append_assoc, ByteArray.append_assoc, head_app, head_app] at h
  have e1 := tk_app ⟨#[78]⟩ (byte x1.key.size ++ (x1.key ++ (byte x1.val.size ++ (x1.val ++ (byte x1.h ++ (l1 ++ r1)))))) 1 rfl
  rw [h, tk_app ⟨#[78]⟩ _ 1 rfl] at e1
  have e2 := (Prod.mk.inj (Option.some.inj e1)).2
  have e3 := ent_app x1 (l1 ++ r1) h1
  rw [← e2, ent_app x2 (l2 ++ r2) h2] at e3
  have e4 := Prod.mk.inj (Option.some.inj e3)
  have e5 := tk_app l1 r1 3 a1
  rw [← e4.2, tk_app l2 r2 3 a2] at e5
  have e6 := Prod.mk.inj (Option.some.inj e5)
  exact ⟨e4.1.symm, e6.1.symm, e6.2.symm⟩
theorem dif_same (A R S : List ByteArray) : dif (A ++ R) (A ++ S) = dif R S := by
  induction A with
  | nil => rfl
  | cons a A ih =>
    show (if beq a a then dif (A ++ R) (A ++ S) else some (a, a)) = _
    rw [if_pos (beq_iff.2 rfl)]
    exact ih
theorem dif_head {a b : ByteArray} (A B : List ByteArray) (h : a ≠ b) : dif (a :: A) (b :: B) = some (a, b) := by
  show (if beq a b then dif A B else some (a, b)) = _
  rw [if_neg (by simp [beq_false.2 h])]
theorem node_ne_E (x : It) (l r : ByteArray) : head x ++ l ++ r ≠ tE := by
  intro h
  have := congrArg ByteArray.size h
  rw [ByteArray.size_append, ByteArray.size_append, head_size] at this
  have e : tE.size = 1 := rfl
  omega
/-- The first difference tells two texts that are not the same and have one sum. -/
def Split (A B : List ByteArray) : Prop := ∃ x y, dif A B = some (x, y) ∧ x ≠ y ∧ Sm.sum x = Sm.sum y
theorem two_answers (lo hi : ByteArray) : ∀ (t1 t2 : AT) (a b : ByteArray), okA t1 → okA t2 → okT lo hi t1 a b = true → okT lo hi t2 a b = true → digT t1 = digT t2 → ∀ R S : List ByteArray, t1 = t2 ∨ Split (txtT t1 ++ R) (txtT t2 ++ S)
  | .alone d1, .alone d2, a, b, _, _, _, _, h, R, S => by
    left
    have : d1 = d2 := h
    rw [this]
  | .empty, .empty, a, b, _, _, _, _, h, R, S => .inl rfl
  | .alone d1, .empty, a, b, _, _, h1, h2, _, R, S => by
    simp only [okT] at h1 h2
    rw [h2] at h1
    simp at h1
  | .empty, .alone d2, a, b, _, _, h1, h2, _, R, S => by
    simp only [okT] at h1 h2
    rw [h1] at h2
    simp at h2
  | .alone d1, .node x l r, a, b, _, _, h1, h2, _, R, S => by
    simp only [okT, Bool.and_eq_true] at h1 h2
    rw [h2.1.1.1] at h1
    simp at h1
  | .node x l r, .alone d2, a, b, _, _, h1, h2, _, R, S => by
    simp only [okT, Bool.and_eq_true] at h1 h2
    rw [h1.1.1.1] at h2
    simp at h2
  | .empty, .node x l r, a, b, _, _, _, _, h, R, S => by
    right
    exact ⟨_, _, dif_head _ _ (Ne.symm (node_ne_E x (digT l) (digT r))), Ne.symm (node_ne_E x (digT l) (digT r)), h⟩
  | .node x l r, .empty, a, b, _, _, _, _, h, R, S => by
    right
    exact ⟨_, _, dif_head _ _ (node_ne_E x (digT l) (digT r)), node_ne_E x (digT l) (digT r), h⟩
  | .node x1 l1 r1, .node x2 l2 r2, a, b, o1, o2, h1, h2, h, R, S => by
    by_cases ht : head x1 ++ digT l1 ++ digT r1 = head x2 ++ digT l2 ++ digT r2
    · obtain ⟨rfl, el, er⟩ := text_inj o1.1 o2.1 (digT_size o1.2.1) (digT_size o2.2.1) ht
      simp only [okT, Bool.and_eq_true] at h1 h2
      rcases two_answers lo hi l1 l2 a x1.key o1.2.1 o2.2.1 h1.1.2 h2.1.2 el (txtT r1 ++ R) (txtT r2 ++ S) with rfl | ⟨x, y, e1, e2, e3⟩
      · rcases two_answers lo hi r1 r2 x1.key b o1.2.2 o2.2.2 h1.2 h2.2 er R S with rfl | ⟨x, y, e1, e2, e3⟩
        · exact .inl rfl
        · right
          refine ⟨x, y, ?_, e2, e3⟩
          show dif ((head x1 ++ digT l1 ++ digT r1) :: ((txtT l1 ++ txtT r1) ++ R)) ((head x1 ++ digT l1 ++ digT r2) :: ((txtT l1 ++ txtT r2) ++ S)) = _
          rw [← er]
          have := dif_same ((head x1 ++ digT l1 ++ digT r1) :: txtT l1) (txtT r1 ++ R) (txtT r2 ++ S)
          rw [← e1, ← this]
          simp [List.append_assoc]
      · right
        refine ⟨x, y, ?_, e2, e3⟩
        show dif ((head x1 ++ digT l1 ++ digT r1) :: ((txtT l1 ++ txtT r1) ++ R)) ((head x1 ++ digT l2 ++ digT r2) :: ((txtT l2 ++ txtT r2) ++ S)) = _
        rw [← ht]
        have := dif_same [head x1 ++ digT l1 ++ digT r1] (txtT l1 ++ (txtT r1 ++ R)) (txtT l2 ++ (txtT r2 ++ S))
        rw [← e1, ← this]
        simp [List.append_assoc]
    · right
      exact ⟨_, _, dif_head _ _ ht, ht, h⟩
theorem dif_swap : ∀ (A B : List ByteArray), dif B A = (dif A B).map fun p => (p.2, p.1)
  | [], [] => rfl
  | [], _ :: _ => rfl
  | _ :: _, [] => rfl
  | a :: A, b :: B => by
    show (if beq b a then dif B A else some (b, a)) = (if beq a b then dif A B else some (a, b)).map _
    by_cases h : a = b
    · subst h
      rw [if_pos (beq_iff.2 rfl), if_pos (beq_iff.2 rfl)]
      exact dif_swap A B
    · rw [if_neg (by simp [beq_false.2 (Ne.symm h)]), if_neg (by simp [beq_false.2 h])]
      rfl
theorem dif_self (A : List ByteArray) : dif A A = none := by
  have := dif_same A [] []
  simpa [dif] using this
/-- What Extract says of two answers of one digest. -/
theorem sound_plain (lo hi : ByteArray) (t1 t2 : AT) (o1 : okA t1) (o2 : okA t2) (h1 : okT lo hi t1 e0 e0 = true) (h2 : okT lo hi t2 e0 e0 = true) (hd : digT t1 = digT t2) :
    (difT t1 t2 = none ∧ difT t2 t1 = none ∧ t1 = t2) ∨ ∃ x y, difT t1 t2 = some (x, y) ∧ difT t2 t1 = some (y, x) ∧ x ≠ y ∧ Sm.sum x = Sm.sum y := by
  rcases two_answers lo hi t1 t2 e0 e0 o1 o2 h1 h2 hd [] [] with rfl | ⟨x, y, e1, e2, e3⟩
  · exact .inl ⟨dif_self _, dif_self _, rfl⟩
  · right
    rw [List.append_nil, List.append_nil] at e1
    refine ⟨x, y, e1, ?_, e2, e3⟩
    unfold difT
    rw [dif_swap, e1]
    rfl
end Go.Proofs.YtjohkmkgmbihkaaGreatDoor

namespace Go.Proofs.YtjohkmkgmbihkaaGreatDoor
set_option linter.unusedVariables false
open Go.ChangeShapes Go.WideShapes Go.ChangeAt Go.RowKit
theorem dif_mem : ∀ {A B : List ByteArray} {x y : ByteArray}, dif A B = some (x, y) → x ∈ A ∧ y ∈ B
  | [], _, _, _, h => by cases ‹List ByteArray› <;> cases h
  | _ :: _, [], _, _, h => by cases h
  | a :: A, b :: B, x, y, h => by
    have h' : (if beq a b then dif A B else some (a, b)) = some (x, y) := h
    split at h'
    · have := dif_mem h'
      exact ⟨List.mem_cons_of_mem _ this.1, List.mem_cons_of_mem _ this.2⟩
    · cases h'
      exact ⟨List.mem_cons_self, List.mem_cons_self⟩
theorem txt_size : ∀ {t : AT}, okA t → ∀ x ∈ txtT t, x.size ≤ 50
  | .empty, _, x, hx => by
    simp only [txtT, List.mem_singleton] at hx
    subst hx; decide
  | .alone _, _, x, hx => by simp [txtT] at hx
  | .node z l r, h, x, hx => by
    simp only [txtT, List.mem_cons, List.mem_append] at hx
    rcases hx with rfl | hx | hx
    · obtain ⟨h1, h2, h3⟩ := fault_small h.1
      rw [ByteArray.size_append, ByteArray.size_append, head_size, digT_size h.2.1, digT_size h.2.2]
      omega
    · exact txt_size h.2.1 x hx
    · exact txt_size h.2.2 x hx
theorem look_okT {lo hi s : ByteArray} {t : AT} (h : lookE lo hi s = 0) (hr : rdA s = some t) : okT lo hi t e0 e0 = true := by
  unfold lookE at h
  split at h
  next ha => exact absurd h ha
  · rw [hr] at h
    simp only at h
    split at h
    · assumption
    · cases h
/-- The three ways in which forged bytes can go. -/
theorem sound_cases {L : List It} (hg : Good L) (lo hi F : ByteArray) (ha : askE lo hi = 0) :
    (∃ fv x1 y1 x2 y2, fv ≠ 0 ∧ chkE (dig L) lo hi F = fv ∧ chkL (dig L) lo hi F = [] ∧ extO lo hi (proveV L lo hi) F = (fv, x1, y1) ∧ extO lo hi F (proveV L lo hi) = (fv, x2, y2)) ∨
    (chkE (dig L) lo hi F = 0 ∧ chkL (dig L) lo hi F = withinP (prs L) lo hi ∧ extO lo hi (proveV L lo hi) F = (10, e0, e0) ∧ extO lo hi F (proveV L lo hi) = (10, e0, e0)) ∨
    (∃ P x y, P.length ≤ 50 ∧ chkE (dig L) lo hi F = 0 ∧ chkL (dig L) lo hi F = P ∧ extO lo hi (proveV L lo hi) F = (0, x, y) ∧ extO lo hi F (proveV L lo hi) = (0, y, x) ∧ x ≠ y ∧ Sm.sum x = Sm.sum y ∧ x.size ≤ 50 ∧ y.size ≤ 50) := by
  have hp : proveV L lo hi = ans lo hi L e0 e0 := by unfold proveV; rw [if_pos ha]
  have hr := rdA_ans lo hi L (good_fault hg) hg.2.1
  have hok := okT_ofL lo hi hg.1
  have hl : lookE lo hi (ans lo hi L e0 e0) = 0 := by
    unfold lookE
    rw [if_neg (by simp [ha]), hr]
    simp [hok]
  rw [hp]
  obtain ⟨o1, c1⟩ := rdA_gives hr
  by_cases hF : lookE lo hi F = 0
  · obtain ⟨t2, hr2⟩ := look_some hF
    obtain ⟨o2, c2⟩ := rdA_gives hr2
    have hok2 := look_okT hF hr2
    have x1 : extO lo hi (ans lo hi L e0 e0) F = extD (beq (dig L) (digT t2)) (difT (ofL lo hi L) t2) := by
      unfold extO; rw [if_neg (by simp [hl]), if_neg (by simp [hF]), hr, hr2]; simp only [digT_ofL]
    have x2 : extO lo hi F (ans lo hi L e0 e0) = extD (beq (digT t2) (dig L)) (difT t2 (ofL lo hi L)) := by
      unfold extO; rw [if_neg (by simp [hF]), if_neg (by simp [hl]), hr, hr2]; simp only [digT_ofL]
    by_cases hd : dig L = digT t2
    · have b1 : beq (dig L) (digT t2) = true := beq_iff.2 hd
      have b2 : beq (digT t2) (dig L) = true := beq_iff.2 hd.symm
      have hc : chkE (dig L) lo hi F = 0 := by unfold chkE; rw [if_neg (by simp [hF]), hr2]; simp [b2]
      have hcl : chkL (dig L) lo hi F = prsT lo hi t2 := by unfold chkL; rw [if_neg (by simp [hc]), hr2]
      rw [x1, x2, hc, hcl, b1, b2]
      rcases sound_plain lo hi (ofL lo hi L) t2 o1 o2 hok hok2 (by rw [digT_ofL]; exact hd) with ⟨d1, d2, e⟩ | ⟨x, y, d1, d2, e1, e2⟩
      · right; left
        rw [d1, d2, ← e, prsT_ofL lo hi hg.1, askL_within]
        exact ⟨rfl, rfl, rfl, rfl⟩
      · right; right
        rw [d1, d2]
        have hm := dif_mem d1
        have hpl := prsT_len lo hi t2
        exact ⟨_, x, y, by omega, rfl, rfl, rfl, rfl, e1, e2, txt_size o1 x hm.1, txt_size o2 y hm.2⟩
    · left
      have b1 : beq (dig L) (digT t2) = false := beq_false.2 hd
      have b2 : beq (digT t2) (dig L) = false := beq_false.2 (Ne.symm hd)
      have hc : chkE (dig L) lo hi F = 9 := by unfold chkE; rw [if_neg (by simp [hF]), hr2]; simp [b2]
      have hcl : chkL (dig L) lo hi F = [] := by unfold chkL; rw [if_pos (by simp [hc])]
      rw [x1, x2, hc, hcl, b1, b2]
      exact ⟨9, e0, e0, e0, e0, by decide, rfl, rfl, rfl, rfl⟩
  · left
    have hc : chkE (dig L) lo hi F = lookE lo hi F := by unfold chkE; rw [if_pos hF]
    have hcl : chkL (dig L) lo hi F = [] := by unfold chkL; rw [if_pos (by rw [hc]; exact hF)]
    refine ⟨lookE lo hi F, e0, e0, e0, e0, hF, hc, hcl, ?_, ?_⟩
    · unfold extO; rw [if_neg (by simp [hl]), if_pos hF]
    · unfold extO; rw [if_pos hF]
end Go.Proofs.YtjohkmkgmbihkaaGreatDoor

namespace Go.Proofs.YtjohkmkgmbihkaaGreatDoor
set_option linter.unusedVariables false
open Go.ChangeShapes Go.WideShapes Go.ChangeAt Go.RowKit
/-- Two values of one sum, whatever stands before and behind. -/
def fv1 : ByteArray := ⟨#[48, 5]⟩
def fv2 : ByteArray := ⟨#[63, 153]⟩
theorem fold_swap (n : Int) : (Sm.step (Sm.step n 48) 5) = Sm.step (Sm.step n 63) 153 := by
  have e1 : (48 : UInt8).toNat = 48 := rfl
  have e2 : (5 : UInt8).toNat = 5 := rfl
  have e3 : (63 : UInt8).toNat = 63 := rfl
  have e4 : (153 : UInt8).toNat = 153 := rfl
  unfold Sm.step
  rw [e1, e2, e3, e4]
  omega
theorem sum_swap (a b : ByteArray) : Sm.sum (a ++ fv1 ++ b) = Sm.sum (a ++ fv2 ++ b) := by
  unfold Sm.sum Sm.num
  congr 1
  simp only [ByteArray.data_append, Array.toList_append, List.foldl_append]
  congr 1
  exact fold_swap _
/-- The other value under a key. -/
def swp (k : ByteArray) (x : It) : It := if x.key = k ∧ x.val = fv1 then ⟨x.key, fv2, x.h⟩ else x
theorem swp_h (k : ByteArray) (x : It) : (swp k x).h = x.h := by unfold swp; split <;> rfl
theorem swp_sum (k : ByteArray) (x : It) (l r : ByteArray) : Sm.sum (head (swp k x) ++ l ++ r) = Sm.sum (head x ++ l ++ r) := by
  unfold swp
  split
  next h =>
    obtain ⟨_, hv⟩ := h
    have e1 : head ⟨x.key, fv2, x.h⟩ ++ l ++ r = (⟨#[78]⟩ ++ byte x.key.size ++ x.key ++ byte 2) ++ fv2 ++ (byte x.h ++ l ++ r) := by
      simp only [head, ByteArray.append_assoc]; rfl
    have e2 : head x ++ l ++ r = (⟨#[78]⟩ ++ byte x.key.size ++ x.key ++ byte 2) ++ fv1 ++ (byte x.h ++ l ++ r) := by
      simp only [head, hv, ByteArray.append_assoc]; rfl
    rw [e1, e2, sum_swap]
  · rfl
theorem topTo_swp (k : ByteArray) (L : List It) : ∀ n, topTo (L.map (swp k)) n = topTo L n
  | 0 => rfl
  | n + 1 => by
    have ih := topTo_swp k L n
    have e : ∀ i : Nat, ((L.map (swp k))[i]?.map It.h).getD 0 = (L[i]?.map It.h).getD 0 := by
      intro i
      rw [List.getElem?_map]
      cases L[i]? with
      | none => rfl
      | some x => simp [swp_h]
    rw [topTo, topTo, ih, e, e]
theorem top_swp (k : ByteArray) (L : List It) : top (L.map (swp k)) = top L := by
  unfold top; rw [List.length_map, topTo_swp]
theorem digF_swp (k : ByteArray) : ∀ (n : Nat) (L : List It), digF n (L.map (swp k)) = digF n L
  | 0, L => rfl
  | n + 1, L => by
    rw [digF, digF, top_swp, List.getElem?_map]
    cases L[top L]? with
    | none => rfl
    | some x =>
      simp only [Option.map_some]
      rw [← List.map_take, ← List.map_drop, digF_swp k n, digF_swp k n, swp_sum]
theorem dig_swp (k : ByteArray) (L : List It) : dig (L.map (swp k)) = dig L := by
  unfold dig; rw [List.length_map, digF_swp]
theorem swp_put {L : List It} (k : ByteArray) (h : Nat) (hne : ∀ y ∈ L, y.key ≠ k) : (put L ⟨k, fv1, h⟩).map (swp k) = put L ⟨k, fv2, h⟩ := by
  have e : ∀ M : List It, (∀ y ∈ M, y ∈ L) → M.map (swp k) = M := by
    intro M hM
    rw [show M.map (swp k) = M.map id from List.map_congr_left (fun y hy => by unfold swp; rw [if_neg (fun q => hne y (hM y hy) q.1)]; rfl), List.map_id]
  unfold put
  rw [List.map_append, List.map_cons, e _ (fun y hy => List.mem_of_mem_take hy), e _ (fun y hy => List.mem_of_mem_drop hy)]
  congr 2
  unfold swp
  rw [if_pos ⟨rfl, rfl⟩]
theorem inR_eq (k y : ByteArray) : inR k k y = beq y k := by
  unfold inR
  show (!(lt y k) && (lt y k || beq y k)) = beq y k
  cases h : lt y k with
  | false => simp
  | true =>
    have : beq y k = false := beq_false.2 (fun e => by subst e; rw [lt_irrefl] at h; cases h)
    rw [this]; rfl
theorem within_put {L : List It} (x : It) (hne : ∀ y ∈ L, y.key ≠ x.key) : withinP (prs (put L x)) x.key x.key = [x.pr] := by
  have e : ∀ M : List Pr, (∀ p ∈ M, p ∈ prs L) → withinP M x.key x.key = [] := by
    intro M hM
    unfold withinP
    rw [List.filter_eq_nil_iff]
    intro p hp
    obtain ⟨y, hy, rfl⟩ := List.mem_map.1 (hM p hp)
    rw [inR_eq]
    simp [beq_false.2 (show (It.pr y).1 ≠ x.key from hne y hy)]
  rw [prs_put]
  unfold withinP
  rw [List.filter_append, List.filter_append]
  have h1 := e _ (fun p hp => List.mem_of_mem_take (i := plc L x.key) hp)
  have h2 := e _ (fun p hp => List.mem_of_mem_drop (i := if has L x.key then plc L x.key + 1 else plc L x.key) hp)
  unfold withinP at h1 h2
  rw [h1, h2]
  have h3 : inR x.key x.key x.pr.1 = true := by rw [inR_eq]; exact beq_iff.2 rfl
  simp [h3]
/-- The key. -/
def zk (s : ByteArray) : ByteArray := ⟨#[122]⟩ ++ cutB s 6
theorem zk_size (s : ByteArray) : 1 ≤ (zk s).size ∧ (zk s).size ≤ 7 := by
  have := cutB_size s 6
  unfold zk
  rw [ByteArray.size_append]
  have : (⟨#[122]⟩ : ByteArray).size = 1 := rfl
  omega
theorem zk_key (s : ByteArray) : keyB (zk s) = true := by
  have := zk_size s
  exact decide_eq_true ⟨this.1, by omega⟩
theorem zk_ne (s : ByteArray) {L : List It} (hk : K30 L) : ∀ y ∈ L, y.key ≠ zk s := by
  intro y hy e
  obtain ⟨v, hv, ev⟩ := hk y hy
  rw [ev] at e
  have h0 : (zk s).data[0]? = some 122 := by
    unfold zk
    rw [ByteArray.data_append]
    show (#[122] ++ (cutB s 6).data)[0]? = some 122
    rw [Array.getElem?_append_left (by decide)]
    rfl
  rw [← e] at h0
  have h1 : (keyN v).data[0]? = some (UInt8.ofNat (97 + v % 5)) := by
    unfold keyN
    split
    · rfl
    · rw [ByteArray.data_append]
      show (#[UInt8.ofNat (97 + v % 5)] ++ (byte (97 + v / 5)).data)[0]? = _
      rw [Array.getElem?_append_left (by exact Nat.zero_lt_one)]
      rfl
  rw [h1] at h0
  have h2 := congrArg UInt8.toNat (Option.some.inj h0)
  rw [UInt8.toNat_ofNat'] at h2
  have : (122 : UInt8).toNat = 122 := rfl
  omega
theorem ask_one {k : ByteArray} (h : keyB k = true) : askE k k = 0 := by
  unfold askE
  rw [h]
  simp
/-- What is asked of the two books. -/
theorem forged_plain {L : List It} (hg : Good L) (hk : K30 L) (s : ByteArray) (h : Int) (h0 : 0 ≤ h) (h1 : h < 16) :
    ∃ x y, putE L (zk s) fv1 h = 0 ∧ putE L (zk s) fv2 h = 0 ∧ dig (putL L (zk s) fv1 h) = dig (putL L (zk s) fv2 h) ∧
      proveV (putL L (zk s) fv1 h) (zk s) (zk s) ≠ proveV (putL L (zk s) fv2 h) (zk s) (zk s) ∧
      chkE (dig (putL L (zk s) fv2 h)) (zk s) (zk s) (proveV (putL L (zk s) fv2 h) (zk s) (zk s)) = 0 ∧
      chkL (dig (putL L (zk s) fv2 h)) (zk s) (zk s) (proveV (putL L (zk s) fv2 h) (zk s) (zk s)) = [(zk s, fv2)] ∧
      extO (zk s) (zk s) (proveV (putL L (zk s) fv1 h) (zk s) (zk s)) (proveV (putL L (zk s) fv2 h) (zk s) (zk s)) = (0, x, y) ∧
      x ≠ y ∧ Sm.sum x = Sm.sum y ∧ x.size ≤ 50 ∧ y.size ≤ 50 := by
  have hl := hk.len hg.1
  have hkey := zk_key s
  have hne := zk_ne s hk
  have hask := ask_one hkey
  generalize zk s = k at *
  have hh : hgtB h = true := decide_eq_true ⟨h0, by omega⟩
  have f1 : fault k fv1 h = 0 := by unfold fault; rw [hkey, hh]; rfl
  have f2 : fault k fv2 h = 0 := by unfold fault; rw [hkey, hh]; rfl
  have p1 : putE L k fv1 h = 0 := by unfold putE; rw [if_pos f1]; simp; omega
  have p2 : putE L k fv2 h = 0 := by unfold putE; rw [if_pos f2]; simp; omega
  have q1 : putL L k fv1 h = put L ⟨k, fv1, h.toNat⟩ := by unfold putL; rw [if_pos p1]
  have q2 : putL L k fv2 h = put L ⟨k, fv2, h.toNat⟩ := by unfold putL; rw [if_pos p2]
  have g1 := hg.putL k fv1 h
  have g2 := hg.putL k fv2 h
  have hd : dig (putL L k fv1 h) = dig (putL L k fv2 h) := by
    rw [q1, q2, ← swp_put k h.toNat hne, dig_swp]
  have w1 : withinP (prs (putL L k fv1 h)) k k = [(k, fv1)] := by rw [q1]; exact within_put ⟨k, fv1, h.toNat⟩ hne
  have w2 : withinP (prs (putL L k fv2 h)) k k = [(k, fv2)] := by rw [q2]; exact within_put ⟨k, fv2, h.toNat⟩ hne
  have c1 := chk_own g1 (dig (putL L k fv2 h)) k k hask
  have c2 := chk_own g2 (dig (putL L k fv2 h)) k k hask
  rw [hd, show beq (dig (putL L k fv2 h)) (dig (putL L k fv2 h)) = true from beq_iff.2 rfl] at c1
  rw [show beq (dig (putL L k fv2 h)) (dig (putL L k fv2 h)) = true from beq_iff.2 rfl] at c2
  simp only [if_true] at c1 c2
  rw [w1] at c1
  rw [w2] at c2
  have hv : ([(k, fv1)] : List Pr) ≠ [(k, fv2)] := by
    intro e
    have e1 : fv1 = fv2 := by
      have := List.cons.inj e
      exact (Prod.mk.inj this.1).2
    have := congrArg (fun z : ByteArray => z.data.toList) e1
    revert this
    decide
  have hs := sound_cases g1 k k (proveV (putL L k fv2 h) k k) hask
  rw [hd] at hs
  rcases hs with ⟨fv, x1, y1, x2, y2, hn, a1, _⟩ | ⟨a1, a2, _⟩ | ⟨P, x, y, hP, a1, a2, a3, a4, a5, a6, a7, a8⟩
  · exact absurd (a1.symm.trans c2.1) hn
  · rw [w1] at a2
    exact absurd (a2.symm.trans c2.2) hv
  · refine ⟨x, y, p1, p2, hd, ?_, c2.1, c2.2, a3, a5, a6, a7, a8⟩
    intro e
    rw [e] at c1
    exact hv (c1.2.symm.trans c2.2)
end Go.Proofs.YtjohkmkgmbihkaaGreatDoor

namespace Go.Proofs.YtjohkmkgmbihkaaGreatDoor
set_option linter.unusedVariables false
open Go.ChangeShapes Go.WideShapes Go.ChangeAt Go.RowKit
theorem book_other {w w' : World} {a b : Nat} {L M : List It} (h : OnBook w b L) (ha : OnBook w a M) (hne : b ≠ a) (hg : w.grownBy w' (some a)) : OnBook w' b L := by
  obtain ⟨v, h1, h2, h3⟩ := h
  obtain ⟨u, k1, k2, k3⟩ := ha
  refine ⟨v, ?_, World.ownsRow.kept h2 hg ?_, h3⟩
  · rw [hg.block b (row_lt h1) (by simpa using hne)]; exact h1
  · cases hq : v.ownBlock with
    | none => exact .inl rfl
    | some g =>
      right
      intro e
      rw [← hq] at e
      exact Go.Proofs.YtjohkmkgmbihkaaGreatDoor.row_ne k1 h2 (by decide) e
theorem one_pair {w : World} {v : Value} {p : Pq} (h : ItP w v [p]) : ∃ b o c, v = .slice (some ⟨b, o, none⟩) 1 c ∧ w.cell? ⟨b, o, none⟩ = some (.string p.1) ∧ w.cell? ⟨b, o + 1, none⟩ = some (.string p.2) := by
  rcases h.2 with ⟨_, h2⟩ | ⟨b, o, cap, hv, h3, h4, h5, h6⟩
  · simp at h2
  · exact ⟨b, o, cap, hv, h6 0 _ (by simp [qc]), h6 1 _ (by simp [qc])⟩

set_option maxHeartbeats 8000000 in
set_option maxRecDepth 100000 in
theorem Forged_any (ss : List St) (v : Value) (K : ByteArray) (c : Int) (hc0 : -9223372036854775808 ≤ c) (hc1 : c ≤ 9223372036854775807) (w : World) (hv : Sts w v ss) (hlen : ss.length ≤ maxLen) (hK : K.size ≤ maxLen) (hge : ErrT w) :
    Calls Tryz.prog 8 #[v, .string K, .int .i64 c] w fun e w' => e = .returned (.bool true) ∧ Ext w w' := by
  obtain ⟨hgood, hk30⟩ := fill_good ss (min ss.length 60 + 1)
  rw [show fillTo ss (min ss.length 60 + 1) = fillL ss from rfl] at hgood hk30
  have HF := hid (fun w hv => filled_any ss v w hv hlen)
  generalize fillL ss = L at *
  have hpn := pickN_bd c 16 (by omega)
  have hask := ask_one (zk_key K)
  obtain ⟨x, y, p1, p2, hd, hne, c1, c2, hex, hxy, hsum, hsx, hsy⟩ := forged_plain hgood hk30 K (pickN c 16) hpn.1 hpn.2
  have g1 := hgood.putL (zk K) fv1 (pickN c 16)
  have g2 := hgood.putL (zk K) fv2 (pickN c 16)
  have s1 := prove_size g1 (zk K) (zk K)
  have s2 := prove_size g2 (zk K) (zk K)
  have HCT := hid (fun w => cut_any K 6 (by omega) hK w)
  have HZ := hid (show (⟨#[122]⟩ : ByteArray) ++ cutB K 6 = zk K from rfl)
  have hcs := cutB_size K 6
  have hzs := zk_size K
  have HPK := hid (fun w => pick_any c 16 hc0 hc1 (by omega) (by omega) w)
  generalize cutB K 6 = CK at *
  generalize zk K = k at *
  generalize pickN c 16 = h at *
  have P1 := hid (fun w b hB => put_bk b L k fv1 h w hB)
  have P2 := hid (fun w b hB => put_bk b L k fv2 h w hB)
  rw [p1] at P1
  rw [p2] at P2
  generalize putL L k fv1 h = L1 at *
  generalize putL L k fv2 h = L2 at *
  have D1 := hid (fun w b hB => digest_on b L1 w w (Ext.refl _) hB)
  have D2 := hid (fun w b hB => digest_on b L2 w w (Ext.refl _) hB)
  rw [hd] at D1
  have R1 := hid (fun w b hB => prove_on b L1 k k w w (Ext.refl _) hB)
  have R2 := hid (fun w b hB => prove_on b L2 k k w w (Ext.refl _) hB)
  rw [hask] at R1 R2
  generalize proveV L1 k k = S1 at *
  generalize proveV L2 k k = S2 at *
  have CKK := hid (fun w hg => Check_any (dig L2) k k S2 (by omega) w hg)
  rw [c1, c2] at CKK
  have XX := hid (fun w hg => Extract_any k k S1 S2 (by omega) (by omega) w hg)
  rw [hex] at XX
  have U1 := hid (fun w => Sum_any x w (by unfold maxLen; omega))
  have U2 := hid (fun w => Sum_any y w (by unfold maxLen; omega))
  rw [hsum] at U1
  generalize dig L2 = dl at *
  have HV := hid hv
  have HG := hid hge
  have hss : (S1.toList == S2.toList) = false := beq_false.2 hne
  have hxx : (x.toList == y.toList) = false := beq_false.2 hxy
  have hkk : (k.toList == k.toList) = true := by simp
  have hvv : fv2.toList = [63, 153] := by rw [ByteArray.toList_eq]; rfl
  clear hgood hk30 hask hd c1 c2 hex hsum hv hge g1 g2 p1 p2 hne hxy
  go_enter Tryz.func8, Tryz.ntmps8
  go_wp2_with fail
  refine (HCT.out _).mono ?_
  rintro e w0 ⟨rfl, rfl⟩
  go_wp2_with fail
  rw [HZ.out]
  refine (HF.out _ HV.out).mono ?_
  rintro e w1 ⟨lv, rfl, hx1, hB, hO⟩
  obtain ⟨la, lc, elv, _⟩ := (Prs.own hO).shape
  subst elv
  have HB := hid hB
  have HX1 := hid hx1
  have hlt1 := hB.lt (Ext.refl _)
  clear hB hO hx1
  go_wp2_with fail
  refine (HF.out _ (HV.out.ext HX1.out)).mono ?_
  rintro e w2 ⟨lv2, rfl, hx2, hB2, hO2⟩
  obtain ⟨la2, lc2, elv2, _⟩ := (Prs.own hO2).shape
  subst elv2
  have HA2 := hid (HB.out.ext hx2)
  have HB2 := hid hB2
  have HX2 := hid (HX1.out.trans hx2)
  have hs01 := HX1.out.size
  obtain ⟨b1, hb1⟩ : ∃ z, z = w0.heap.size := ⟨_, rfl⟩
  obtain ⟨b2, hb2⟩ : ∃ z, z = w1.heap.size := ⟨_, rfl⟩
  rw [← hb1] at HA2 ⊢
  rw [← hb2] at HB2 ⊢
  have hne : b1 ≠ b2 := by omega
  have hge1 : w0.heap.size ≤ b1 := by omega
  have hge2 : w0.heap.size ≤ b2 := by omega
  clear hB2 hO2 hx2 hb1 hb2 hlt1 hs01 HB
  go_wp2_with fail
  refine (HPK.out _).mono ?_
  rintro e w3 ⟨rfl, rfl⟩
  go_wp2_with fail
  refine (P1.out _ _ HA2.out).mono ?_
  rintro e w4 ⟨rfl, hA4, hg4⟩
  have HB4 := hid (book_other HB2.out HA2.out (Ne.symm hne) hg4)
  have HA4 := hid hA4
  have HX4 := hid (HX2.out.book hge1 hg4)
  clear hA4 hg4
  go_wp2_with fail
  refine (HPK.out _).mono ?_
  rintro e w5 ⟨rfl, rfl⟩
  go_wp2_with fail
  refine (P2.out _ _ HB4.out).mono ?_
  rintro e w6 ⟨rfl, hB6, hg6⟩
  have HA6 := hid (book_other HA4.out HB4.out hne hg6)
  have HB6 := hid hB6
  have HX6 := hid (HX4.out.book hge2 hg6)
  clear hB6 hg6
  go_wp2_with fail
  refine (D1.out _ _ HA6.out).mono ?_
  rintro e w7 ⟨rfl, hA7, hx7⟩
  have HA7 := hid hA7
  have HB7 := hid (HB6.out.ext hx7)
  have HX7 := hid (HX6.out.trans hx7)
  clear hA7 hx7
  go_wp2_with fail
  refine (D2.out _ _ HB7.out).mono ?_
  rintro e w8 ⟨rfl, hB8, hx8⟩
  have HB8 := hid hB8
  have HA8 := hid (HA7.out.ext hx8)
  have HX8 := hid (HX7.out.trans hx8)
  clear hB8 hx8
  go_wp2_with fail
  refine (R1.out _ _ HA8.out).mono ?_
  rintro e w9 ⟨rfl, hA9, hx9⟩
  have HB9 := hid (HB8.out.ext hx9)
  have HX9 := hid (HX8.out.trans hx9)
  clear hA9 hx9
  go_wp2_with fail
  refine (R2.out _ _ HB9.out).mono ?_
  rintro e w10 ⟨rfl, hB10, hx10⟩
  have HX10 := hid (HX9.out.trans hx10)
  clear hB10 hx10
  go_wp2_with fail
  refine (CKK.out _ (HG.out.ext HX10.out)).mono ?_
  rintro e w11 ⟨gv, rfl, hx11, hgv⟩
  obtain ⟨pb, po, pc, rfl, d1, d2⟩ := one_pair hgv.it
  have HX11 := hid (HX10.out.trans hx11)
  have hpb : pb < w11.heap.size := World.block_lt_of_cell? _ _ d1
  clear hx11 hgv
  go_wp2_with fail
  refine (XX.out _ (HG.out.ext HX11.out)).mono ?_
  rintro e w12 ⟨rfl, hx12⟩
  have d3 := hx12.cell (p := ⟨pb, po, none⟩) hpb
  have d4 := hx12.cell (p := ⟨pb, po + 1, none⟩) hpb
  rw [d1] at d3
  rw [d2] at d4
  have HX12 := hid (HX11.out.trans hx12)
  clear hx12 d1 d2
  simp only [extV]
  go_wp2_with fail
  refine (U1.out _).mono ?_
  rintro e w13 ⟨rfl, hx13⟩
  have HX13 := hid (HX12.out.trans hx13)
  clear hx13
  go_wp2_with fail
  refine (U2.out _).mono ?_
  rintro e w14 ⟨rfl, hx14⟩
  have HX14 := hid (HX13.out.trans hx14)
  clear hx14
  generalize Sm.sum y = sy at *
  go_wp2_with fail
  all_goals (go_ret; exact ⟨by first | rfl | simp, HX14.out⟩)
end Go.Proofs.YtjohkmkgmbihkaaGreatDoor

namespace Go.Proofs.YtjohkmkgmbihkaaGreatDoor
set_option linter.unusedVariables false
open Go.ChangeShapes Go.WideShapes Go.ChangeAt Go.RowKit
namespace forged
open Go.ChangeMaps (open_string shut_string)
theorem laidOut : laidOutB Tryz.prog = true := by kernel_rfl

set_option maxRecDepth 100000 in
theorem contract (H : Type) (enc : TypeId × Value → H) (W : World) (base : Nat) (args : Array Value) (ds gs : List (DataW H)) (before : List MemPlace)
    (hval0 : ∀ (j : Nat) t v, Tryz.f8.params[j]? = some t → args[j]? = some v → Value.okWide Tryz.prog W .any base t v)
    (hW : DataW.Whole enc Tryz.prog Tryz.f8.params.toList Rows.forgedSpec.vars false W args.toList ds gs before) (hL : laidMetH Tryz.prog Rows.forgedRow.laid W) :
    Calls Tryz.prog 8 args W fun e W' => ∃ v, e = .returned v ∧ Rows.forgedSpec.post enc Tryz.prog Tryz.f8 false true false false W args v W' := by
  have hval : ∀ (j : Nat) t v, Tryz.f8.params[j]? = some t → args[j]? = some v → Value.okWide Tryz.prog W .any base t v := hval0
  have hW' := hW
  obtain ⟨p, q, hA0, hV, rfl, hfz, hnd⟩ := hW
  have hA : DataW.TrodAll enc Tryz.prog W 0 (fun _ => true) true Tryz.f8.params.toList args.toList ds p := hA0
  rw [Tryz.params8] at hA hval
  obtain ⟨v0, vs0, d0, ds0, p0, q0, hargs, rfl, rfl, h0, r0⟩ := trodAll_cons hA
  obtain ⟨v1, vs1, d1, ds1, p1, q1, rfl, rfl, rfl, h1, r1⟩ := trodAll_cons r0
  obtain ⟨v2, vs2, d2, ds2, p2, q2, rfl, rfl, rfl, h2, r2⟩ := trodAll_cons r1
  obtain ⟨rfl, rfl, rfl⟩ := trodAll_nil r2
  obtain rfl : args = #[v0, v1, v2] := by cases args; simp_all
  obtain ⟨rfl, rfl⟩ := trodVars_none hV
  obtain ⟨a0, len0, cap0, rfl⟩ := okWide_slice Tryz.underlying35 (hval 0 35 v0 rfl rfl)
  have k0 := h0
  have lt0 : ∀ x ∈ p0, x.block < W.heap.size := by obtain ⟨m, hm⟩ := k0; exact DataW.trod_lt m _ _ _ hm
  obtain ⟨ss, hl, hs⟩ : ∃ ss : List St, ss.length = len0 ∧ Sts W (.slice a0 len0 cap0) ss := by
    obtain ⟨fuel, hf⟩ := h0
    exact steps_of hf
  obtain ⟨a1, rfl, rfl, rfl, w1⟩ := open_string Tryz.underlying9 (hval 1 9 v1 rfl rfl) h1
  obtain ⟨a2, rfl, rfl, rfl, w2⟩ := open_int Tryz.underlying3 (hval 2 3 v2 rfl rfl) h2
  have hb := bounds_i64 w2
  clear hA0 hval0
  have hm : ss.length ≤ maxLen := by obtain ⟨_, _, _, q1, q2⟩ := hs.shape; omega
  have hE : ErrT W := errT_of_laid hL
  have walk : Calls Tryz.prog 8 #[.slice a0 len0 cap0, .string a1, .int .i64 a2] W fun e w' => e = .returned (.bool true) ∧ Ext W w' :=
    Forged_any ss _ a1 a2 hb.1 hb.2 W hs hm w1 hE
  refine walk.mono fun e W' ⟨he, bel⟩ => ?_
  subst he
  exact ⟨_, rfl, _, _, _, [], _, [], hW', trodAll_mk1 (shut_bool Tryz.underlying4 _), (trodAll_cons_mk (Below.trod laidOut (by kernel_rfl) (of_decide_eq_true (by kernel_rfl)) k0 bel lt0) (trodAll_cons_mk (shut_string Tryz.underlying9 w1) (trodAll_cons_mk (shut_int Tryz.underlying3 w2) trodAll_mk0))), rfl, bel.frame _, fun h => by cases h⟩

theorem laid_met (os : Os) : laidMetH Tryz.prog Rows.forgedRow.laid ((laidWorld os).forCall (fun _ _ => 0) ⟨#[], #[.slice none 0 0, .string ByteArray.empty, .int .i64 0], []⟩).memory :=
  laidMetH_of_parts (laidMet_nil _ _) (by kernel_rfl)
theorem reads (os : Os) {H : Type} (enc : TypeId × Value → H) : ∃ places, DataW.whole enc Tryz.prog ((laidWorld os).forCall (fun _ _ => 0) ⟨#[], #[.slice none 0 0, .string ByteArray.empty, .int .i64 0], []⟩).memory Tryz.f8.params.toList Rows.forgedSpec.vars false #[Value.slice none 0 0, .string ByteArray.empty, .int .i64 0].toList 8 = some ([.nil, .lit (.string []), .lit (.int .i64 0)], [], places) :=
  ⟨[], by kernel_rfl⟩

set_option maxRecDepth 100000 in
theorem lifted (os : Os) (started : os.Started) (H : Type) (enc : TypeId × Value → H) (F : Stop.Interp) :
    ReturnsInHanded {} Tryz.checked os 8 .any ((OpenSpec.ofChange Rows.forgedSpec).preRow enc Tryz.prog Tryz.f8 Rows.forgedRow.domain false Rows.forgedRow.laid) (((OpenSpec.ofChange Rows.forgedSpec).at F).post enc Tryz.prog Tryz.f8 false true false false) := by
  obtain ⟨places, hx⟩ := reads os enc
  refine returnsInHanded_of_row (C := Tryz.checked) (s := OpenSpec.ofChange Rows.forgedSpec) Tryz.own started (by kernel_rfl) Tryz.func8
    (witness_row_at (enc := enc) (C := Tryz.checked) false (laidWorld os) #[.slice none 0 0, .string ByteArray.empty, .int .i64 0] rfl (by kernel_rfl) (by kernel_rfl) (by kernel_rfl)
      (OpenSpec.preRow_of_cond 8 hx (by kernel_rfl) (fun k hk => by cases hk) (by kernel_rfl) (laid_met os))) ?_
  intro W base args ds gs before hval hW _ _ _ hL _ _
  exact contract H enc W base args ds gs before hval hW hL

theorem said : Rows.ForgedSaid :=
  OpenClaim.holds_of_cond 8 Tryz.f8 rfl rfl rfl rfl rfl rfl rfl ⟨rfl, rfl, rfl, rfl, rfl⟩ rfl rfl rfl rfl rfl (by kernel_rfl) Tryz.func8 (by kernel_rfl)
    (of_decide_eq_true (by kernel_rfl)) (by unfold Func.isWrapper; first | (rw [if_pos (by decide +kernel)]; kernel_rfl) | (rw [if_neg (by decide +kernel)]; exact ⟨rfl, rfl⟩))
    (fun os started H enc _ F => by rw [OpenClaim.pre_eq_preRow]; exact lifted os started H enc F)

/-- No parameter wants a stand-in. -/
theorem plain (f : FuncId) (fn : Func) (hf : Tryz.pinned.checked.prog.funcNamed "attest/attestkeep.Forged" = some f) (hfn : Tryz.pinned.checked.prog.funcs[f]? = some fn) :
    true = Tryz.pinned.checked.prog.looks [] ∧ ∀ (j : Nat) t, fn.params[j]? = some t → Tryz.pinned.checked.prog.wantsStandIn t = false := by
  obtain rfl : f = 8 := Option.some.inj ((show Tryz.prog.funcNamed "attest/attestkeep.Forged" = some 8 by kernel_rfl).symm.trans hf) |>.symm
  obtain rfl : fn = Tryz.f8 := (Option.some.inj (Tryz.func8.symm.trans hfn)).symm
  refine ⟨by kernel_rfl, fun j t ht => ?_⟩
  rw [Tryz.params8] at ht
  have hm := Array.mem_of_getElem? ht
  have ht' : t = 35 ∨ t = 9 ∨ t = 3 := by
    simp at hm
    omega
  rcases ht' with rfl | rfl | rfl
  · exact (show Tryz.prog.wantsStandIn 35 = false by kernel_rfl)
  · exact (show Tryz.prog.wantsStandIn 9 = false by kernel_rfl)
  · exact (show Tryz.prog.wantsStandIn 3 = false by kernel_rfl)
end forged
/-- The statement. -/
theorem forged_card : Rows.ForgedCardSaid :=
  Claim7.holds_tied_plain_at .later [] _ _ _ _ forged.said (fun _ h => by cases h) (by kernel_rfl) (fun _ h => by cases h) forged_row_tie rfl ⟨rfl, rfl⟩ (by kernel_rfl) rfl forged.plain (by kernel_rfl)
#print axioms forged_card
end Go.Proofs.YtjohkmkgmbihkaaGreatDoor
