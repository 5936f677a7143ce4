/- Shaped: the walk. -/
import Derived.Test.YtjohkmkgmbihkaaShapedD
import Derived.Deep.RegionHeld3
import Derived.Deep.DrawnRows
namespace Go.Proofs.Ytjohkmkgmbihkaa
set_option linter.unusedVariables false
open Go.ChangeShapes Go.WideShapes Go.ChangeAt Go.RowKit
attribute [local go_sem ↓] Go.wp_at_zero Go.wp_at_succ

set_option maxHeartbeats 4000000 in
set_option maxRecDepth 100000 in
theorem Shaped_any (ss : List St) (v : Value) (lo hi : ByteArray) (w : World) (hs : Sts w v ss) :
    Calls Try.prog 6 #[v, .string lo, .string hi] w fun e w' => e = .returned (.bool true) ∧ Ext w w' := by
  obtain ⟨a, cap, rfl, hcap, hcm⟩ := hs.shape
  have HS := hid hs
  clear hs
  obtain ⟨N, hN, hNl, hN25⟩ : ∃ N : Nat, N = min 25 ss.length ∧ N ≤ ss.length ∧ N ≤ 25 := ⟨_, rfl, by omega, by omega⟩
  have HN := hid hN
  clear hN
  go_enter Try.func6, Try.ntmps6
  go_wp2_with fail
  refine (newOn w).mono ?_
  rintro e w1 ⟨rfl, hx1, hb1, hs1⟩
  have HX1 := hid hx1
  have HB1 := hid hb1
  clear hx1 hb1
  go_wp2_with fail
  refine (newOn w1).mono ?_
  rintro e w2 ⟨rfl, hx2, hb2, hs2⟩
  have HT2 := hid (show Two w w2 w.heap.size w1.heap.size [] [] from ⟨by omega, Nat.le_refl _, by omega, HB1.out.ext hx2, hb2, HX1.out.trans hx2⟩)
  clear HX1 HB1 hx2 hb2 hs1 hs2
  generalize hba : w.heap.size = ba at HT2 ⊢
  generalize hbb : w1.heap.size = bb at HT2 ⊢
  clear hba hbb
  go_upto_if 38 with (fail)
  go_cut [9] (fun n wx => n = .int .i64 (N : Int) ∧ wx = w2)
  case first =>
    go_wp2_with fail
    all_goals go_meet
    · exact ⟨by rw [show N = 25 by have := HN.out; omega]; rfl, rfl⟩
    · exact ⟨by rw [show N = ss.length by have := HN.out; omega], rfl⟩
  case rest =>
    obtain ⟨rfl, rfl⟩ := hcut
    go_wp2_with fail
    go_loopw [10] (fun i wr => ∃ k : Nat, k ≤ N ∧ i = .int .i64 k ∧ Two w wr ba bb (puts [] ((ss.take k).map itK)) []) (fun i _ => N - (intOf i).toNat)
    case atStart => exact ⟨0, Nat.zero_le _, rfl, by simpa [puts] using HT2.out⟩
    case round =>
      obtain ⟨k, hk, rfl, ht⟩ := hrel
      by_cases hlt : k < N
      · obtain ⟨b, o, rfl, hbl, q0, q1, q2, q3⟩ := HS.out.at (i := k) (by omega)
        have hok := HS.out.2 _ (List.getElem_mem (show k < ss.length by omega))
        obtain ⟨s, hse⟩ : ∃ s, ss[k] = s := ⟨_, rfl⟩
        rw [hse] at q0 q1 q2 q3 hok
        have Q := hid (fun (wx : World) (hx : Ext w wx) => (⟨hx.keep1 q0, hx.keep1 q1, hx.keep1 q3⟩ : wx.cell? ⟨b, o + k * 4, none⟩ = some (.int .i64 s.key) ∧ wx.cell? ⟨b, o + k * 4 + 1, none⟩ = some (.int .i64 s.h) ∧ wx.cell? ⟨b, o + k * 4 + 3, none⟩ = some (.string s.val)))
        obtain ⟨r0, r1, r3⟩ := Q.out wr ht.2.2.2.2.2
        have HTk := hid (show puts [] ((ss.take (k + 1)).map itK) = put (puts [] ((ss.take k).map itK)) (itK s) by
          rw [List.take_add_one, List.getElem?_eq_getElem (by omega), hse]
          simp [puts])
        have hlen : (puts [] ((ss.take k).map itK)).length < 50 := by
          have := puts_length [] ((ss.take k).map itK)
          have h2 : ((ss.take k).map itK).length ≤ k := by rw [List.length_map, List.length_take]; omega
          have h3 : ([] : List It).length = 0 := rfl
          omega
        obtain ⟨pe, pl⟩ := put_taken (L := puts [] ((ss.take k).map itK)) (pre_key 107 s.key) (decide_eq_true (cutB_size s.val 20) : valB (cutB s.val 20) = true) (hgt16 s.h) hlen
        rw [show put (puts [] ((ss.take k).map itK)) ⟨⟨#[107]⟩ ++ keyC s.key, cutB s.val 20, (pickN s.h 16).toNat⟩ = puts [] ((ss.take (k + 1)).map itK) from HTk.out.symm] at pl
        have hps := (pre_size 107 s.key).2
        have hkz : (keyC s.key).size ≤ 2 := (keyN_size (pickN s.key 30).toNat).2
        have KA := hid (key_any s.key hok.1.1 hok.1.2)
        have C20 := hid (cut20 s.val hok.2.2.2)
        have PK := hid (pick_any s.h 16 hok.2.1.1 hok.2.1.2 (by omega) (by omega))
        have HT := hid ht
        have hxw := hid ht.2.2.2.2.2
        have i0 : (0 : Int) ≤ (k : Int) := by omega
        have i1 : (k : Int) < (ss.length : Int) := by omega
        clear hse ht hlen q0 q1 q2 q3 hok HTk
        generalize puts [] ((ss.take k).map itK) = L at *
        obtain ⟨L', hL'⟩ : ∃ x, puts [] ((ss.take (k + 1)).map itK) = x := ⟨_, rfl⟩
        rw [hL'] at pl
        have HL' := hid hL'
        clear hL'
        generalize keyC s.key = K at *
        generalize cutB s.val 20 = V at *
        generalize pickN s.h 16 = H at *
        have C8 := hid (cut8 (⟨#[107]⟩ ++ K) (by omega))
        have hcc : ¬ 9223372036854775807 < 1 + K.size := by omega
        have PT := hid (fun (wx : World) (hx : Ext wr wx) => HT.out.put hx (⟨#[107]⟩ ++ K) V H)
        rw [pe, pl] at PT
        clear pe pl hps
        go_wp2_with fail
        go_cut [11] (fun e wx => e = .int .i64 0 ∧ Two w wx ba bb L' [])
        case first =>
          go_region_held3 (fun w' => w'.cell? ⟨b, o + k * 4, none⟩ = some (.int .i64 s.key) ∧ w'.cell? ⟨b, o + k * 4 + 1, none⟩ = some (.int .i64 s.h) ∧ w'.cell? ⟨b, o + k * 4 + 3, none⟩ = some (.string s.val)) (go_keep)
            (first
              | (go_at_call 16; refine (KA.out _).mono ?_; rintro e w3 ⟨rfl, hx3⟩; have hy3 : Ext wr w3 := Ext.trans ((Ext.refl _).drew) hx3; obtain ⟨c0, c1, c3⟩ := Q.out _ (hxw.out.trans hy3))
              | (go_at_call_of 20 (Value.int IntKind.i64 8); refine (C8.out _).mono ?_; rintro e w4 ⟨rfl, h4⟩; replace h4 := h4.symm; subst h4)
              | (go_at_call_of 20 (Value.int IntKind.i64 20); refine (C20.out _).mono ?_; rintro e w4 ⟨rfl, h4⟩; replace h4 := h4.symm; subst h4)
              | (go_at_call 10; refine (PK.out _).mono ?_; rintro e w4 ⟨rfl, h4⟩; replace h4 := h4.symm; subst h4)
              | (go_at_call 12; refine (PT.out _ (by first | exact hy3 | exact hy3.drew)).mono ?_; rintro e w5 ⟨rfl, ht5, hg5⟩; obtain ⟨d0, d1, d3⟩ := Q.out _ ht5.2.2.2.2.2))
          all_goals (try go_wp2_with fail)
          all_goals go_meet
          all_goals exact ⟨rfl, ht5⟩
        case rest =>
          obtain ⟨rfl, h5⟩ := hcut
          have H5 := hid h5
          clear h5
          go_wp2_with fail
          go_roundw
          case rel => exact ⟨k + 1, by omega, by go_num, by rw [HL'.out]; exact H5.out⟩
          case measure => simp [intOf] <;> omega
      · obtain rfl : k = N := by omega
        clear hk hlt
        obtain ⟨A, hA⟩ : ∃ x, puts [] ((ss.take k).map itK) = x := ⟨_, rfl⟩
        rw [hA] at ht
        have hAl : A.length ≤ 25 := by
          have := puts_length [] ((ss.take k).map itK)
          have h2 : ((ss.take k).map itK).length ≤ k := by rw [List.length_map, List.length_take]; omega
          have h3 : ([] : List It).length = 0 := rfl
          rw [hA] at this
          omega
        have HA := hid hA
        have HT := hid ht
        clear ht hA HT2
        go_wp2_with fail
        obtain ⟨bv, hB⟩ := HT.out.2.2.2.1
        refine (All_any _ bv A _ hB).mono ?_
        rintro e w3 ⟨av, rfl, hx3, hav⟩
        rw [pairs_pc] at hav
        have hav' : w3.ownsRow wr.heap.size 42 2 av (prs A).length (pc (prs A)) := by rw [prs_length]; exact hav
        obtain ⟨la, lc, elv, hlc1, hlc2⟩ := (Prs.own hav').shape
        have SH := hid (show Sh w w3 ba bb av (prs A) A [] from ⟨HT.out.ext hx3, Prs.own hav', fun e => by
          have h1 := (hav'.lt bb e).1
          obtain ⟨bv2, hB2⟩ := HT.out.2.2.2.2.1
          have := hB2.lt
          omega⟩)
        rw [prs_length] at elv hlc1
        subst elv
        clear hB hav hav' hx3 HT
        go_wp2_with fail
        go_loopw [13] (fun i wq => ∃ j : Nat, j ≤ k ∧ i = .int .i64 j ∧ Sh w wq ba bb (.slice la A.length lc) (prs A) A (puts [] ((ss.take j).map itX))) (fun i _ => k - (intOf i).toNat)
        case atStart => exact ⟨0, Nat.zero_le _, rfl, by simpa [puts] using SH.out⟩
        case round =>
          obtain ⟨j, hj, rfl, ht⟩ := hrel
          clear SH
          by_cases hlt : j < k
          · obtain ⟨b, o, rfl, hbl, q0, q1, q2, q3⟩ := HS.out.at (i := j) (by omega)
            have hok := HS.out.2 _ (List.getElem_mem (show j < ss.length by omega))
            obtain ⟨s, hse⟩ : ∃ s, ss[j] = s := ⟨_, rfl⟩
            rw [hse] at q0 q1 q2 q3 hok
            have Q := hid (fun (wx : World) (hx : Ext w wx) => (⟨hx.keep1 q1, hx.keep1 q2⟩ : wx.cell? ⟨b, o + j * 4 + 1, none⟩ = some (.int .i64 s.h) ∧ wx.cell? ⟨b, o + j * 4 + 2, none⟩ = some (.int .i64 s.out)))
            obtain ⟨r1, r2⟩ := Q.out wr ht.1.2.2.2.2.2
            have HTk := hid (show puts [] ((ss.take (j + 1)).map itX) = put (puts [] ((ss.take j).map itX)) (itX s) by
              rw [List.take_add_one, List.getElem?_eq_getElem (by omega), hse]
              simp [puts])
            have hlen : (puts [] ((ss.take j).map itX)).length < 50 := by
              have := puts_length [] ((ss.take j).map itX)
              have h2 : ((ss.take j).map itX).length ≤ j := by rw [List.length_map, List.length_take]; omega
              have h3 : ([] : List It).length = 0 := rfl
              omega
            obtain ⟨pe, pl⟩ := put_taken (L := puts [] ((ss.take j).map itX)) (pre_key 120 s.out) (show valB ⟨#[]⟩ = true from rfl) (hgt16 s.h) hlen
            rw [show put (puts [] ((ss.take j).map itX)) ⟨⟨#[120]⟩ ++ keyC s.out, ⟨#[]⟩, (pickN s.h 16).toNat⟩ = puts [] ((ss.take (j + 1)).map itX) from HTk.out.symm] at pl
            have hkz : (keyC s.out).size ≤ 2 := (keyN_size (pickN s.out 30).toNat).2
            have KA := hid (key_any s.out hok.2.2.1.1 hok.2.2.1.2)
            have PK := hid (pick_any s.h 16 hok.2.1.1 hok.2.1.2 (by omega) (by omega))
            have HT := hid ht
            have hxw := hid ht.1.2.2.2.2.2
            have i0 : (0 : Int) ≤ (j : Int) := by omega
            have i1 : (j : Int) < (ss.length : Int) := by omega
            clear hse ht hlen q0 q1 q2 q3 hok HTk
            obtain ⟨L', hL'⟩ : ∃ x, puts [] ((ss.take (j + 1)).map itX) = x := ⟨_, rfl⟩
            rw [hL'] at pl
            have HL' := hid hL'
            clear hL'
            generalize puts [] ((ss.take j).map itX) = L at *
            generalize keyC s.out = K at *
            generalize pickN s.h 16 = H at *
            have hcc : ¬ 9223372036854775807 < 1 + K.size := by omega
            have PT := hid (fun (wx : World) (hx : Ext wr wx) => HT.out.put hx (⟨#[120]⟩ ++ K) ⟨#[]⟩ H)
            rw [pe, pl] at PT
            clear pe pl
            go_wp2_with fail
            go_region_held3 (fun w' => w'.cell? ⟨b, o + j * 4 + 1, none⟩ = some (.int .i64 s.h) ∧ w'.cell? ⟨b, o + j * 4 + 2, none⟩ = some (.int .i64 s.out)) (go_keep)
              (first
                | (go_at_call 16; refine (KA.out _).mono ?_; rintro e w4 ⟨rfl, hx4⟩; have hy4 : Ext wr w4 := Ext.trans ((Ext.refl _).drew) hx4; obtain ⟨c1, c2⟩ := Q.out _ (hxw.out.trans hy4))
                | (go_at_call 10; refine (PK.out _).mono ?_; rintro e w5 ⟨rfl, h5⟩; replace h5 := h5.symm; subst h5)
                | (go_at_call 12; refine (PT.out _ (by first | exact hy4 | exact hy4.drew)).mono ?_; rintro e w6 ⟨rfl, ht6⟩; obtain ⟨d1, d2⟩ := Q.out _ ht6.1.2.2.2.2.2; have H6 := hid ht6; clear ht6))
            all_goals (try go_wp2_with fail)
            all_goals go_roundw
            all_goals (first | (case rel => exact ⟨j + 1, by omega, by go_num, by rw [HL'.out]; exact H6.out⟩) | skip)
            all_goals (first | (case measure => simp [intOf] <;> omega) | skip)
          · obtain rfl : j = k := by omega
            clear hj hlt
            obtain ⟨Z, hZ⟩ : ∃ x, puts [] ((ss.take j).map itX) = x := ⟨_, rfl⟩
            rw [hZ] at ht
            have hZl : Z.length ≤ 25 := by
              have := puts_length [] ((ss.take j).map itX)
              have h2 : ((ss.take j).map itX).length ≤ j := by rw [List.length_map, List.length_take]; omega
              have h3 : ([] : List It).length = 0 := rfl
              rw [hZ] at this
              omega
            have HZ := hid hZ
            have SH := hid ht
            clear ht hZ
            go_wp2_with fail
            go_loopw [14] (fun i wq => ∃ m : Nat, m ≤ A.length ∧ i = .int .i64 ((m : Int) - 1) ∧ Sh w wq ba bb (.slice la A.length lc) (prs A) A (puts Z (A.reverse.take (A.length - m)))) (fun i _ => ((intOf i) + 1).toNat)
            case atStart => exact ⟨A.length, Nat.le_refl _, by go_num, by simpa [puts] using SH.out⟩
            case round =>
              obtain ⟨W0, rfl⟩ : ∃ x, x = wr := ⟨_, rfl⟩
              obtain ⟨m, hm, rfl, ht⟩ := hrel
              clear SH
              cases m with
              | succ p =>
                have ei : ((p + 1 : Nat) : Int) - 1 = (p : Int) := by omega
                rw [ei]
                clear ei
                have hpA : p < A.length := by omega
                obtain ⟨x, hx⟩ : ∃ x, A[p] = x := ⟨_, rfl⟩
                have hxA : x ∈ A := by rw [← hx]; exact List.getElem_mem _
                have hla : LastOf ((ss.take j).map itK) x := puts_from (by rw [HA.out]; exact hxA)
                have HH := hid (hOf_last hla)
                obtain ⟨s0, _, es0⟩ := List.mem_map.1 hla.mem
                obtain ⟨xk, xv, xh⟩ := itK_ok s0
                rw [es0] at xk xv xh
                have hstep := rev_step Z hpA
                rw [hx] at hstep
                have hlen : (puts Z (A.reverse.take (A.length - (p + 1)))).length < 50 := by
                  have := puts_length Z (A.reverse.take (A.length - (p + 1)))
                  rw [List.length_take, List.length_reverse] at this
                  omega
                obtain ⟨pe, pl⟩ := put_taken (L := puts Z (A.reverse.take (A.length - (p + 1)))) xk xv xh hlen
                rw [show (⟨x.key, x.val, (x.h : Int).toNat⟩ : It) = x from rfl, ← hstep] at pl
                obtain ⟨M', hM'⟩ : ∃ y, puts Z (A.reverse.take (A.length - p)) = y := ⟨_, rfl⟩
                rw [hM'] at pl
                have HM' := hid hM'
                clear hM' hstep hlen
                generalize puts Z (A.reverse.take (A.length - (p + 1))) = M at *
                have hpP : p < (prs A).length := by rw [prs_length]; exact hpA
                rcases ht.2.1.cases with ⟨_, q⟩ | ⟨lb, lo1, c1, q1, _, _, _, g1⟩
                · rw [q] at hpP; simp at hpP
                simp only [Value.slice.injEq] at q1
                obtain ⟨rfl, -, rfl⟩ := q1
                obtain ⟨e0, e1⟩ := pair_cells g1 (i := p) hpP
                rw [prs_get A _ hpA, hx] at e0 e1
                have PC := hid (fun (wx : World) (hp : Prs wx (.slice (some ⟨lb, lo1, none⟩) A.length lc) (prs A)) => (show wx.cell? ⟨lb, lo1 + p * 2, none⟩ = some (.string x.key) ∧ wx.cell? ⟨lb, lo1 + p * 2 + 1, none⟩ = some (.string x.val) by
                  rcases hp.cases with ⟨q, _⟩ | ⟨lb', lo', c', q, _, _, _, g⟩
                  · cases q
                  · simp only [Value.slice.injEq, Option.some.injEq, Addr.mk.injEq] at q
                    obtain ⟨⟨rfl, rfl, _⟩, _, rfl⟩ := q
                    have := pair_cells g (i := p) hpP
                    rw [prs_get A _ hpA, hx] at this
                    exact this))
                have HT := hid ht
                have hxw := hid ht.1.2.2.2.2.2
                have i0 : (0 : Int) ≤ (p : Int) := by omega
                have i1 : (p : Int) < (A.length : Int) := by omega
                have PT := hid (fun (wx : World) (hx : Ext W0 wx) => HT.out.put hx x.key x.val (x.h : Int))
                rw [pe, pl] at PT
                clear g1 ht hxA hla es0 xk xv xh pe pl hx
                go_wp2_with fail
                go_loopw [15, 16] (fun h kk wq => ∃ t : Nat, t ≤ j ∧ kk = .int .i64 t ∧ h = .int .i64 ((hOf ((ss.take t).map itK) x.key : Nat) : Int) ∧ Ext W0 wq) (fun h kk _ => j - (intOf kk).toNat)
                case atStart => exact ⟨0, Nat.zero_le _, rfl, by simp [hOf], Ext.refl _⟩
                case round =>
                  obtain ⟨t, ht, rfl, rfl, hxq⟩ := hrel
                  by_cases hlt : t < j
                  · obtain ⟨b, o, rfl, hbl, q0, q1, q2, q3⟩ := HS.out.at (i := t) (by omega)
                    have hok := HS.out.2 _ (List.getElem_mem (show t < ss.length by omega))
                    have hos := hOf_step ss (show t < ss.length by omega) x.key
                    obtain ⟨s, hse⟩ : ∃ s, ss[t] = s := ⟨_, rfl⟩
                    rw [hse] at q0 q1 q2 q3 hok hos
                    have Q := hid (fun (wx : World) (hx : Ext W0 wx) => (⟨(hxw.out.trans hx).keep1 q0, (hxw.out.trans hx).keep1 q1, hx.keep1 e0⟩ : wx.cell? ⟨b, o + t * 4, none⟩ = some (.int .i64 s.key) ∧ wx.cell? ⟨b, o + t * 4 + 1, none⟩ = some (.int .i64 s.h) ∧ wx.cell? ⟨lb, lo1 + p * 2, none⟩ = some (.string x.key)))
                    obtain ⟨r0, r1, r2⟩ := Q.out wr hxq
                    have hh0 := pickN_bd s.h 16 (by omega)
                    have hkz : (keyC s.key).size ≤ 2 := (keyN_size (pickN s.key 30).toNat).2
                    have KA := hid (key_any s.key hok.1.1 hok.1.2)
                    have PK := hid (pick_any s.h 16 hok.2.1.1 hok.2.1.2 (by omega) (by omega))
                    have HXQ := hid hxq
                    have j0 : (0 : Int) ≤ (t : Int) := by omega
                    have j1 : (t : Int) < (ss.length : Int) := by omega
                    have ehh : (((itK s).h : Nat) : Int) = pickN s.h 16 := Int.toNat_of_nonneg hh0.1
                    have HO := hid (show hOf ((ss.take (t + 1)).map itK) x.key = if (⟨#[107]⟩ ++ keyC s.key : ByteArray) = x.key then (itK s).h else hOf ((ss.take t).map itK) x.key from hos)
                    have HE := hid ehh
                    clear hse hxq q0 q1 q2 q3 hok hh0 hos ehh
                    generalize hOf ((ss.take t).map itK) x.key = H0 at *
                    generalize keyC s.key = K at *
                    generalize pickN s.h 16 = H at *
                    obtain ⟨kx, ekx⟩ : ∃ y, y = x.key := ⟨_, rfl⟩
                    rw [← ekx] at HO r2 Q
                    have EKX := hid ekx
                    clear ekx
                    have hcc : ¬ 9223372036854775807 < 1 + K.size := by omega
                    go_wp2_with fail
                    go_cut [114] (fun bv wx => bv = .bool (beq (⟨#[107]⟩ ++ K) kx) ∧ Ext W0 wx)
                    case first =>
                      go_region_held3 (fun w' => w'.cell? ⟨b, o + t * 4, none⟩ = some (.int .i64 s.key) ∧ w'.cell? ⟨lb, lo1 + p * 2, none⟩ = some (.string kx)) (go_keep)
                        (first
                          | (go_at_call 16; refine (KA.out _).mono ?_; rintro e w4 ⟨rfl, hx4⟩; have hy4 : Ext W0 w4 := HXQ.out.trans (Ext.trans ((Ext.refl _).drew) hx4); obtain ⟨c0, c1, c2⟩ := Q.out _ hy4))
                      all_goals (try go_wp2_with fail)
                      all_goals go_meet
                      all_goals exact ⟨rfl, hy4⟩
                    case rest =>
                      obtain ⟨W5, rfl⟩ : ∃ x, x = wc := ⟨_, rfl⟩
                      obtain ⟨rfl, hx5⟩ := hcut
                      obtain ⟨r0, r1, r2⟩ := Q.out W5 hx5
                      have HX5 := hid hx5
                      clear hx5
                      cases hb : beq (⟨#[107]⟩ ++ K) kx with
                      | true =>
                        have hb' := beq_iff.1 hb
                        clear hb
                        go_wp2_with (go_at_call 10; refine (PK.out _).mono ?_; rintro e w5 ⟨rfl, h5⟩; replace h5 := h5.symm; subst h5)
                        go_roundw
                        case rel => exact ⟨t + 1, by omega, by go_num, by rw [← EKX.out, HO.out, if_pos hb', HE.out], HX5.out⟩
                        case measure => simp [intOf] <;> omega
                      | false =>
                        have hb' := beq_false.1 hb
                        clear hb
                        go_wp2_with fail
                        go_roundw
                        case rel => exact ⟨t + 1, by omega, by go_num, by rw [← EKX.out, HO.out, if_neg hb'], HX5.out⟩
                        case measure => simp [intOf] <;> omega
                  · obtain rfl : t = j := by omega
                    rw [HH.out]
                    replace e0 := hxq.keep1 e0
                    replace e1 := hxq.keep1 e1
                    have HXQ := hid hxq
                    obtain ⟨xk, ekx⟩ : ∃ y, y = x.key := ⟨_, rfl⟩
                    obtain ⟨xv, exv⟩ : ∃ y, y = x.val := ⟨_, rfl⟩
                    obtain ⟨xh, exh⟩ : ∃ y, y = (x.h : Int) := ⟨_, rfl⟩
                    rw [← ekx] at e0 PT PC
                    rw [← exv] at e1 PT PC
                    rw [← exh] at PT ⊢
                    clear ekx exv exh hxq
                    go_wp2_with fail
                    go_cut [17] (fun e wx => e = .int .i64 0 ∧ Sh w wx ba bb (.slice (some ⟨lb, lo1, none⟩) A.length lc) (prs A) A M')
                    case first =>
                      go_region_held3 (fun w' => w'.cell? ⟨lb, lo1 + p * 2, none⟩ = some (.string xk) ∧ w'.cell? ⟨lb, lo1 + p * 2 + 1, none⟩ = some (.string xv)) (go_keep)
                        (first
                          | (go_at_call 12; refine (PT.out _ (by first | exact HXQ.out | exact HXQ.out.drew)).mono ?_; rintro e w6 ⟨rfl, ht6⟩; obtain ⟨d0, d1⟩ := PC.out _ ht6.2.1))
                      all_goals (try go_wp2_with fail)
                      all_goals go_meet
                      all_goals exact ⟨rfl, ht6⟩
                    case rest =>
                      obtain ⟨rfl, h5⟩ := hcut
                      have H5 := hid h5
                      clear h5
                      go_wp2_with fail
                      go_roundw
                      case rel => first | exact ⟨p, by omega, by go_num, by rw [HM'.out]; exact H5.out⟩ | ((repeat apply Exists.intro); exact ⟨⟨p, by omega, by go_num, by rw [HM'.out]; exact H5.out⟩, rfl⟩)
                      case measure => simp [intOf] <;> omega
              | zero =>
                obtain ⟨M, hM⟩ : ∃ y, puts Z (A.reverse.take (A.length - 0)) = y := ⟨_, rfl⟩
                rw [hM] at ht
                have HM := hid (show puts Z A.reverse = M by rw [← hM, Nat.sub_zero, List.take_of_length_le (by simp)])
                have SH := hid ht
                clear ht hM
                go_wp2_with fail
                go_loopw [18] (fun i wq => ∃ t : Nat, t ≤ j ∧ i = .int .i64 t ∧ Sh w wq ba bb (.slice la A.length lc) (prs A) A (dels M ((ss.take t).map fun s => ⟨#[120]⟩ ++ keyC s.out))) (fun i _ => j - (intOf i).toNat)
                case atStart => exact ⟨0, Nat.zero_le _, rfl, by simpa [dels] using SH.out⟩
                case round =>
                  obtain ⟨t, htj, rfl, ht⟩ := hrel
                  clear SH
                  by_cases hlt : t < j
                  · obtain ⟨b, o, rfl, hbl, q0, q1, q2, q3⟩ := HS.out.at (i := t) (by omega)
                    have hok := HS.out.2 _ (List.getElem_mem (show t < ss.length by omega))
                    have hds := dels_step M ss (show t < ss.length by omega)
                    obtain ⟨s, hse⟩ : ∃ s, ss[t] = s := ⟨_, rfl⟩
                    rw [hse] at q0 q1 q2 q3 hok hds
                    have r2 := ht.1.2.2.2.2.2.keep1 q2
                    have hkz : (keyC s.out).size ≤ 2 := (keyN_size (pickN s.out 30).toNat).2
                    have KA := hid (key_any s.out hok.2.2.1.1 hok.2.2.1.2)
                    have HT := hid ht
                    have HD := hid hds
                    have j0 : (0 : Int) ≤ (t : Int) := by omega
                    have j1 : (t : Int) < (ss.length : Int) := by omega
                    clear hse q0 q1 q2 q3 hok ht hds
                    generalize dels M ((ss.take t).map fun s => ⟨#[120]⟩ ++ keyC s.out) = D at *
                    generalize keyC s.out = K at *
                    have hcc : ¬ 9223372036854775807 < 1 + K.size := by omega
                    have DT := hid (fun (wx : World) (hx : Ext wr wx) => HT.out.del hx (⟨#[120]⟩ ++ K))
                    go_wp2_with fail
                    refine (KA.out _).mono ?_
                    rintro e w4 ⟨rfl, hx4⟩
                    go_wp2_with fail
                    refine (DT.out _ hx4).mono ?_
                    rintro e w5 ⟨rfl, ht5⟩
                    have H5 := hid ht5
                    clear ht5
                    go_wp2_with fail
                    go_roundw
                    case rel => (repeat apply Exists.intro); exact ⟨⟨t + 1, by omega, by go_num, by rw [HD.out]; exact H5.out⟩, rfl⟩
                    case measure => simp [intOf] <;> omega
                  · obtain rfl : t = j := by omega
                    have hfin : dels M ((ss.take t).map fun s => ⟨#[120]⟩ ++ keyC s.out) = A := by
                      rw [← HM.out, ← HZ.out, ← HA.out]; exact shaped_fin ss t
                    rw [hfin] at ht
                    have k14 := hid (show dig [] = ⟨#[49, 52, 100]⟩ by decide +kernel)
                    obtain ⟨hta, htb, htx⟩ := ht.1.2.2.2
                    have HTA := hid hta
                    have HTB := hid htb
                    have HTX := hid htx
                    clear ht hfin hta htb htx
                    go_wp2_with fail
                    refine (dig_x ba A _ HTA.out).mono ?_
                    rintro e w3 ⟨rfl, hx3⟩
                    have HA3 := hid (HTA.out.ext hx3)
                    have HB3 := hid (HTB.out.ext hx3)
                    have HX3 := hid (HTX.out.trans hx3)
                    clear hx3 HTA HTB HTX
                    go_wp2_with fail
                    refine (dig_x bb A _ HB3.out).mono ?_
                    rintro e w4 ⟨rfl, hx4⟩
                    have HA4 := hid (HA3.out.ext hx4)
                    have HB4 := hid (HB3.out.ext hx4)
                    have HX4 := hid (HX3.out.trans hx4)
                    clear hx4 HA3 HB3 HX3
                    go_wp2_with fail
                    refine (prove_x ba A lo hi _ HA4.out).mono ?_
                    rintro e w5 ⟨rfl, hx5⟩
                    have HB5 := hid (HB4.out.ext hx5)
                    have HX5 := hid (HX4.out.trans hx5)
                    clear hx5 HA4 HB4 HX4
                    go_wp2_with fail
                    refine (prove_x bb A lo hi _ HB5.out).mono ?_
                    rintro e w6 ⟨rfl, hx6⟩
                    have HX6 := hid (HX5.out.trans hx6)
                    clear hx6 HB5 HX5
                    generalize proveV A lo hi = pv at *
                    generalize askE lo hi = pe at *
                    generalize dig A = dg at *
                    go_wp2_with fail
                    refine (newOn w6).mono ?_
                    rintro e w7 ⟨rfl, hx7, hb7, hs7⟩
                    have HB7 := hid hb7
                    have HX7 := hid (HX6.out.trans hx7)
                    clear hx7 hb7 HX6
                    go_wp2_with fail
                    refine (dig_x w6.heap.size [] _ HB7.out).mono ?_
                    rintro e w8 ⟨rfl, hx8⟩
                    rw [k14.out]
                    have HX8 := hid (HX7.out.trans hx8)
                    clear hx8 HB7 HX7
                    by_cases h0 : t = 0
                    · have hA0 : A.length = 0 := by rw [← HA.out, h0]; rfl
                      go_wp2_with fail
                      go_ret
                      exact ⟨rfl, HX8.out⟩
                    · have hA1 : ¬ A.length = 0 := fun e => by
                        have := puts_some (xs := (ss.take t).map itK) (by rw [HA.out]; exact e)
                        rw [List.length_map, List.length_take] at this
                        omega
                      have e1 : ((t : Int) == 0) = false := by rw [beq_eq_false_iff_ne]; omega
                      have e2 : ((A.length : Int) == 0) = false := by rw [beq_eq_false_iff_ne]; omega
                      go_wp2_with fail
                      go_ret
                      exact ⟨rfl, HX8.out⟩
end Go.Proofs.Ytjohkmkgmbihkaa
