/- The walks of the shelf: where a key is. -/
import Derived.Test.YtjohkmkgmbihkaaGreatDoorRows
import Derived.Test.YtjohkmkgmbihkaaGreatDoorHeap
import Derived.Test.YtjohkmkgmbihkaaGreatDoorSumWalks
import Derived.WalkKit
import Derived.WalkLawsBesides
import Derived.ProofKit
import Derived.OpenShut
import Derived.Deep.QuietTactic
import Derived.BigQuiet
import Derived.Outline
import Derived.Lib.Bytealg
namespace Go.Proofs.YtjohkmkgmbihkaaGreatDoor
set_option linter.unusedVariables false
open Go.ChangeShapes Go.WideShapes Go.ChangeAt Go.RowKit

theorem ret_ib {k : IntKind} {a c : Int} {b d : Bool} (h : a = c) (q : b = d) : Ending.returned (.tuple #[.int k a, .bool b]) = .returned (.tuple #[.int k c, .bool d]) := by rw [h, q]

set_option maxHeartbeats 1000000 in
set_option maxRecDepth 100000 in
theorem cmpString_any (a b : ByteArray) (w : World) :
    Calls Tryz.prog 138 #[.string a, .string b] w fun e w' => e = .returned (.int .i64 (cmp a b)) ∧ w' = w := by
  go_enter Tryz.func138, Tryz.ntmps138
  go_wp2
  rw [run_callFunc_extern Tryz.func144 (by kernel_rfl) (by kernel_rfl) (by kernel_rfl) (e := Extern.BytealgCompare.compare) (by kernel_rfl), Lib.run_compareString]
  simp only [Result.andThen]
  rw [Oper.upon_value]
  go_wp2
  go_ret
  exact ⟨rfl, rfl⟩

set_option maxHeartbeats 400000 in
theorem cmp_any (a b : ByteArray) (w : World) :
    Calls Tryz.prog 125 #[.string a, .string b] w fun e w' => e = .returned (.int .i64 (cmp a b)) ∧ w' = w := by
  go_enter Tryz.func125, Tryz.ntmps125
  go_wp2_with fail
  refine (cmpString_any a b _).mono ?_
  rintro e w' ⟨rfl, rfl⟩
  go_wp2
  go_ret
  exact ⟨rfl, rfl⟩

set_option maxHeartbeats 400000 in
theorem clos_any (k v t : ByteArray) (h : Int) (w : World) :
    Calls Tryz.prog 124 #[.agg #[.string k, .string v, .int .i64 h], .string t] w fun e w' => e = .returned (.int .i64 (cmp k t)) ∧ Ext w w' := by
  go_enter Tryz.func124, Tryz.ntmps124
  go_wp2_with fail
  refine (cmp_any _ _ _).mono ?_
  rintro e w' ⟨rfl, rfl⟩
  go_wp2
  go_ret
  exact ⟨rfl, (Ext.refl _).alloc _⟩

set_option maxHeartbeats 800000 in
theorem search_any (L : List It) (hs : Sorted L) (hn : L.length ≤ 50) (b o cap : Nat) (k : ByteArray) (w : World) (hcap : L.length ≤ cap) (hb : b < w.heap.size)
    (hc : ∀ j u, (cellsOf L)[j]? = some u → w.cell? ⟨b, o + j, none⟩ = some u) :
    Calls Tryz.prog 123 #[.slice (some ⟨b, o, none⟩) L.length cap, .string k, .func (.func 124) #[] #[]] w
      fun e w' => e = .returned (.tuple #[.int .i64 (plc L k), .bool (has L k)]) ∧ Ext w w' := by
  have hpl := plc_le L k
  have HC := hid hc
  clear hc
  go_enter Tryz.func123, Tryz.ntmps123
  go_wp2_with fail
  go_loopw [9, 10, 11] (fun vi vj _ wr => ∃ i j : Nat, i ≤ plc L k ∧ plc L k ≤ j ∧ j ≤ L.length ∧ vi = .int .i64 i ∧ vj = .int .i64 j ∧ Ext w wr) (fun vi vj _ _ => (intOf vj - intOf vi).toNat)
  case atStart => exact ⟨0, L.length, by omega, by omega, by omega, rfl, rfl, Ext.refl _⟩
  case round =>
    obtain ⟨i, j, hi, hj, hjl, rfl, rfl, hx⟩ := hrel
    have hcr := cells_ext hx hb HC.out
    by_cases hlt : i < j
    · have hm : (i + j) / 2 < L.length := by omega
      obtain ⟨h1, h2, h3⟩ := item_cells hcr hm
      clear hcr
      have hiff := plc_iff hs (k := k) hm
      by_cases hless : lt (L[(i + j) / 2]).key k = true
      · have hpos := hiff.1 hless
        have hneg : cmp (L[(i + j) / 2]).key k < 0 := cmp_lt.2 hless
        clear hiff hless
        go_wp2_with fail
        refine (clos_any _ _ _ _ _).mono ?_
        rintro e w1 ⟨rfl, hx1⟩
        go_wp2_with fail
        go_roundw
        case rel => exact ⟨(i + j) / 2 + 1, j, by omega, hj, hjl, by go_num, rfl, hx.trans hx1⟩
        case measure => simp [intOf]; omega
      · have hpos : ¬ (i + j) / 2 < plc L k := fun q => hless (hiff.2 q)
        have hneg : ¬ cmp (L[(i + j) / 2]).key k < 0 := fun q => hless (cmp_lt.1 q)
        clear hiff hless
        go_wp2_with fail
        refine (clos_any _ _ _ _ _).mono ?_
        rintro e w1 ⟨rfl, hx1⟩
        go_wp2_with fail
        go_roundw
        case rel => exact ⟨i, (i + j) / 2, hi, by omega, by omega, rfl, by go_num, hx.trans hx1⟩
        case measure => simp [intOf]; omega
    · have e : i = plc L k := by omega
      by_cases hlen : i < L.length
      · obtain ⟨h1, h2, h3⟩ := item_cells hcr hlen
        clear hcr
        have hh : has L k = (cmp L[i].key k == 0) := by
          have : has L k = true ↔ cmp L[i].key k = 0 := by
            rw [has_iff, cmp_eq]
            subst e
            exact ⟨fun ⟨_, q⟩ => q, fun q => ⟨hlen, q⟩⟩
          rw [Bool.eq_iff_iff, this]; simp
        have HH := hid hh
        have HE := hid e
        clear hh e
        go_wp2_with fail
        refine (clos_any _ _ _ _ _).mono ?_
        rintro e w1 ⟨rfl, hx1⟩
        go_wp2_with fail
        go_ret2
        exact ⟨ret_ib (by rw [HE.out]) HH.out.symm, hx.trans hx1⟩
      · have hh : has L k = false := by
          cases q : has L k with
          | false => rfl
          | true => obtain ⟨r, _⟩ := has_iff.1 q; omega
        have HH := hid hh
        have HE := hid e
        clear hh e hcr
        go_wp2_with fail
        go_ret2
        exact ⟨ret_ib (by rw [HE.out]) HH.out.symm, hx⟩
end Go.Proofs.YtjohkmkgmbihkaaGreatDoor
