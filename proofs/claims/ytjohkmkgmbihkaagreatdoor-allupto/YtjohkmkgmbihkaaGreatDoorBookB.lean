/- The walks of the book: asking it. -/
import Derived.Test.YtjohkmkgmbihkaaGreatDoorBookA
namespace Go.Proofs.YtjohkmkgmbihkaaGreatDoor
set_option linter.unusedVariables false
open Go.ChangeShapes Go.WideShapes Go.ChangeAt Go.RowKit

set_option maxHeartbeats 400000 in
set_option maxRecDepth 100000 in
theorem kept_any (b : Nat) (v : Value) (w : World) (hc : w.cell? ⟨b, 0, none⟩ = some v) :
    Calls Tryz.prog 64 #[.pointer (some ⟨b, 0, none⟩)] w fun e w' => e = .returned v ∧ w' = w := by
  go_enter Tryz.func64, Tryz.ntmps64
  go_wp2_with fail
  go_ret
  exact ⟨rfl, rfl⟩

set_option maxHeartbeats 400000 in
set_option maxRecDepth 100000 in
theorem All_any (b : Nat) (v : Value) (L : List It) (w : World) (hB : Bk w b v L) :
    Calls Tryz.prog 51 #[.pointer (some ⟨b, 0, none⟩)] w
      fun e w' => ∃ v', e = .returned v' ∧ Ext w w' ∧ w'.ownsRow w.heap.size 53 2 v' L.length (pairsOf L) := by
  have HB := hid hB
  clear hB
  go_enter Tryz.func51, Tryz.ntmps51
  go_wp2_with fail
  refine (kept_any b v _ (Bk.cell HB.out)).mono ?_
  rintro e w1 ⟨rfl, rfl⟩
  go_wp2_with fail
  refine (Pairs_any L (Bk.its HB.out |> fun _ => HB.out.2.2.2.1) _ _ (Bk.its HB.out)).mono ?_
  rintro e w1 ⟨v', rfl, hx, ho⟩
  have HO := hid ho
  clear ho
  go_wp2_with fail
  go_ret
  exact ⟨v', rfl, hx, HO.out⟩

/-- What Get answers. -/
def getE (L : List It) (k : ByteArray) : Int := if keyB k then if has L k then 0 else 5 else 1
def getV (L : List It) (k : ByteArray) : ByteArray := if keyB k then if has L k then ((L[plc L k]?).map It.val).getD ⟨#[]⟩ else ⟨#[]⟩ else ⟨#[]⟩
theorem ret_si {a c : ByteArray} {b d : Int} (h : a = c) (q : b = d) : Ending.returned (.tuple #[.string a, .int .i64 b]) = .returned (.tuple #[.string c, .int .i64 d]) := by rw [h, q]

set_option maxHeartbeats 400000 in
set_option maxRecDepth 100000 in
theorem Get_any (b : Nat) (v : Value) (L : List It) (k : ByteArray) (w : World) (hB : Bk w b v L) :
    Calls Tryz.prog 93 #[.pointer (some ⟨b, 0, none⟩), .string k] w
      fun e w' => e = .returned (.tuple #[.string (getV L k), .int .i64 (getE L k)]) ∧ Ext w w' := by
  have HB := hid hB
  clear hB
  cases e1 : keyB k with
  | false =>
    have G1 := hid (show getE L k = 1 by simp [getE, e1])
    have G2 := hid (show getV L k = ⟨#[]⟩ by simp [getV, e1])
    have E1 := hid e1
    clear e1
    go_enter Tryz.func93, Tryz.ntmps93
    go_wp2_with fail
    refine (IsKey_any _ _).mono ?_
    rintro e w1 ⟨rfl, rfl⟩
    rw [E1.out]
    go_wp2_with fail
    go_ret2
    exact ⟨ret_si G2.out.symm G1.out.symm, Ext.refl _⟩
  | true =>
    cases e2 : has L k with
    | false =>
      have G1 := hid (show getE L k = 5 by simp [getE, e1, e2])
      have G2 := hid (show getV L k = ⟨#[]⟩ by simp [getV, e1, e2])
      have E1 := hid e1
      have E2 := hid e2
      clear e1 e2
      go_enter Tryz.func93, Tryz.ntmps93
      go_wp2_with fail
      refine (IsKey_any _ _).mono ?_
      rintro e w1 ⟨rfl, rfl⟩
      rw [E1.out]
      go_wp2_with fail
      refine (kept_any b v _ (Bk.cell HB.out)).mono ?_
      rintro e w1 ⟨rfl, rfl⟩
      go_wp2_with fail
      refine (Find_any L HB.out.2.2.1 HB.out.2.2.2.1 k _ _ (Bk.its HB.out)).mono ?_
      rintro e w1 ⟨y, rfl, hx, _⟩
      rw [E2.out]
      go_wp2_with fail
      go_ret2
      exact ⟨ret_si G2.out.symm G1.out.symm, hx.alloc _⟩
    | true =>
      have G1 := hid (show getE L k = 0 by simp [getE, e1, e2])
      have G2 := hid (show ∀ y, L[plc L k]? = some y → getV L k = y.val by intro y hy; simp [getV, e1, e2, hy])
      have E1 := hid e1
      have E2 := hid e2
      clear e1 e2
      go_enter Tryz.func93, Tryz.ntmps93
      go_wp2_with fail
      refine (IsKey_any _ _).mono ?_
      rintro e w1 ⟨rfl, rfl⟩
      rw [E1.out]
      go_wp2_with fail
      refine (kept_any b v _ (Bk.cell HB.out)).mono ?_
      rintro e w1 ⟨rfl, rfl⟩
      go_wp2_with fail
      refine (Find_any L HB.out.2.2.1 HB.out.2.2.2.1 k _ _ (Bk.its HB.out)).mono ?_
      rintro e w1 ⟨y, rfl, hx, hy⟩
      have HY := hid (hy E2.out)
      clear hy
      rw [E2.out]
      go_wp2_with fail
      go_ret2
      exact ⟨ret_si (G2.out y HY.out).symm G1.out.symm, hx.alloc _⟩
end Go.Proofs.YtjohkmkgmbihkaaGreatDoor
