/- The walks of the book: Digest, Prove. -/
import Derived.Test.YtjohkmkgmbihkaaGreatDoorTreeD
namespace Go.Proofs.YtjohkmkgmbihkaaGreatDoor
set_option linter.unusedVariables false
open Go.ChangeShapes Go.WideShapes Go.ChangeAt Go.RowKit
attribute [local go_sem ↓] Go.wp_at_zero Go.wp_at_succ

set_option maxHeartbeats 400000 in
set_option maxRecDepth 100000 in
theorem tree_any (b : Nat) (v : Value) (L : List It) (w : World) (hB : Bk w b v L) :
    Calls Tryz.prog 38 #[.pointer (some ⟨b, 0, none⟩)] w fun e w' => ∃ T : Tr, e = .returned (.pointer T.addr) ∧ Ext w w' ∧ T.In w' ∧ Shape T L := by
  have HB := hid hB
  clear hB
  go_enter Tryz.func38, Tryz.ntmps38
  go_wp2_with fail
  refine (kept_any b v _ (Bk.cell HB.out)).mono ?_
  rintro e w1 ⟨rfl, rfl⟩
  go_wp2_with fail
  refine (Of_any L HB.out.2.2 _ _ (Bk.its HB.out)).mono ?_
  rintro e w1 ⟨T, rfl, hx, hin, hsh⟩
  have HI := hid hin
  have HS := hid hsh
  clear hin hsh
  go_wp2_with fail
  go_ret
  exact ⟨T, rfl, hx, HI.out, HS.out⟩

set_option maxHeartbeats 400000 in
set_option maxRecDepth 100000 in
theorem Digest_any (b : Nat) (v : Value) (L : List It) (w : World) (hB : Bk w b v L) :
    Calls Tryz.prog 15 #[.pointer (some ⟨b, 0, none⟩)] w fun e w' => e = .returned (.string (dig L)) ∧ Ext w w' := by
  have HB := hid hB
  clear hB
  go_enter Tryz.func15, Tryz.ntmps15
  go_wp2_with fail
  refine (tree_any b v L _ HB.out).mono ?_
  rintro e w1 ⟨T, rfl, hx, hin, hsh⟩
  have HI := hid hin
  have HS := hid hsh
  clear hin hsh
  go_wp2_with fail
  refine (NodeDigest_any T L _ HI.out HS.out).mono ?_
  rintro e w2 ⟨rfl, hx2⟩
  go_wp2_with fail
  go_ret
  exact ⟨rfl, hx.trans hx2⟩

/-- What is wrong with a question. -/
def askE (lo hi : ByteArray) : Int := if keyB lo && keyB hi then if Op.bytesLess lo.toList hi.toList || lo.toList == hi.toList then 0 else 6 else 1
def proveV (L : List It) (lo hi : ByteArray) : ByteArray := if askE lo hi = 0 then ans lo hi L ⟨#[]⟩ ⟨#[]⟩ else ⟨#[]⟩

set_option maxHeartbeats 400000 in
set_option maxRecDepth 100000 in
theorem Ask_any (lo hi : ByteArray) (w : World) :
    Calls Tryz.prog 40 #[.agg #[.string lo, .string hi]] w fun e w' => e = .returned (.int .i64 (askE lo hi)) ∧ Ext w w' := by
  cases e1 : keyB lo with
  | false =>
    have HF := hid (show askE lo hi = 1 by simp [askE, e1])
    have E1 := hid e1
    clear e1
    go_enter Tryz.func40, Tryz.ntmps40
    go_wp2_with fail
    refine (IsKey_any _ _).mono ?_
    rintro e w1 ⟨rfl, rfl⟩
    rw [E1.out]
    go_wp2_with fail
    go_ret
    exact ⟨ret_int HF.out.symm, (Ext.refl _).alloc _⟩
  | true =>
    cases e2 : keyB hi with
    | false =>
      have HF := hid (show askE lo hi = 1 by simp [askE, e1, e2])
      have E1 := hid e1
      have E2 := hid e2
      clear e1 e2
      go_enter Tryz.func40, Tryz.ntmps40
      go_wp2_with fail
      refine (IsKey_any _ _).mono ?_
      rintro e w1 ⟨rfl, rfl⟩
      rw [E1.out]
      go_wp2_with fail
      refine (IsKey_any _ _).mono ?_
      rintro e w1 ⟨rfl, rfl⟩
      rw [E2.out]
      go_wp2_with fail
      go_ret
      exact ⟨ret_int HF.out.symm, (Ext.refl _).alloc _⟩
    | true =>
      have HF := hid (show askE lo hi = if Op.bytesLess lo.toList hi.toList || lo.toList == hi.toList then 0 else 6 by simp [askE, e1, e2])
      have E1 := hid e1
      have E2 := hid e2
      clear e1 e2
      go_enter Tryz.func40, Tryz.ntmps40
      go_wp2_with fail
      refine (IsKey_any _ _).mono ?_
      rintro e w1 ⟨rfl, rfl⟩
      rw [E1.out]
      go_wp2_with fail
      refine (IsKey_any _ _).mono ?_
      rintro e w1 ⟨rfl, rfl⟩
      rw [E2.out]
      go_wp2_with fail
      all_goals
        go_ret
        rename_i hq
        refine ⟨?_, (Ext.refl _).alloc _⟩
        rw [HF.out]
        simp
        first | (simpa using hq; done) | (intro ha; simpa [ha] using hq)

set_option maxHeartbeats 1000000 in
set_option maxRecDepth 100000 in
theorem Prove_any (b : Nat) (v : Value) (L : List It) (lo hi : ByteArray) (w : World) (hB : Bk w b v L) :
    Calls Tryz.prog 16 #[.pointer (some ⟨b, 0, none⟩), .string lo, .string hi] w
      fun e w' => e = .returned (.tuple #[.string (proveV L lo hi), .int .i64 (askE lo hi)]) ∧ Ext w w' := by
  have HB := hid hB
  clear hB
  by_cases e1 : askE lo hi = 0
  · have HP := hid (show proveV L lo hi = ans lo hi L ⟨#[]⟩ ⟨#[]⟩ by simp [proveV, e1])
    have E1 := hid e1
    clear e1
    go_enter Tryz.func16, Tryz.ntmps16
    go_wp2_with fail
    refine (Ask_any lo hi _).mono ?_
    rintro e w1 ⟨rfl, hx⟩
    obtain ⟨bc, _, _⟩ := box_cells hx
    have d0 : w1.cell? ⟨w.heap.size, 0, none⟩ = some (.string lo) := bc 0
    have d1 : w1.cell? ⟨w.heap.size, 1, none⟩ = some (.string hi) := bc 1
    have hx1 := ((Ext.refl w).alloc _).trans hx
    clear bc
    rw [E1.out]
    go_wp2_with fail
    go_region_held3 (fun w' => w'.cell? ⟨w.heap.size, 0, none⟩ = some (.string lo) ∧ w'.cell? ⟨w.heap.size, 1, none⟩ = some (.string hi)) (go_keep)
      (first
        | (go_at_call 38; refine (tree_any b v L _ (Bk.ext HB.out hx1.drew)).mono ?_; rintro e w2 ⟨T, rfl, hx2, hin, hsh⟩; have hy2 : Ext w1 w2 := Ext.trans ((Ext.refl _).drew) hx2; have k0 := hy2.keep1 d0; have k1 := hy2.keep1 d1; have HI := hid hin; have HS := hid hsh; clear hin hsh)
        | (go_at_call 41; refine (Answer_any lo hi L T _ HB.out.2.2 HI.out HS.out).mono ?_; rintro e w3 ⟨rfl, hx3⟩; have hy3 : Ext w1 w3 := Ext.trans hy2 hx3; have k0 := hy3.keep1 d0; have k1 := hy3.keep1 d1))
    go_wp2_with fail
    go_ret2
    exact ⟨ret_si HP.out.symm E1.out.symm, hx1.trans hy3⟩
  · have HP := hid (show proveV L lo hi = ⟨#[]⟩ by simp [proveV, e1])
    have E1 : (askE lo hi != 0) = true := by simpa using e1
    go_enter Tryz.func16, Tryz.ntmps16
    go_wp2_with fail
    refine (Ask_any lo hi _).mono ?_
    rintro e w1 ⟨rfl, hx⟩
    go_wp2_with fail
    go_ret2
    exact ⟨ret_si HP.out.symm rfl, ((Ext.refl w).alloc _).trans hx⟩
end Go.Proofs.YtjohkmkgmbihkaaGreatDoor
