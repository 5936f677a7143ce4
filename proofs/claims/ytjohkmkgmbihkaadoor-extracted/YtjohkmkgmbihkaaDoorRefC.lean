/- The walks of the document's book: its digest. -/
import Derived.Test.YtjohkmkgmbihkaaDoorRefB
namespace Go.Proofs.YtjohkmkgmbihkaaDoor
set_option linter.unusedVariables false
open Go.ChangeShapes Go.WideShapes Go.ChangeAt Go.RowKit
attribute [local go_sem ↓] Go.wp_at_zero Go.wp_at_succ

set_option maxHeartbeats 400000 in
set_option maxRecDepth 100000 in
theorem rOne_any (n : Int) (h0 : 0 ≤ n) (h1 : n < 256) (w : World) :
    Calls Tryd.prog 57 #[.int .i64 n] w fun e w' => e = .returned (.string (byte n.toNat)) ∧ Ext w w' := by
  have hcv := conv1 w
  go_enter Tryd.func57, Tryd.ntmps57
  go_wp2_with fail
  go_ret
  exact ⟨ret_str (byte_str n h0 h1), (Ext.refl _).alloc _⟩

set_option maxHeartbeats 2000000 in
set_option maxRecDepth 100000 in
theorem rHead_any (x : It) (hk : x.key.size ≤ 8) (hv : x.val.size ≤ 20) (hh : x.h ≤ 15) (w : World) :
    Calls Tryd.prog 41 #[x.val'] w fun e w' => e = .returned (.string (head x)) ∧ Ext w w' := by
  have z1 := byte_size x.key.size
  have z2 := byte_size x.val.size
  have z3 := byte_size x.h
  have d0 := cell_new w #[.string x.key, .string x.val, .int .i64 x.h] 58 0
  have d1 := cell_new w #[.string x.key, .string x.val, .int .i64 x.h] 58 1
  have d2 := cell_new w #[.string x.key, .string x.val, .int .i64 x.h] 58 2
  have hx0 := (Ext.refl w).alloc (.cells #[.string x.key, .string x.val, .int .i64 x.h] 58)
  have n1 : ¬ 9223372036854775807 < 1 + 1 := by omega
  have n2 : ¬ 9223372036854775807 < 1 + 1 + x.key.size := by omega
  have n3 : ¬ 9223372036854775807 < 1 + 1 + x.key.size + 1 := by omega
  have n4 : ¬ 9223372036854775807 < 1 + 1 + x.key.size + 1 + x.val.size := by omega
  have n5 : ¬ 9223372036854775807 < 1 + 1 + x.key.size + 1 + x.val.size + 1 := by omega
  go_enter Tryd.func41, Tryd.ntmps41
  go_wp2_with fail
  generalize w.alloc (.cells #[.string x.key, .string x.val, .int .i64 x.h] 58) = W0 at *
  replace d0 : W0.cell? ⟨w.heap.size, 0, none⟩ = some (.string x.key) := d0
  replace d1 : W0.cell? ⟨w.heap.size, 1, none⟩ = some (.string x.val) := d1
  replace d2 : W0.cell? ⟨w.heap.size, 2, none⟩ = some (.int .i64 x.h) := d2
  go_region_held3 (fun w' => w'.cell? ⟨w.heap.size, 0, none⟩ = some (.string x.key) ∧ w'.cell? ⟨w.heap.size, 1, none⟩ = some (.string x.val) ∧ w'.cell? ⟨w.heap.size, 2, none⟩ = some (.int .i64 x.h)) (go_keep)
    (first
      | (go_at_call 57; refine (rOne_any _ ?_ ?_ _).mono ?_; omega; omega; rintro e w1 ⟨rfl, hx1⟩; have hy : Ext W0 w1 := Ext.trans (by first | assumption | exact (Ext.refl _).drew) hx1; have c0 := hy.keep1 d0; have c1 := hy.keep1 d1; have c2 := hy.keep1 d2; rw [Int.toNat_natCast]; clear hx1))
  go_wp2_with fail
  go_ret
  exact ⟨rfl, hx0.trans (by assumption)⟩

end Go.Proofs.YtjohkmkgmbihkaaDoor
