/- What the program makes of its errors. -/
import Derived.Test.YtjohkmkgmbihkaaDoorAsB
namespace Go.Proofs.YtjohkmkgmbihkaaDoor
open Go.ChangeShapes Go.WideShapes Go.ChangeAt Go.RowKit
set_option linter.unusedVariables false
theorem Ext.grown1 {w0 w w' : World} {b : Nat} (hx : Ext w0 w) (hb : w0.heap.size ≤ b) (hg : w.grownBy w' (some b)) : Ext w0 w' := Below.grown hx hg hx.size (fun k hk => by cases hk; exact hb)
theorem ErrT.ext {w w' : World} (h : ErrT w) (hx : Ext w w') : ErrT w' := hx.keep1 h
theorem frozen_new (w : World) (c : Array Value) (t : TypeId) : (w.alloc (.cells c t)).frozen? ⟨w.heap.size, 0, none⟩ = false := by
  unfold World.frozen?; rw [heap_alloc_new]; rfl

set_option maxHeartbeats 1000000 in
set_option maxRecDepth 100000 in
theorem errno_U (err : Value) (hc : Chain 69 err) (w : World) (hg : ErrT w) :
    Calls Tryd.prog 13 #[err] w fun e w' => e = .returned (.int .i64 7) ∧ Ext w w' := by
  obtain ⟨et, eu, rfl⟩ := hc.iface
  have HC := hid hc
  have HG := hid hg
  clear hc hg
  go_enter Tryd.func13, Tryd.ntmps13
  go_wp2_with fail
  have hx1 := (Ext.refl w).alloc (.cells #[.string ⟨#[]⟩] 69)
  have y := (Ext.refl (w.alloc (.cells #[.string ⟨#[]⟩] 69))).alloc (.cells #[.string ⟨#[]⟩] 70)
  have c1 := y.keep1 (cell_new w #[.string ⟨#[]⟩] 69 0)
  have f1 := (y.frz (t := w.heap.size) (by simp)).trans (frozen_new w #[.string ⟨#[]⟩] 69)
  refine (As_Unread_Unread _ HC.out w.heap.size _ _ (HG.out.ext (hx1.trans y)) c1 f1).mono ?_
  rintro e w3 ⟨rfl, hg3⟩
  have H3 := hid ((hx1.trans y).grown1 (Nat.le_refl _) hg3)
  clear hg3 c1 f1
  go_wp2_with fail
  go_ret
  exact ⟨rfl, H3.out⟩

set_option maxHeartbeats 1000000 in
set_option maxRecDepth 100000 in
theorem errno_M (err : Value) (hc : Chain 70 err) (w : World) (hg : ErrT w) :
    Calls Tryd.prog 13 #[err] w fun e w' => e = .returned (.int .i64 8) ∧ Ext w w' := by
  obtain ⟨et, eu, rfl⟩ := hc.iface
  have HC := hid hc
  have HG := hid hg
  clear hc hg
  go_enter Tryd.func13, Tryd.ntmps13
  go_wp2_with fail
  have hx1 := (Ext.refl w).alloc (.cells #[.string ⟨#[]⟩] 69)
  have y := (Ext.refl (w.alloc (.cells #[.string ⟨#[]⟩] 69))).alloc (.cells #[.string ⟨#[]⟩] 70)
  have e1 : (w.alloc (.cells #[.string ⟨#[]⟩] 69)).heap.size = w.heap.size + 1 := by simp
  have c1 := y.keep1 (cell_new w #[.string ⟨#[]⟩] 69 0)
  have f1 := (y.frz (t := w.heap.size) (by simp)).trans (frozen_new w #[.string ⟨#[]⟩] 69)
  have c2 := cell_new (w.alloc (.cells #[.string ⟨#[]⟩] 69)) #[.string ⟨#[]⟩] 70 0
  have f2 := frozen_new (w.alloc (.cells #[.string ⟨#[]⟩] 69)) #[.string ⟨#[]⟩] 70
  rw [e1] at c2 f2
  refine (As_Unread_Misplaced _ HC.out w.heap.size _ _ (HG.out.ext (hx1.trans y)) c1 f1).mono ?_
  rintro e w3 ⟨rfl, hg3⟩
  have h3 := (hx1.trans y).grown1 (Nat.le_refl _) hg3
  have C2 := hid (hg3.cell c2 (by simp))
  have F2 := hid (show w3.frozen? ⟨w.heap.size + 1, 0, none⟩ = false by
    rw [← f2]; unfold World.frozen?; rw [hg3.block (w.heap.size + 1) (by simp) (by simp)])
  have H3 := hid h3
  clear hg3 c1 f1 c2 f2 h3
  go_wp2_with fail
  refine (As_Misplaced_Misplaced _ HC.out (w.heap.size + 1) _ _ (HG.out.ext H3.out) C2.out F2.out).mono ?_
  rintro e w4 ⟨rfl, hg4⟩
  have H4 := hid (H3.out.grown1 (by omega) hg4)
  clear hg4
  go_wp2_with fail
  go_ret
  exact ⟨rfl, H4.out⟩
end Go.Proofs.YtjohkmkgmbihkaaDoor
