/- What goes over an answer: the fault of a node. -/
import Derived.Test.YtjohkmkgmbihkaaDoorOverA
import Derived.Deep.RegionHeld3
import Derived.Deep.DrawnRows
namespace Go.Proofs.YtjohkmkgmbihkaaDoor
open Go.ChangeShapes Go.WideShapes Go.ChangeAt Go.RowKit
set_option linter.unusedVariables false
/-- A node's block. -/
abbrev nodeO (x : It) (lp : Option Addr) (ls : ByteArray) (rp : Option Addr) (rs : ByteArray) : Obj := .cells #[.string x.key, .string x.val, .int .i64 x.h, .pointer lp, .string ls, .pointer rp, .string rs] 79
theorem RErr.shape {ok : Bool} {v : Value} (h : RErr ok v) : (ok = true ∧ v = .nilIface) ∨ (ok = false ∧ ErrM v ∧ ∃ t u, v = .iface t u) := by
  rcases h with h | ⟨h1, h2⟩
  · exact .inl h
  · exact .inr ⟨h1, h2, h2.iface⟩

set_option maxHeartbeats 4000000 in
set_option maxRecDepth 100000 in
theorem FaultN_any (lo hi a b : ByteArray) (q : Nat) (x : It) (lp rp : Option Addr) (ls rs : ByteArray) (nb : Nat) (okl okr : Bool) (vl vr : Value) (w : World) (hq : w.heap[q]? = some (.cells #[.string lo, .string hi] 27))
    (hn : w.heap[nb]? = some (nodeO x lp ls rp rs)) (hl : RErr okl vl) (hr : RErr okr vr) :
    Calls Tryd.prog 24 #[.pointer (some ⟨nb, 0, none⟩), .agg #[.string a, .string b], vl, vr, .pointer (some ⟨q, 0, none⟩)] w fun e w' => ∃ v, e = .returned v ∧ Ext w w' ∧ RErr (mat lo hi a b && holdB a b x.key && okl && okr) v := by
  obtain ⟨c0, c1⟩ := q_cells hq
  have k0 : w.cell? ⟨nb, 0, none⟩ = some (.string x.key) := cell_of_row _ _ 0 _ _ _ hn
  have hx0 := (Ext.refl w).alloc (.cells #[.string a, .string b] 75)
  have d0 := cell_new w #[.string a, .string b] 75 0
  have d1 := cell_new w #[.string a, .string b] 75 1
  replace c0 := fun ob => ((Ext.refl w).alloc ob).keep1 c0
  replace c1 := fun ob => ((Ext.refl w).alloc ob).keep1 c1
  have K0 := hid (hx0.keep1 k0)
  have D0 := hid d0
  have D1 := hid d1
  have HX0 := hid hx0
  clear hn hq k0 hx0 d0 d1
  cases hm : mat lo hi a b with
  | false =>
    rw [Bool.false_and, Bool.false_and, Bool.false_and]
    have HM := hid hm
    clear hm
    rcases hl.shape with ⟨_, rfl⟩ | ⟨_, _, t1, u1, rfl⟩ <;> rcases hr.shape with ⟨_, rfl⟩ | ⟨_, _, t2, u2, rfl⟩
    all_goals
      go_enter Tryd.func24, Tryd.ntmps24
      go_wp2_with fail
      refine (MatterTo_any lo hi a b _).mono ?_
      rintro e w1 ⟨rfl, hx⟩
      rw [HM.out]
      go_wp2_with fail
      go_ret
      exact ⟨_, rfl, HX0.out.trans hx, .inr ⟨rfl, Chain.base _⟩⟩
  | true =>
    rw [Bool.true_and]
    have HM := hid hm
    clear hm
    cases hh : holdB a b x.key with
    | false =>
      rw [Bool.false_and, Bool.false_and]
      have HH := hid hh
      clear hh
      rcases hl.shape with ⟨_, rfl⟩ | ⟨_, _, t1, u1, rfl⟩ <;> rcases hr.shape with ⟨_, rfl⟩ | ⟨_, _, t2, u2, rfl⟩
      all_goals
        go_enter Tryd.func24, Tryd.ntmps24
        go_wp2_with fail
        refine (MatterTo_any lo hi a b _).mono ?_
        rintro e w1 ⟨rfl, hx⟩
        rw [HM.out]
        have k1 := hx.keep1 K0.out
        have e0 := hx.keep1 D0.out
        have e1 := hx.keep1 D1.out
        go_wp2_with fail
        go_region_held3 (fun w' => w'.cell? ⟨nb, 0, none⟩ = some (.string x.key) ∧ w'.cell? ⟨w.heap.size, 0, none⟩ = some (.string a) ∧ w'.cell? ⟨w.heap.size, 1, none⟩ = some (.string b)) (go_keep)
          (first
            | (go_at_call 26; refine (Hold_any a b x.key _).mono ?_; rintro e w2 ⟨rfl, hx2⟩; rw [HH.out]; have hy2 := hx.trans (Ext.trans ((Ext.refl _).drew) hx2); have k3 := hy2.keep1 K0.out; have e3 := hy2.keep1 D0.out; have e4 := hy2.keep1 D1.out))
        go_wp2_with fail
        go_ret
        exact ⟨_, rfl, HX0.out.trans hy2, .inr ⟨rfl, Chain.base _⟩⟩
    | true =>
      rw [Bool.true_and]
      have HH := hid hh
      clear hh
      rcases hl.shape with ⟨rfl, rfl⟩ | ⟨rfl, hel, t1, u1, rfl⟩
      · rw [Bool.true_and]
        rcases hr.shape with ⟨rfl, rfl⟩ | ⟨rfl, her, t2, u2, rfl⟩
        · clear hl hr
          go_enter Tryd.func24, Tryd.ntmps24
          go_wp2_with fail
          refine (MatterTo_any lo hi a b _).mono ?_
          rintro e w1 ⟨rfl, hx⟩
          rw [HM.out]
          have k1 := hx.keep1 K0.out
          have e0 := hx.keep1 D0.out
          have e1 := hx.keep1 D1.out
          go_wp2_with fail
          go_region_held3 (fun w' => w'.cell? ⟨nb, 0, none⟩ = some (.string x.key) ∧ w'.cell? ⟨w.heap.size, 0, none⟩ = some (.string a) ∧ w'.cell? ⟨w.heap.size, 1, none⟩ = some (.string b)) (go_keep)
            (first
              | (go_at_call 26; refine (Hold_any a b x.key _).mono ?_; rintro e w2 ⟨rfl, hx2⟩; rw [HH.out]; have hy2 := hx.trans (Ext.trans ((Ext.refl _).drew) hx2); have k3 := hy2.keep1 K0.out; have e3 := hy2.keep1 D0.out; have e4 := hy2.keep1 D1.out))
          go_wp2_with fail
          go_ret
          exact ⟨_, rfl, HX0.out.trans hy2, .inl ⟨rfl, rfl⟩⟩
        · have HE := hid her
          clear hl hr her
          go_enter Tryd.func24, Tryd.ntmps24
          go_wp2_with fail
          refine (MatterTo_any lo hi a b _).mono ?_
          rintro e w1 ⟨rfl, hx⟩
          rw [HM.out]
          have k1 := hx.keep1 K0.out
          have e0 := hx.keep1 D0.out
          have e1 := hx.keep1 D1.out
          go_wp2_with fail
          go_region_held3 (fun w' => w'.cell? ⟨nb, 0, none⟩ = some (.string x.key) ∧ w'.cell? ⟨w.heap.size, 0, none⟩ = some (.string a) ∧ w'.cell? ⟨w.heap.size, 1, none⟩ = some (.string b)) (go_keep)
            (first
              | (go_at_call 26; refine (Hold_any a b x.key _).mono ?_; rintro e w2 ⟨rfl, hx2⟩; rw [HH.out]; have hy2 := hx.trans (Ext.trans ((Ext.refl _).drew) hx2); have k3 := hy2.keep1 K0.out; have e3 := hy2.keep1 D0.out; have e4 := hy2.keep1 D1.out))
          have k2 := hy2.keep1 K0.out
          go_wp2_with fail
          go_ret
          exact ⟨_, rfl, HX0.out.trans hy2, .inr ⟨rfl, Chain.wrap _ _ _ HE.out⟩⟩
      · rw [Bool.false_and]
        have HE := hid hel
        clear hl hel
        rcases hr.shape with ⟨_, rfl⟩ | ⟨_, _, t2, u2, rfl⟩
        all_goals
          clear hr
          go_enter Tryd.func24, Tryd.ntmps24
          go_wp2_with fail
          refine (MatterTo_any lo hi a b _).mono ?_
          rintro e w1 ⟨rfl, hx⟩
          rw [HM.out]
          have k1 := hx.keep1 K0.out
          have e0 := hx.keep1 D0.out
          have e1 := hx.keep1 D1.out
          go_wp2_with fail
          go_region_held3 (fun w' => w'.cell? ⟨nb, 0, none⟩ = some (.string x.key) ∧ w'.cell? ⟨w.heap.size, 0, none⟩ = some (.string a) ∧ w'.cell? ⟨w.heap.size, 1, none⟩ = some (.string b)) (go_keep)
            (first
              | (go_at_call 26; refine (Hold_any a b x.key _).mono ?_; rintro e w2 ⟨rfl, hx2⟩; rw [HH.out]; have hy2 := hx.trans (Ext.trans ((Ext.refl _).drew) hx2); have k3 := hy2.keep1 K0.out; have e3 := hy2.keep1 D0.out; have e4 := hy2.keep1 D1.out))
          have k2 := hy2.keep1 K0.out
          go_wp2_with fail
          go_ret
          exact ⟨_, rfl, HX0.out.trans hy2, .inr ⟨rfl, Chain.wrap _ _ _ HE.out⟩⟩
end Go.Proofs.YtjohkmkgmbihkaaDoor
