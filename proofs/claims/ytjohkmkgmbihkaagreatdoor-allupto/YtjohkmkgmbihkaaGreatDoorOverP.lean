/- What goes over an answer: faults, pairs, what is told. -/
import Derived.Test.YtjohkmkgmbihkaaGreatDoorAnsG
import Derived.Test.YtjohkmkgmbihkaaGreatDoorTreeD
import Derived.Deep.RegionHeld3
import Derived.Deep.DrawnRows
import Derived.Test.YtjohkmkgmbihkaaGreatDoorShelfE
import Derived.Test.YtjohkmkgmbihkaaGreatDoorTreeB
namespace Go.Proofs.YtjohkmkgmbihkaaGreatDoor
open Go.ChangeShapes Go.WideShapes Go.ChangeAt Go.RowKit
set_option linter.unusedVariables false
/-- Is a key between two bounds? -/
def holdB (low high k : ByteArray) : Bool := (beq low ⟨#[]⟩ || lt low k) && (beq high ⟨#[]⟩ || lt k high)
theorem hold_eq (low high k : ByteArray) : holdB low high k = ((low.toList.isEmpty || Op.bytesLess low.toList k.toList) && (high.toList.isEmpty || Op.bytesLess k.toList high.toList)) := by
  have := mat_eq k k low high
  unfold mat at this
  exact this
set_option maxHeartbeats 400000 in
theorem Hold_any (low high k : ByteArray) (w : World) :
    Calls Tryz.prog 107 #[.agg #[.string low, .string high], .string k] w fun e w' => e = .returned (.bool (holdB low high k)) ∧ Ext w w' := by
  go_enter Tryz.func107, Tryz.ntmps107
  go_wp2_with fail
  all_goals
    go_ret
    refine ⟨?_, (Ext.refl _).alloc _⟩
    rw [hold_eq]
    simp [*]
/-- Is a key asked for? -/
def askB (lo hi k : ByteArray) : Bool := (Op.bytesLess lo.toList k.toList || lo.toList == k.toList) && (Op.bytesLess k.toList hi.toList || k.toList == hi.toList)
set_option maxHeartbeats 400000 in
theorem AsksFor_any (lo hi k : ByteArray) (w : World) :
    Calls Tryz.prog 74 #[.agg #[.string lo, .string hi], .string k] w fun e w' => e = .returned (.bool (askB lo hi k)) ∧ Ext w w' := by
  go_enter Tryz.func74, Tryz.ntmps74
  go_wp2_with fail
  all_goals
    go_ret
    refine ⟨?_, (Ext.refl _).alloc _⟩
    simp [askB, *]
/-- What a fault of an answer is: none, or an error of its kind. -/
def okT (lo hi : ByteArray) : AT → ByteArray → ByteArray → Bool
  | .empty, a, b => mat lo hi a b
  | .alone _, a, b => !mat lo hi a b
  | .node x l r, a, b => mat lo hi a b && holdB a b x.key && okT lo hi l a x.key && okT lo hi r x.key b
def RErr (ok : Bool) (v : Value) : Prop := (ok = true ∧ v = .nilIface) ∨ (ok = false ∧ ErrM v)
theorem q_cells {w : World} {q : Nat} {lo hi : ByteArray} (h : w.heap[q]? = some (.cells #[.string lo, .string hi] 77)) : w.cell? ⟨q, 0, none⟩ = some (.string lo) ∧ w.cell? ⟨q, 1, none⟩ = some (.string hi) :=
  ⟨cell_of_row _ _ 0 _ _ _ h, cell_of_row _ _ 1 _ _ _ h⟩

set_option maxHeartbeats 1000000 in
set_option maxRecDepth 100000 in
theorem FaultE_any (lo hi a b : ByteArray) (q : Nat) (w : World) (hq : w.heap[q]? = some (.cells #[.string lo, .string hi] 77)) :
    Calls Tryz.prog 108 #[.agg #[.string a, .string b], .pointer (some ⟨q, 0, none⟩)] w fun e w' => ∃ v, e = .returned v ∧ Ext w w' ∧ RErr (mat lo hi a b) v := by
  obtain ⟨c0, c1⟩ := q_cells hq
  replace c0 := fun ob => ((Ext.refl w).alloc ob).keep1 c0
  replace c1 := fun ob => ((Ext.refl w).alloc ob).keep1 c1
  cases hm : mat lo hi a b with
  | true =>
    have HM := hid hm
    clear hm
    go_enter Tryz.func108, Tryz.ntmps108
    go_wp2_with fail
    refine (MatterTo_any lo hi a b _).mono ?_
    rintro e w1 ⟨rfl, hx⟩
    rw [HM.out]
    go_wp2_with fail
    go_ret
    exact ⟨_, rfl, ((Ext.refl w).alloc _).trans hx, .inl ⟨rfl, rfl⟩⟩
  | false =>
    have HM := hid hm
    clear hm
    go_enter Tryz.func108, Tryz.ntmps108
    go_wp2_with fail
    refine (MatterTo_any lo hi a b _).mono ?_
    rintro e w1 ⟨rfl, hx⟩
    rw [HM.out]
    go_wp2_with fail
    go_ret
    exact ⟨_, rfl, ((Ext.refl w).alloc _).trans hx, .inr ⟨rfl, Chain.base _⟩⟩

set_option maxHeartbeats 1000000 in
set_option maxRecDepth 100000 in
theorem FaultA_any (lo hi a b d : ByteArray) (q : Nat) (w : World) (hq : w.heap[q]? = some (.cells #[.string lo, .string hi] 77)) :
    Calls Tryz.prog 109 #[.string d, .agg #[.string a, .string b], .pointer (some ⟨q, 0, none⟩)] w fun e w' => ∃ v, e = .returned v ∧ Ext w w' ∧ RErr (!mat lo hi a b) v := by
  obtain ⟨c0, c1⟩ := q_cells hq
  replace c0 := fun ob => ((Ext.refl w).alloc ob).keep1 c0
  replace c1 := fun ob => ((Ext.refl w).alloc ob).keep1 c1
  cases hm : mat lo hi a b with
  | true =>
    have HM := hid hm
    clear hm
    go_enter Tryz.func109, Tryz.ntmps109
    go_wp2_with fail
    refine (MatterTo_any lo hi a b _).mono ?_
    rintro e w1 ⟨rfl, hx⟩
    rw [HM.out]
    go_wp2_with fail
    go_ret
    exact ⟨_, rfl, ((Ext.refl w).alloc _).trans hx, .inr ⟨rfl, Chain.base _⟩⟩
  | false =>
    have HM := hid hm
    clear hm
    go_enter Tryz.func109, Tryz.ntmps109
    go_wp2_with fail
    refine (MatterTo_any lo hi a b _).mono ?_
    rintro e w1 ⟨rfl, hx⟩
    rw [HM.out]
    go_wp2_with fail
    go_ret
    exact ⟨_, rfl, ((Ext.refl w).alloc _).trans hx, .inl ⟨rfl, rfl⟩⟩
end Go.Proofs.YtjohkmkgmbihkaaGreatDoor

namespace Go.Proofs.YtjohkmkgmbihkaaGreatDoor
open Go.ChangeShapes Go.WideShapes Go.ChangeAt Go.RowKit
set_option linter.unusedVariables false
/-- A node's block. -/
abbrev nodeO (x : It) (lp : Option Addr) (ls : ByteArray) (rp : Option Addr) (rs : ByteArray) : Obj := .cells #[.string x.key, .string x.val, .int .i64 x.h, .pointer lp, .string ls, .pointer rp, .string rs] 134
theorem RErr.shape {ok : Bool} {v : Value} (h : RErr ok v) : (ok = true ∧ v = .nilIface) ∨ (ok = false ∧ ErrM v ∧ ∃ t u, v = .iface t u) := by
  rcases h with h | ⟨h1, h2⟩
  · exact .inl h
  · exact .inr ⟨h1, h2, h2.iface⟩

set_option maxHeartbeats 4000000 in
set_option maxRecDepth 100000 in
theorem FaultN_any (lo hi a b : ByteArray) (q : Nat) (x : It) (lp rp : Option Addr) (ls rs : ByteArray) (nb : Nat) (okl okr : Bool) (vl vr : Value) (w : World) (hq : w.heap[q]? = some (.cells #[.string lo, .string hi] 77))
    (hn : w.heap[nb]? = some (nodeO x lp ls rp rs)) (hl : RErr okl vl) (hr : RErr okr vr) :
    Calls Tryz.prog 106 #[.pointer (some ⟨nb, 0, none⟩), .agg #[.string a, .string b], vl, vr, .pointer (some ⟨q, 0, none⟩)] w fun e w' => ∃ v, e = .returned v ∧ Ext w w' ∧ RErr (mat lo hi a b && holdB a b x.key && okl && okr) v := by
  obtain ⟨c0, c1⟩ := q_cells hq
  have k0 : w.cell? ⟨nb, 0, none⟩ = some (.string x.key) := cell_of_row _ _ 0 _ _ _ hn
  have hx0 := (Ext.refl w).alloc (.cells #[.string a, .string b] 122)
  have d0 := cell_new w #[.string a, .string b] 122 0
  have d1 := cell_new w #[.string a, .string b] 122 1
  replace c0 := fun ob => ((Ext.refl w).alloc ob).keep1 c0
  replace c1 := fun ob => ((Ext.refl w).alloc ob).keep1 c1
  have K0 := hid (hx0.keep1 k0)
  have D0 := hid d0
  have D1 := hid d1
  have HX0 := hid hx0
  clear hn hq k0 hx0 d0 d1
  cases hm : mat lo hi a b with
  | false =>
    rw [Bool.false_and, Bool.false_and, Bool.false_and]
    have HM := hid hm
    clear hm
    rcases hl.shape with ⟨_, rfl⟩ | ⟨_, _, t1, u1, rfl⟩ <;> rcases hr.shape with ⟨_, rfl⟩ | ⟨_, _, t2, u2, rfl⟩
    all_goals
      go_enter Tryz.func106, Tryz.ntmps106
      go_wp2_with fail
      refine (MatterTo_any lo hi a b _).mono ?_
      rintro e w1 ⟨rfl, hx⟩
      rw [HM.out]
      go_wp2_with fail
      go_ret
      exact ⟨_, rfl, HX0.out.trans hx, .inr ⟨rfl, Chain.base _⟩⟩
  | true =>
    rw [Bool.true_and]
    have HM := hid hm
    clear hm
    cases hh : holdB a b x.key with
    | false =>
      rw [Bool.false_and, Bool.false_and]
      have HH := hid hh
      clear hh
      rcases hl.shape with ⟨_, rfl⟩ | ⟨_, _, t1, u1, rfl⟩ <;> rcases hr.shape with ⟨_, rfl⟩ | ⟨_, _, t2, u2, rfl⟩
      all_goals
        go_enter Tryz.func106, Tryz.ntmps106
        go_wp2_with fail
        refine (MatterTo_any lo hi a b _).mono ?_
        rintro e w1 ⟨rfl, hx⟩
        rw [HM.out]
        have k1 := hx.keep1 K0.out
        have e0 := hx.keep1 D0.out
        have e1 := hx.keep1 D1.out
        go_wp2_with fail
        go_region_held3 (fun w' => w'.cell? ⟨nb, 0, none⟩ = some (.string x.key) ∧ w'.cell? ⟨w.heap.size, 0, none⟩ = some (.string a) ∧ w'.cell? ⟨w.heap.size, 1, none⟩ = some (.string b)) (go_keep)
          (first
            | (go_at_call 107; refine (Hold_any a b x.key _).mono ?_; rintro e w2 ⟨rfl, hx2⟩; rw [HH.out]; have hy2 := hx.trans (Ext.trans ((Ext.refl _).drew) hx2); have k3 := hy2.keep1 K0.out; have e3 := hy2.keep1 D0.out; have e4 := hy2.keep1 D1.out))
        go_wp2_with fail
        go_ret
        exact ⟨_, rfl, HX0.out.trans hy2, .inr ⟨rfl, Chain.base _⟩⟩
    | true =>
      rw [Bool.true_and]
      have HH := hid hh
      clear hh
      rcases hl.shape with ⟨rfl, rfl⟩ | ⟨rfl, hel, t1, u1, rfl⟩
      · rw [Bool.true_and]
        rcases hr.shape with ⟨rfl, rfl⟩ | ⟨rfl, her, t2, u2, rfl⟩
        · clear hl hr
          go_enter Tryz.func106, Tryz.ntmps106
          go_wp2_with fail
          refine (MatterTo_any lo hi a b _).mono ?_
          rintro e w1 ⟨rfl, hx⟩
          rw [HM.out]
          have k1 := hx.keep1 K0.out
          have e0 := hx.keep1 D0.out
          have e1 := hx.keep1 D1.out
          go_wp2_with fail
          go_region_held3 (fun w' => w'.cell? ⟨nb, 0, none⟩ = some (.string x.key) ∧ w'.cell? ⟨w.heap.size, 0, none⟩ = some (.string a) ∧ w'.cell? ⟨w.heap.size, 1, none⟩ = some (.string b)) (go_keep)
            (first
              | (go_at_call 107; refine (Hold_any a b x.key _).mono ?_; rintro e w2 ⟨rfl, hx2⟩; rw [HH.out]; have hy2 := hx.trans (Ext.trans ((Ext.refl _).drew) hx2); have k3 := hy2.keep1 K0.out; have e3 := hy2.keep1 D0.out; have e4 := hy2.keep1 D1.out))
          go_wp2_with fail
          go_ret
          exact ⟨_, rfl, HX0.out.trans hy2, .inl ⟨rfl, rfl⟩⟩
        · have HE := hid her
          clear hl hr her
          go_enter Tryz.func106, Tryz.ntmps106
          go_wp2_with fail
          refine (MatterTo_any lo hi a b _).mono ?_
          rintro e w1 ⟨rfl, hx⟩
          rw [HM.out]
          have k1 := hx.keep1 K0.out
          have e0 := hx.keep1 D0.out
          have e1 := hx.keep1 D1.out
          go_wp2_with fail
          go_region_held3 (fun w' => w'.cell? ⟨nb, 0, none⟩ = some (.string x.key) ∧ w'.cell? ⟨w.heap.size, 0, none⟩ = some (.string a) ∧ w'.cell? ⟨w.heap.size, 1, none⟩ = some (.string b)) (go_keep)
            (first
              | (go_at_call 107; refine (Hold_any a b x.key _).mono ?_; rintro e w2 ⟨rfl, hx2⟩; rw [HH.out]; have hy2 := hx.trans (Ext.trans ((Ext.refl _).drew) hx2); have k3 := hy2.keep1 K0.out; have e3 := hy2.keep1 D0.out; have e4 := hy2.keep1 D1.out))
          have k2 := hy2.keep1 K0.out
          go_wp2_with fail
          go_ret
          exact ⟨_, rfl, HX0.out.trans hy2, .inr ⟨rfl, Chain.wrap _ _ _ HE.out⟩⟩
      · rw [Bool.false_and]
        have HE := hid hel
        clear hl hel
        rcases hr.shape with ⟨_, rfl⟩ | ⟨_, _, t2, u2, rfl⟩
        all_goals
          clear hr
          go_enter Tryz.func106, Tryz.ntmps106
          go_wp2_with fail
          refine (MatterTo_any lo hi a b _).mono ?_
          rintro e w1 ⟨rfl, hx⟩
          rw [HM.out]
          have k1 := hx.keep1 K0.out
          have e0 := hx.keep1 D0.out
          have e1 := hx.keep1 D1.out
          go_wp2_with fail
          go_region_held3 (fun w' => w'.cell? ⟨nb, 0, none⟩ = some (.string x.key) ∧ w'.cell? ⟨w.heap.size, 0, none⟩ = some (.string a) ∧ w'.cell? ⟨w.heap.size, 1, none⟩ = some (.string b)) (go_keep)
            (first
              | (go_at_call 107; refine (Hold_any a b x.key _).mono ?_; rintro e w2 ⟨rfl, hx2⟩; rw [HH.out]; have hy2 := hx.trans (Ext.trans ((Ext.refl _).drew) hx2); have k3 := hy2.keep1 K0.out; have e3 := hy2.keep1 D0.out; have e4 := hy2.keep1 D1.out))
          have k2 := hy2.keep1 K0.out
          go_wp2_with fail
          go_ret
          exact ⟨_, rfl, HX0.out.trans hy2, .inr ⟨rfl, Chain.wrap _ _ _ HE.out⟩⟩
end Go.Proofs.YtjohkmkgmbihkaaGreatDoor

namespace Go.Proofs.YtjohkmkgmbihkaaGreatDoor
open Go.ChangeShapes Go.WideShapes Go.ChangeAt Go.RowKit
set_option linter.unusedVariables false
theorem box3 {w w1 : World} {f1 f2 f3 a b c d : Value} {s t u : TypeId} (hx : Ext (((w.alloc (.cells #[f1, f2, f3] s)).alloc (.cells #[a, b] t)).alloc (.cells #[c, d] u)) w1) :
    w1.cell? ⟨w.heap.size, 0, none⟩ = some f1 ∧ w1.cell? ⟨w.heap.size, 1, none⟩ = some f2 ∧ w1.cell? ⟨w.heap.size, 2, none⟩ = some f3 ∧ w1.cell? ⟨w.heap.size + 1, 0, none⟩ = some a ∧ w1.cell? ⟨w.heap.size + 1, 1, none⟩ = some b ∧
      w1.cell? ⟨w.heap.size + 2, 0, none⟩ = some c ∧ w1.cell? ⟨w.heap.size + 2, 1, none⟩ = some d ∧ Ext w w1 := by
  have e : (w.alloc (.cells #[f1, f2, f3] s)).heap.size = w.heap.size + 1 := by simp
  have h0 := ((Ext.refl (w.alloc (.cells #[f1, f2, f3] s))).alloc (.cells #[a, b] t)).alloc (.cells #[c, d] u)
  obtain ⟨h1, _, _⟩ := box_cells (h0.trans hx)
  obtain ⟨g1, g2, g3, g4, _⟩ := box2 hx
  rw [e] at g1 g2 g3 g4
  exact ⟨h1 0, h1 1, h1 2, g1, g2, g3, g4, ((((Ext.refl w).alloc _).alloc _).alloc _).trans hx⟩

abbrev fF1 (q : Nat) : Value := .func (.func 106) #[] #[.pointer (some ⟨q, 0, none⟩)]
abbrev fF2 (q : Nat) : Value := .func (.func 108) #[] #[.pointer (some ⟨q, 0, none⟩)]
abbrev fF3 (q : Nat) : Value := .func (.func 109) #[] #[.pointer (some ⟨q, 0, none⟩)]
/-- What is said of a tree's fault. -/
def PartF (lo hi : ByteArray) (q : Nat) (t : AT) : Prop := ∀ (p : Option Addr) (d a b : ByteArray) (w : World), w.heap[q]? = some (.cells #[.string lo, .string hi] 77) → AIn w t p d →
  Calls Tryz.prog 135 #[.agg #[fF1 q, fF2 q, fF3 q], .agg #[.pointer p, .string d], .agg #[.string a, .string b]] w fun e w' => ∃ v, e = .returned v ∧ Ext w w' ∧ RErr (okT lo hi t a b) v

set_option maxHeartbeats 4000000 in
set_option maxRecDepth 100000 in
theorem partF_empty (lo hi : ByteArray) (q : Nat) : PartF lo hi q .empty := by
  rintro p d a b w hq ⟨rfl, rfl⟩
  have HE := hid (fun (w' : World) (hx : Ext w w') => FaultE_any lo hi a b q w' (hx.row hq))
  have HX := hid ((((Ext.refl w).alloc (.cells #[fF1 q, fF2 q, fF3 q] 174)).alloc (.cells #[.pointer none, .string ⟨#[]⟩] 82)).alloc (.cells #[.string a, .string b] 122))
  clear hq
  go_enter Tryz.func135, Tryz.ntmps135
  go_wp2_with fail
  refine (HE.out _ HX.out).mono ?_
  rintro e w1 ⟨v, rfl, hx, hv⟩
  have HV := hid hv
  have hX1 := HX.out.trans hx
  rcases hv.shape with ⟨_, rfl⟩ | ⟨_, _, t1, u1, rfl⟩
  all_goals
    clear hv
    go_wp2_with fail
    go_ret
    exact ⟨_, rfl, hX1, HV.out⟩

set_option maxHeartbeats 4000000 in
set_option maxRecDepth 100000 in
theorem partF_alone (lo hi : ByteArray) (q : Nat) (e : ByteArray) : PartF lo hi q (.alone e) := by
  rintro p d a b w hq ⟨rfl, rfl, h3⟩
  have hne : d.toList.isEmpty = false := by
    have : beq d ⟨#[]⟩ = false := beq_false.2 (fun h => by rw [h] at h3; cases h3)
    rw [beq_empty] at this; exact this
  have HE := hid (fun (w' : World) (hx : Ext w w') => FaultA_any lo hi a b d q w' (hx.row hq))
  have HX := hid ((((Ext.refl w).alloc (.cells #[fF1 q, fF2 q, fF3 q] 174)).alloc (.cells #[.pointer none, .string d] 82)).alloc (.cells #[.string a, .string b] 122))
  clear hq
  go_enter Tryz.func135, Tryz.ntmps135
  go_wp2_with fail
  refine (HE.out _ HX.out).mono ?_
  rintro e w1 ⟨v, rfl, hx, hv⟩
  have HV := hid hv
  have hX1 := HX.out.trans hx
  rcases hv.shape with ⟨_, rfl⟩ | ⟨_, _, t1, u1, rfl⟩
  all_goals
    clear hv
    go_wp2_with fail
    go_ret
    exact ⟨_, rfl, hX1, HV.out⟩

set_option maxHeartbeats 8000000 in
set_option maxRecDepth 100000 in
theorem partF_node (lo hi : ByteArray) (q : Nat) (x : It) (l r : AT) (hl : PartF lo hi q l) (hr : PartF lo hi q r) : PartF lo hi q (.node x l r) := by
  rintro p d a b w hq ⟨rfl, nb, lp, ls, rp, rs, rfl, hrow, ha1, ha2⟩
  have CL := hid (fun (w' : World) (hx : Ext w w') => hl lp ls a x.key w' (hx.row hq) (ha1.ext hx))
  have CR := hid (fun (w' : World) (hx : Ext w w') => hr rp rs x.key b w' (hx.row hq) (ha2.ext hx))
  have CN := hid (fun (vl vr : Value) (w' : World) (hx : Ext w w') (h1 : RErr (okT lo hi l a x.key) vl) (h2 : RErr (okT lo hi r x.key b) vr) => FaultN_any lo hi a b q x lp rp ls rs nb _ _ vl vr w' (hx.row hq) (hx.row hrow) h1 h2)
  have n0 : w.cell? ⟨nb, 0, none⟩ = some (.string x.key) := cell_of_row _ _ 0 _ _ _ hrow
  have n3 : w.cell? ⟨nb, 3, none⟩ = some (.pointer lp) := cell_of_row _ _ 3 _ _ _ hrow
  have n4 : w.cell? ⟨nb, 4, none⟩ = some (.string ls) := cell_of_row _ _ 4 _ _ _ hrow
  have n5 : w.cell? ⟨nb, 5, none⟩ = some (.pointer rp) := cell_of_row _ _ 5 _ _ _ hrow
  have n6 : w.cell? ⟨nb, 6, none⟩ = some (.string rs) := cell_of_row _ _ 6 _ _ _ hrow
  obtain ⟨W1, hW1⟩ : ∃ z, z = ((w.alloc (.cells #[fF1 q, fF2 q, fF3 q] 174)).alloc (.cells #[.pointer (some ⟨nb, 0, none⟩), .string ⟨#[]⟩] 82)).alloc (.cells #[.string a, .string b] 122) := ⟨_, rfl⟩
  have Q := hid (fun (w' : World) (hx : Ext W1 w') => (by
    rw [hW1] at hx
    obtain ⟨z0, z1, z2, z3, z4, z5, z6, hy⟩ := box3 hx
    exact ⟨z0, z1, z2, z3, z4, z5, z6, hy.keep1 n0, hy.keep1 n3, hy.keep1 n4, hy.keep1 n5, hy.keep1 n6, hy⟩ :
    w'.cell? ⟨w.heap.size, 0, none⟩ = some (fF1 q) ∧ w'.cell? ⟨w.heap.size, 1, none⟩ = some (fF2 q) ∧ w'.cell? ⟨w.heap.size, 2, none⟩ = some (fF3 q) ∧ w'.cell? ⟨w.heap.size + 1, 0, none⟩ = some (.pointer (some ⟨nb, 0, none⟩)) ∧ w'.cell? ⟨w.heap.size + 1, 1, none⟩ = some (.string ⟨#[]⟩) ∧
      w'.cell? ⟨w.heap.size + 2, 0, none⟩ = some (.string a) ∧ w'.cell? ⟨w.heap.size + 2, 1, none⟩ = some (.string b) ∧ w'.cell? ⟨nb, 0, none⟩ = some (.string x.key) ∧ w'.cell? ⟨nb, 3, none⟩ = some (.pointer lp) ∧ w'.cell? ⟨nb, 4, none⟩ = some (.string ls) ∧ w'.cell? ⟨nb, 5, none⟩ = some (.pointer rp) ∧ w'.cell? ⟨nb, 6, none⟩ = some (.string rs) ∧ Ext w w'))
  have HW1 := hid hW1
  have OK := hid (show okT lo hi (.node x l r) a b = (mat lo hi a b && holdB a b x.key && okT lo hi l a x.key && okT lo hi r x.key b) from rfl)
  rw [OK.out]
  generalize okT lo hi l a x.key = okl at *
  generalize okT lo hi r x.key b = okr at *
  clear hq hrow ha1 ha2 hl hr n0 n3 n4 n5 n6 hW1 OK
  go_enter Tryz.func135, Tryz.ntmps135
  go_wp2_with fail
  rw [← HW1.out]
  obtain ⟨z0, z1, z2, z3, z4, z5, z6, y0, y3, y4, y5, y6, hy⟩ := Q.out W1 (Ext.refl _)
  go_cut [7] (fun v wx => RErr okl v ∧ Ext W1 wx)
  case first =>
    go_region_held3 (fun w' => w'.cell? ⟨w.heap.size, 0, none⟩ = some (fF1 q) ∧ w'.cell? ⟨w.heap.size, 1, none⟩ = some (fF2 q) ∧ w'.cell? ⟨w.heap.size, 2, none⟩ = some (fF3 q) ∧ w'.cell? ⟨w.heap.size + 1, 0, none⟩ = some (.pointer (some ⟨nb, 0, none⟩)) ∧
      w'.cell? ⟨w.heap.size + 2, 0, none⟩ = some (.string a) ∧ w'.cell? ⟨w.heap.size + 2, 1, none⟩ = some (.string b) ∧ w'.cell? ⟨nb, 0, none⟩ = some (.string x.key) ∧ w'.cell? ⟨nb, 3, none⟩ = some (.pointer lp) ∧ w'.cell? ⟨nb, 4, none⟩ = some (.string ls)) (go_keep)
      (first
        | (go_at_call 102; refine (Left_any a b x.key _).mono ?_; rintro e w3 ⟨rfl, hx3⟩; have hy3 : Ext W1 w3 := Ext.trans ((Ext.refl _).drew) hx3; obtain ⟨m0, m1, m2, m3, m4, m5, m6, m7, m8, m9, m10, m11, m12⟩ := Q.out _ hy3)
        | (go_at_call 135; refine (CL.out _ m12).mono ?_; rintro e w4 ⟨v4, rfl, hx4, hv4⟩; have hy4 := hy3.trans hx4; obtain ⟨o0, o1, o2, o3, o4, o5, o6, o7, o8, o9, o10, o11, o12⟩ := Q.out _ hy4))
    all_goals (try go_wp2_with fail)
    all_goals go_meet
    all_goals exact ⟨hv4, hy4⟩
  case rest =>
    obtain ⟨W2, rfl⟩ : ∃ z, z = wc := ⟨_, rfl⟩
    obtain ⟨hv7, hx7⟩ := hcut
    have HV7 := hid hv7
    have HX7 := hid hx7
    clear z0 z1 z2 z3 z4 z5 z6 y0 y3 y4 y5 y6 hy
    obtain ⟨z0, z1, z2, z3, z4, z5, z6, y0, y3, y4, y5, y6, hy⟩ := Q.out W2 hx7
    clear hv7 hx7
    go_wp2_with fail
    go_cut [8] (fun v wx => RErr okr v ∧ Ext W1 wx)
    case first =>
      go_region_held3 (fun w' => w'.cell? ⟨w.heap.size, 0, none⟩ = some (fF1 q) ∧ w'.cell? ⟨w.heap.size, 1, none⟩ = some (fF2 q) ∧ w'.cell? ⟨w.heap.size, 2, none⟩ = some (fF3 q) ∧ w'.cell? ⟨w.heap.size + 1, 0, none⟩ = some (.pointer (some ⟨nb, 0, none⟩)) ∧
        w'.cell? ⟨w.heap.size + 2, 0, none⟩ = some (.string a) ∧ w'.cell? ⟨w.heap.size + 2, 1, none⟩ = some (.string b) ∧ w'.cell? ⟨nb, 0, none⟩ = some (.string x.key) ∧ w'.cell? ⟨nb, 5, none⟩ = some (.pointer rp) ∧ w'.cell? ⟨nb, 6, none⟩ = some (.string rs)) (go_keep)
        (first
          | (go_at_call 103; refine (Right_any a b x.key _).mono ?_; rintro e w3 ⟨rfl, hx3⟩; have hy3 : Ext W1 w3 := HX7.out.trans (Ext.trans ((Ext.refl _).drew) hx3); obtain ⟨m0, m1, m2, m3, m4, m5, m6, m7, m8, m9, m10, m11, m12⟩ := Q.out _ hy3)
          | (go_at_call 135; refine (CR.out _ m12).mono ?_; rintro e w4 ⟨v4, rfl, hx4, hv4⟩; have hy4 := hy3.trans hx4; obtain ⟨o0, o1, o2, o3, o4, o5, o6, o7, o8, o9, o10, o11, o12⟩ := Q.out _ hy4))
      all_goals (try go_wp2_with fail)
      all_goals go_meet
      all_goals exact ⟨hv4, hy4⟩
    case rest =>
      obtain ⟨W3, rfl⟩ : ∃ z, z = wc := ⟨_, rfl⟩
      obtain ⟨hv8, hx8⟩ := hcut
      have HV8 := hid hv8
      clear z0 z1 z2 z3 z4 z5 z6 y0 y3 y4 y5 y6 hy
      obtain ⟨z0, z1, z2, z3, z4, z5, z6, y0, y3, y4, y5, y6, hy⟩ := Q.out W3 hx8
      clear hv8 hx8
      go_wp2_with fail
      refine (CN.out _ _ _ hy HV7.out HV8.out).mono ?_
      rintro e w5 ⟨v, rfl, hx5, hv⟩
      have HV := hid hv
      have hX5 := hy.trans hx5
      rcases hv.shape with ⟨_, rfl⟩ | ⟨_, _, t1, u1, rfl⟩
      all_goals
        clear hv
        go_wp2_with fail
        go_ret
        exact ⟨_, rfl, hX5, HV.out⟩
theorem partF_any (lo hi : ByteArray) (q : Nat) : ∀ t, PartF lo hi q t
  | .empty => partF_empty lo hi q
  | .alone e => partF_alone lo hi q e
  | .node x l r => partF_node lo hi q x l r (partF_any lo hi q l) (partF_any lo hi q r)
end Go.Proofs.YtjohkmkgmbihkaaGreatDoor

namespace Go.Proofs.YtjohkmkgmbihkaaGreatDoor
set_option linter.unusedVariables false
open Go.ChangeShapes Go.WideShapes Go.ChangeAt Go.RowKit
/-- Pairs. -/
abbrev Pq := ByteArray × ByteArray
def qc (A : List Pq) : List Value := A.flatMap fun p => [.string p.1, .string p.2]
theorem qc_length (A : List Pq) : (qc A).length = A.length * 2 := by
  induction A with
  | nil => rfl
  | cons x A ih => simp only [qc, List.flatMap_cons, List.length_append, List.length_cons, List.length_nil] at ih ⊢; omega
theorem qc_append (A B : List Pq) : qc (A ++ B) = qc A ++ qc B := by simp [qc]
theorem oneCell_qc (A : List Pq) : ∀ x ∈ qc A, x.oneCell' = true := by
  intro x hx
  simp only [qc, List.mem_flatMap] at hx
  obtain ⟨y, _, hy⟩ := hx
  simp at hy
  rcases hy with rfl | rfl <;> rfl
def ItP (w : World) (v : Value) (A : List Pq) : Prop := Seg w v 2 A.length (qc A)
theorem ItP.ext {w w' : World} {v : Value} {A : List Pq} (h : ItP w v A) (e : Ext w w') : ItP w' v A := Seg.ext h e
theorem ItP.shape {w : World} {v : Value} {A : List Pq} (h : ItP w v A) : ∃ a cap, v = .slice a A.length cap ∧ A.length ≤ cap ∧ cap ≤ maxLen := Seg.shape h
theorem ItP.own {w : World} {base : Nat} {e : TypeId} {v : Value} {A : List Pq} (h : w.ownsRow base e 2 v A.length (qc A)) : ItP w v A := Seg.own h
theorem itP_one (w : World) (x : Pq) (t : TypeId) : ItP (w.alloc (.cells #[.string x.1, .string x.2] t)) (.slice (some ⟨w.heap.size, 0, none⟩) 1 1) [x] := by
  refine ⟨by simp [qc_length], .inr ⟨w.heap.size, 0, 1, rfl, by simp, by simp [maxLen], by simp, ?_⟩⟩
  intro j u hu
  rw [Nat.zero_add, cell_new]
  simpa [qc] using hu
/-- A zero. -/
def zEntryP : Value := .agg #[.string ⟨#[]⟩, .string ⟨#[]⟩]
theorem infoEntryP : ∃ i, Tryz.prog.info? 53 = some i ∧ i.zero = some zEntryP ∧ i.size = 2 ∧ i.bytes = 32 := info_of (by kernel_rfl)
theorem szP (w : World) : (sizeOf (Tryz.prog.elem 27)).run Tryz.prog w = .ok 2 w := by kernel_rfl
theorem cut_hP (a : Option Addr) (n cap i : Nat) (h : i ≤ cap) (w : World) :
    (Instr.slice 27 (.slice a n cap) none (some (.int .i64 (i : Int))) none).run Tryz.prog w = .ok (sliced a 0 i cap 2) w := by
  rw [run_slice_h w 27 a n cap (by kernel_rfl) .i64 i (by omega) (by omega), szP]
  rfl
set_option maxHeartbeats 400000 in
set_option maxRecDepth 100000 in
theorem Grow_anyP (n : Nat) (hn : n ≤ 1000) (w : World) :
    Calls Tryz.prog 116 #[.slice none 0 0, .int .i64 (n : Int)] w fun e w' => ∃ v, e = .returned v ∧ Ext w w' ∧ w'.ownsRow w.heap.size 53 2 v 0 [] := by
  obtain ⟨i, hi, hz, hs, hb⟩ := infoEntryP
  by_cases h0 : n = 0
  · subst h0
    go_enter Tryz.func116, Tryz.ntmps116
    go_wp2_with fail
    go_ret
    exact ⟨_, rfl, Ext.refl _, World.ownsRow_nil _ _ _ _⟩
  · have hr := run_append_zeros (P := Tryz.prog) w 27 3 27 53 i zEntryP Tryz.underlying27 Tryz.underlying3 hi hz n (by omega) (by omega) (by omega) (by omega)
    have hC := grownCap_le_maxLen w n 0 53 (by unfold maxLen; omega)
    have hC2 := grownCap_ge w n 0 53
    generalize grownCap w n 0 53 = C at hr hC hC2
    have hsz : (Builtin.zeroCells zEntryP.cells n ++ Builtin.zeroCells zEntryP.cells (C - n)).size = C * 2 := by
      rw [Array.size_append, size_zeroCells, size_zeroCells]
      have : zEntryP.cells.size = 2 := rfl
      rw [this]; omega
    generalize Builtin.zeroCells zEntryP.cells n ++ Builtin.zeroCells zEntryP.cells (C - n) = Z at hr hsz
    have hown := World.ownsRow_made (base := w.heap.size) (e := 53) (size := 2) w.drew Z C (Nat.le_refl _) hC hsz
    have HO := hid hown
    have HR := hid hr
    have h0' : 0 < n := by omega
    have rs : ∀ w, (Instr.slice 27 (.slice none 0 0) none (some (.int .i64 0)) none).run Tryz.prog w = .ok (.slice none 0 0) w := fun w => cut_hP none 0 0 0 (Nat.le_refl _) w
    have rt : ∀ b w, (Instr.slice 27 (.slice (some ⟨b, 0, none⟩) n C) none (some (.int .i64 0)) none).run Tryz.prog w = .ok (.slice (some ⟨b, 0, none⟩) 0 C) w := fun b w => by
      have := cut_hP (some ⟨b, 0, none⟩) n C 0 (Nat.zero_le _) w
      simpa [sliced, addr_add] using this
    clear hr hi hz hs hb h0 hown hsz hC hC2
    go_enter Tryz.func116, Tryz.ntmps116
    go_wp2_with (at_builtin; refine wpList_append_run rfl _ _ 27 3 rfl (.slice none 0 0) (.int .i64 (n : Int)) rfl rfl _ _ HR.out ?_)
    go_ret
    exact ⟨_, rfl, (Ext.refl w).drew.alloc _, HO.out⟩
/-- What the parts hold. -/
def flatP (ps : List (Value × List Pq)) : List Pq := ps.flatMap (·.2)
theorem flat_takeP (ps : List (Value × List Pq)) (i : Nat) (h : i < ps.length) : flatP (ps.take (i + 1)) = flatP (ps.take i) ++ ps[i].2 := by
  unfold flatP; rw [List.take_succ_eq_append_getElem h, List.flatMap_append]; simp
theorem flat_take_leP (ps : List (Value × List Pq)) (i : Nat) : (flatP (ps.take i)).length ≤ (flatP ps).length := by
  have : flatP ps = flatP (ps.take i) ++ flatP (ps.drop i) := by rw [flatP, flatP, flatP, ← List.flatMap_append, List.take_append_drop]
  rw [this]; simp

set_option maxHeartbeats 800000 in
set_option maxRecDepth 100000 in
theorem Concat_anyP (ps : List (Value × List Pq)) (g cap : Nat) (w : World) (hlen : ps.length ≤ 3) (htot : (flatP ps).length ≤ 401) (hg : g < w.heap.size)
    (hcell : ∀ i (h : i < ps.length), w.cell? ⟨g, i, none⟩ = some ps[i].1) (hits : ∀ i (h : i < ps.length), ItP w ps[i].1 ps[i].2) :
    Calls Tryz.prog 75 #[.slice (some ⟨g, 0, none⟩) ps.length cap] w
      fun e w' => ∃ v, e = .returned v ∧ Ext w w' ∧ w'.ownsRow w.heap.size 53 2 v (flatP ps).length (qc (flatP ps)) := by
  have HC := hid hcell
  have HI := hid hits
  clear hcell hits
  go_enter Tryz.func75, Tryz.ntmps75
  go_wp2_with fail
  go_loop [3, 5, 11] (fun n _ i => ∃ k : Nat, k ≤ ps.length ∧ i = .int .i64 k ∧ n = .int .i64 (flatP (ps.take k)).length) (fun _ _ i => ps.length - (intOf i).toNat)
  case atStart => exact ⟨0, Nat.zero_le _, rfl, rfl⟩
  case round =>
    obtain ⟨k, hk, rfl, rfl⟩ := hrel
    have hle := flat_take_leP ps k
    by_cases hlt : k < ps.length
    · obtain ⟨a, c, e, hc1, hc2⟩ := (HI.out k hlt).shape
      have h1 := HC.out k hlt
      rw [e] at h1
      have ef : (flatP (ps.take (k + 1))).length = (flatP (ps.take k)).length + ps[k].2.length := by rw [flat_takeP ps k hlt, List.length_append]
      have hle2 := flat_take_leP ps (k + 1)
      rw [ef] at hle2
      have HF := hid ef
      clear ef e
      go_wp2_with fail
      go_round
      case rel => exact ⟨k + 1, by omega, by go_num, by rw [HF.out]; go_num⟩
      case measure => simp [intOf]; omega
    · have ek : ps.take k = ps := List.take_of_length_le (by omega)
      have HK := hid ek
      clear ek
      go_wp2_with fail
      rw [HK.out]
      refine (Grow_anyP (flatP ps).length (by omega) _).mono ?_
      rintro e w1 ⟨v, rfl, hx, hown⟩
      go_wp2_with fail
      go_loopw [6, 8, 27] (fun v _ i wr => ∃ k : Nat, k ≤ ps.length ∧ i = .int .i64 k ∧ Ext w wr ∧ wr.ownsRow w.heap.size 53 2 v (flatP (ps.take k)).length (qc (flatP (ps.take k)))) (fun _ _ i _ => ps.length - (intOf i).toNat)
      case atStart => exact ⟨0, Nat.zero_le _, rfl, hx, hown⟩
      case round =>
        obtain ⟨m, hm, rfl, hxr, hownr⟩ := hrel
        have hle' := flat_take_leP ps m
        by_cases hlt' : m < ps.length
        · have h1 : wr.cell? ⟨g, m, none⟩ = some ps[m].1 := (hxr.cell (p := ⟨g, m, none⟩) hg).trans (HC.out m hlt')
          have hle2 := flat_take_leP ps (m + 1)
          rw [flat_takeP ps m hlt', List.length_append] at hle2
          obtain ⟨i, hi, hz, hs, hb⟩ := infoEntryP
          obtain ⟨v', w', hr, hown', hgrow⟩ := append_seg (P := Tryz.prog) wr w.heap.size 27 27 53 i zEntryP 2 32 Tryz.underlying27 hi hz hs hb rfl (by decide) u6 _ _ hownr
            ps[m].1 ps[m].2.length (qc ps[m].2) ((HI.out m hlt').ext hxr) (oneCell_qc _) (by unfold maxLen; omega) (by omega) hxr.size
          have hx' := Ext.grown hxr hownr hgrow
          have ef : flatP (ps.take (m + 1)) = flatP (ps.take m) ++ ps[m].2 := flat_takeP ps m hlt'
          have hown2 : w'.ownsRow w.heap.size 53 2 v' (flatP (ps.take (m + 1))).length (qc (flatP (ps.take (m + 1)))) := by
            rw [ef, List.length_append, qc_append]; exact hown'
          have HR := hid hr
          have HO := hid hown2
          generalize ps[m].1 = pv at HR h1
          clear hi hz hs hb hr hown' hgrow ef hown2 hownr
          go_wp2_with (at_builtin; refine wpList_append_run rfl _ _ 27 27 rfl u6 pv rfl rfl _ _ HR.out ?_)
          go_roundw
          case rel => exact ⟨m + 1, by omega, by go_num, hx', HO.out⟩
          case measure => simp [intOf]; omega
        · have ek' : ps.take m = ps := List.take_of_length_le (by omega)
          rw [ek'] at hownr
          have HO := hid hownr
          clear ek' hownr
          go_wp2_with fail
          go_ret
          exact ⟨_, rfl, hxr, HO.out⟩
theorem Concat3P (w1 : World) (s1 s2 : Value) (A B : List Pq) (x : Pq) (h1 : ItP w1 s1 A) (h2 : ItP w1 s2 B) (hlen : A.length + B.length ≤ 400) :
    Calls Tryz.prog 75 #[.slice (some ⟨w1.heap.size + 1, 0, none⟩) 3 3]
      ((w1.alloc (.cells #[.string x.1, .string x.2] 53)).alloc (.cells #[s1, .slice (some ⟨w1.heap.size, 0, none⟩) 1 1, s2] 27))
      fun e w' => ∃ v, e = .returned v ∧ Ext w1 w' ∧ w'.ownsRow w1.heap.size 53 2 v (A ++ x :: B).length (qc (A ++ x :: B)) := by
  have e2 : (w1.alloc (.cells #[.string x.1, .string x.2] 53)).heap.size = w1.heap.size + 1 := by simp
  have hx1 : Ext w1 (w1.alloc (.cells #[.string x.1, .string x.2] 53)) := (Ext.refl w1).alloc _
  have ho := itP_one w1 x 53
  generalize w1.alloc (.cells #[.string x.1, .string x.2] 53) = w2 at *
  have hx2 := (Ext.refl w2).alloc (.cells #[s1, .slice (some ⟨w1.heap.size, 0, none⟩) 1 1, s2] 27)
  have hc := cell_new w2 #[s1, .slice (some ⟨w1.heap.size, 0, none⟩) 1 1, s2] 27
  have hsz : (w2.alloc (.cells #[s1, .slice (some ⟨w1.heap.size, 0, none⟩) 1 1, s2] 27)).heap.size = w2.heap.size + 1 := by simp
  rw [e2] at hc hsz
  generalize w2.alloc (.cells #[s1, .slice (some ⟨w1.heap.size, 0, none⟩) 1 1, s2] 27) = w3 at *
  have e : flatP [(s1, A), (.slice (some ⟨w1.heap.size, 0, none⟩) 1 1, [x]), (s2, B)] = A ++ x :: B := by simp [flatP]
  have hb := hx2.size
  refine (Concat_anyP [(s1, A), (.slice (some ⟨w1.heap.size, 0, none⟩) 1 1, [x]), (s2, B)] (w1.heap.size + 1) 3 w3 (by simp) (by rw [e]; simp; omega) (by omega) ?_ ?_).mono ?_
  · intro i hi
    rw [hc]
    match i, hi with
    | 0, _ => rfl
    | 1, _ => rfl
    | 2, _ => rfl
  · intro i hi
    match i, hi with
    | 0, _ => exact h1.ext (hx1.trans hx2)
    | 1, _ => exact ho.ext hx2
    | 2, _ => exact h2.ext (hx1.trans hx2)
  · rintro e' w' ⟨v, rfl, hx, hown⟩
    rw [e] at hown
    exact ⟨v, rfl, (hx1.trans hx2).trans hx, owns_base hown (by omega)⟩

theorem Concat2P (w1 : World) (s1 s2 : Value) (A B : List Pq) (h1 : ItP w1 s1 A) (h2 : ItP w1 s2 B) (hlen : A.length + B.length ≤ 400) :
    Calls Tryz.prog 75 #[.slice (some ⟨w1.heap.size, 0, none⟩) 2 2] (w1.alloc (.cells #[s1, s2] 27))
      fun e w' => ∃ v, e = .returned v ∧ Ext w1 w' ∧ w'.ownsRow w1.heap.size 53 2 v (A ++ B).length (qc (A ++ B)) := by
  have hx2 := (Ext.refl w1).alloc (.cells #[s1, s2] 27)
  have hc := cell_new w1 #[s1, s2] 27
  have hsz : (w1.alloc (.cells #[s1, s2] 27)).heap.size = w1.heap.size + 1 := by simp
  generalize w1.alloc (.cells #[s1, s2] 27) = w3 at *
  have e : flatP [(s1, A), (s2, B)] = A ++ B := by simp [flatP]
  refine (Concat_anyP [(s1, A), (s2, B)] w1.heap.size 2 w3 (by simp) (by rw [e]; simp; omega) (by omega) ?_ ?_).mono ?_
  · intro i hi
    rw [hc]
    match i, hi with
    | 0, _ => rfl
    | 1, _ => rfl
  · intro i hi
    match i, hi with
    | 0, _ => exact h1.ext hx2
    | 1, _ => exact h2.ext hx2
  · rintro e' w' ⟨v, rfl, hx, hown⟩
    rw [e] at hown
    exact ⟨v, rfl, hx2.trans hx, owns_base hown (by omega)⟩

/-- Texts. -/
def sc (A : List ByteArray) : List Value := A.map .string
theorem sc_length (A : List ByteArray) : (sc A).length = A.length * 1 := by simp [sc]
theorem sc_append (A B : List ByteArray) : sc (A ++ B) = sc A ++ sc B := by simp [sc]
theorem oneCell_sc (A : List ByteArray) : ∀ x ∈ sc A, x.oneCell' = true := by
  intro x hx
  simp only [sc, List.mem_map] at hx
  obtain ⟨y, _, rfl⟩ := hx
  rfl
def ItS (w : World) (v : Value) (A : List ByteArray) : Prop := Seg w v 1 A.length (sc A)
theorem ItS.ext {w w' : World} {v : Value} {A : List ByteArray} (h : ItS w v A) (e : Ext w w') : ItS w' v A := Seg.ext h e
theorem ItS.shape {w : World} {v : Value} {A : List ByteArray} (h : ItS w v A) : ∃ a cap, v = .slice a A.length cap ∧ A.length ≤ cap ∧ cap ≤ maxLen := Seg.shape h
theorem ItS.own {w : World} {base : Nat} {e : TypeId} {v : Value} {A : List ByteArray} (h : w.ownsRow base e 1 v A.length (sc A)) : ItS w v A := Seg.own h
theorem itS_one (w : World) (x : ByteArray) (t : TypeId) : ItS (w.alloc (.cells #[.string x] t)) (.slice (some ⟨w.heap.size, 0, none⟩) 1 1) [x] := by
  refine ⟨by simp [sc_length], .inr ⟨w.heap.size, 0, 1, rfl, by simp, by simp [maxLen], by simp, ?_⟩⟩
  intro j u hu
  rw [Nat.zero_add, cell_new]
  simpa [sc] using hu
/-- A zero. -/
def zEntryS : Value := .string ⟨#[]⟩
theorem infoEntryS : ∃ i, Tryz.prog.info? 9 = some i ∧ i.zero = some zEntryS ∧ i.size = 1 ∧ i.bytes = 16 := info_of (by kernel_rfl)
theorem szS (w : World) : (sizeOf (Tryz.prog.elem 129)).run Tryz.prog w = .ok 1 w := by kernel_rfl
theorem cut_hS (a : Option Addr) (n cap i : Nat) (h : i ≤ cap) (w : World) :
    (Instr.slice 129 (.slice a n cap) none (some (.int .i64 (i : Int))) none).run Tryz.prog w = .ok (sliced a 0 i cap 1) w := by
  rw [run_slice_h w 129 a n cap (by kernel_rfl) .i64 i (by omega) (by omega), szS]
  rfl
set_option maxHeartbeats 400000 in
set_option maxRecDepth 100000 in
theorem Grow_anyS (n : Nat) (hn : n ≤ 1000) (w : World) :
    Calls Tryz.prog 136 #[.slice none 0 0, .int .i64 (n : Int)] w fun e w' => ∃ v, e = .returned v ∧ Ext w w' ∧ w'.ownsRow w.heap.size 9 1 v 0 [] := by
  obtain ⟨i, hi, hz, hs, hb⟩ := infoEntryS
  by_cases h0 : n = 0
  · subst h0
    go_enter Tryz.func136, Tryz.ntmps136
    go_wp2_with fail
    go_ret
    exact ⟨_, rfl, Ext.refl _, World.ownsRow_nil _ _ _ _⟩
  · have hr := run_append_zeros (P := Tryz.prog) w 129 3 129 9 i zEntryS Tryz.underlying129 Tryz.underlying3 hi hz n (by omega) (by omega) (by omega) (by omega)
    have hC := grownCap_le_maxLen w n 0 9 (by unfold maxLen; omega)
    have hC2 := grownCap_ge w n 0 9
    generalize grownCap w n 0 9 = C at hr hC hC2
    have hsz : (Builtin.zeroCells zEntryS.cells n ++ Builtin.zeroCells zEntryS.cells (C - n)).size = C * 1 := by
      rw [Array.size_append, size_zeroCells, size_zeroCells]
      have : zEntryS.cells.size = 1 := rfl
      rw [this]; omega
    generalize Builtin.zeroCells zEntryS.cells n ++ Builtin.zeroCells zEntryS.cells (C - n) = Z at hr hsz
    have hown := World.ownsRow_made (base := w.heap.size) (e := 9) (size := 1) w.drew Z C (Nat.le_refl _) hC hsz
    have HO := hid hown
    have HR := hid hr
    have h0' : 0 < n := by omega
    have rs : ∀ w, (Instr.slice 129 (.slice none 0 0) none (some (.int .i64 0)) none).run Tryz.prog w = .ok (.slice none 0 0) w := fun w => cut_hS none 0 0 0 (Nat.le_refl _) w
    have rt : ∀ b w, (Instr.slice 129 (.slice (some ⟨b, 0, none⟩) n C) none (some (.int .i64 0)) none).run Tryz.prog w = .ok (.slice (some ⟨b, 0, none⟩) 0 C) w := fun b w => by
      have := cut_hS (some ⟨b, 0, none⟩) n C 0 (Nat.zero_le _) w
      simpa [sliced, addr_add] using this
    clear hr hi hz hs hb h0 hown hsz hC hC2
    go_enter Tryz.func136, Tryz.ntmps136
    go_wp2_with (at_builtin; refine wpList_append_run rfl _ _ 129 3 rfl (.slice none 0 0) (.int .i64 (n : Int)) rfl rfl _ _ HR.out ?_)
    go_ret
    exact ⟨_, rfl, (Ext.refl w).drew.alloc _, HO.out⟩
/-- What the parts hold. -/
def flatS (ps : List (Value × List ByteArray)) : List ByteArray := ps.flatMap (·.2)
theorem flat_takeS (ps : List (Value × List ByteArray)) (i : Nat) (h : i < ps.length) : flatS (ps.take (i + 1)) = flatS (ps.take i) ++ ps[i].2 := by
  unfold flatS; rw [List.take_succ_eq_append_getElem h, List.flatMap_append]; simp
theorem flat_take_leS (ps : List (Value × List ByteArray)) (i : Nat) : (flatS (ps.take i)).length ≤ (flatS ps).length := by
  have : flatS ps = flatS (ps.take i) ++ flatS (ps.drop i) := by rw [flatS, flatS, flatS, ← List.flatMap_append, List.take_append_drop]
  rw [this]; simp

set_option maxHeartbeats 800000 in
set_option maxRecDepth 100000 in
theorem Concat_anyS (ps : List (Value × List ByteArray)) (g cap : Nat) (w : World) (hlen : ps.length ≤ 3) (htot : (flatS ps).length ≤ 401) (hg : g < w.heap.size)
    (hcell : ∀ i (h : i < ps.length), w.cell? ⟨g, i, none⟩ = some ps[i].1) (hits : ∀ i (h : i < ps.length), ItS w ps[i].1 ps[i].2) :
    Calls Tryz.prog 112 #[.slice (some ⟨g, 0, none⟩) ps.length cap] w
      fun e w' => ∃ v, e = .returned v ∧ Ext w w' ∧ w'.ownsRow w.heap.size 9 1 v (flatS ps).length (sc (flatS ps)) := by
  have HC := hid hcell
  have HI := hid hits
  clear hcell hits
  go_enter Tryz.func112, Tryz.ntmps112
  go_wp2_with fail
  go_loop [3, 5, 11] (fun n _ i => ∃ k : Nat, k ≤ ps.length ∧ i = .int .i64 k ∧ n = .int .i64 (flatS (ps.take k)).length) (fun _ _ i => ps.length - (intOf i).toNat)
  case atStart => exact ⟨0, Nat.zero_le _, rfl, rfl⟩
  case round =>
    obtain ⟨k, hk, rfl, rfl⟩ := hrel
    have hle := flat_take_leS ps k
    by_cases hlt : k < ps.length
    · obtain ⟨a, c, e, hc1, hc2⟩ := (HI.out k hlt).shape
      have h1 := HC.out k hlt
      rw [e] at h1
      have ef : (flatS (ps.take (k + 1))).length = (flatS (ps.take k)).length + ps[k].2.length := by rw [flat_takeS ps k hlt, List.length_append]
      have hle2 := flat_take_leS ps (k + 1)
      rw [ef] at hle2
      have HF := hid ef
      clear ef e
      go_wp2_with fail
      go_round
      case rel => exact ⟨k + 1, by omega, by go_num, by rw [HF.out]; go_num⟩
      case measure => simp [intOf]; omega
    · have ek : ps.take k = ps := List.take_of_length_le (by omega)
      have HK := hid ek
      clear ek
      go_wp2_with fail
      rw [HK.out]
      refine (Grow_anyS (flatS ps).length (by omega) _).mono ?_
      rintro e w1 ⟨v, rfl, hx, hown⟩
      go_wp2_with fail
      go_loopw [6, 8, 27] (fun v _ i wr => ∃ k : Nat, k ≤ ps.length ∧ i = .int .i64 k ∧ Ext w wr ∧ wr.ownsRow w.heap.size 9 1 v (flatS (ps.take k)).length (sc (flatS (ps.take k)))) (fun _ _ i _ => ps.length - (intOf i).toNat)
      case atStart => exact ⟨0, Nat.zero_le _, rfl, hx, hown⟩
      case round =>
        obtain ⟨m, hm, rfl, hxr, hownr⟩ := hrel
        have hle' := flat_take_leS ps m
        by_cases hlt' : m < ps.length
        · have h1 : wr.cell? ⟨g, m, none⟩ = some ps[m].1 := (hxr.cell (p := ⟨g, m, none⟩) hg).trans (HC.out m hlt')
          have hle2 := flat_take_leS ps (m + 1)
          rw [flat_takeS ps m hlt', List.length_append] at hle2
          obtain ⟨i, hi, hz, hs, hb⟩ := infoEntryS
          obtain ⟨v', w', hr, hown', hgrow⟩ := append_seg (P := Tryz.prog) wr w.heap.size 129 129 9 i zEntryS 1 16 Tryz.underlying129 hi hz hs hb rfl (by decide) u6 _ _ hownr
            ps[m].1 ps[m].2.length (sc ps[m].2) ((HI.out m hlt').ext hxr) (oneCell_sc _) (by unfold maxLen; omega) (by omega) hxr.size
          have hx' := Ext.grown hxr hownr hgrow
          have ef : flatS (ps.take (m + 1)) = flatS (ps.take m) ++ ps[m].2 := flat_takeS ps m hlt'
          have hown2 : w'.ownsRow w.heap.size 9 1 v' (flatS (ps.take (m + 1))).length (sc (flatS (ps.take (m + 1)))) := by
            rw [ef, List.length_append, sc_append]; exact hown'
          have HR := hid hr
          have HO := hid hown2
          generalize ps[m].1 = pv at HR h1
          clear hi hz hs hb hr hown' hgrow ef hown2 hownr
          go_wp2_with (at_builtin; refine wpList_append_run rfl _ _ 129 129 rfl u6 pv rfl rfl _ _ HR.out ?_)
          go_roundw
          case rel => exact ⟨m + 1, by omega, by go_num, hx', HO.out⟩
          case measure => simp [intOf]; omega
        · have ek' : ps.take m = ps := List.take_of_length_le (by omega)
          rw [ek'] at hownr
          have HO := hid hownr
          clear ek' hownr
          go_wp2_with fail
          go_ret
          exact ⟨_, rfl, hxr, HO.out⟩
theorem Concat3S (w1 : World) (s1 s2 : Value) (A B : List ByteArray) (x : ByteArray) (h1 : ItS w1 s1 A) (h2 : ItS w1 s2 B) (hlen : A.length + B.length ≤ 400) :
    Calls Tryz.prog 112 #[.slice (some ⟨w1.heap.size + 1, 0, none⟩) 3 3]
      ((w1.alloc (.cells #[.string x] 9)).alloc (.cells #[s1, .slice (some ⟨w1.heap.size, 0, none⟩) 1 1, s2] 129))
      fun e w' => ∃ v, e = .returned v ∧ Ext w1 w' ∧ w'.ownsRow w1.heap.size 9 1 v (A ++ x :: B).length (sc (A ++ x :: B)) := by
  have e2 : (w1.alloc (.cells #[.string x] 9)).heap.size = w1.heap.size + 1 := by simp
  have hx1 : Ext w1 (w1.alloc (.cells #[.string x] 9)) := (Ext.refl w1).alloc _
  have ho := itS_one w1 x 9
  generalize w1.alloc (.cells #[.string x] 9) = w2 at *
  have hx2 := (Ext.refl w2).alloc (.cells #[s1, .slice (some ⟨w1.heap.size, 0, none⟩) 1 1, s2] 129)
  have hc := cell_new w2 #[s1, .slice (some ⟨w1.heap.size, 0, none⟩) 1 1, s2] 129
  have hsz : (w2.alloc (.cells #[s1, .slice (some ⟨w1.heap.size, 0, none⟩) 1 1, s2] 129)).heap.size = w2.heap.size + 1 := by simp
  rw [e2] at hc hsz
  generalize w2.alloc (.cells #[s1, .slice (some ⟨w1.heap.size, 0, none⟩) 1 1, s2] 129) = w3 at *
  have e : flatS [(s1, A), (.slice (some ⟨w1.heap.size, 0, none⟩) 1 1, [x]), (s2, B)] = A ++ x :: B := by simp [flatS]
  have hb := hx2.size
  refine (Concat_anyS [(s1, A), (.slice (some ⟨w1.heap.size, 0, none⟩) 1 1, [x]), (s2, B)] (w1.heap.size + 1) 3 w3 (by simp) (by rw [e]; simp; omega) (by omega) ?_ ?_).mono ?_
  · intro i hi
    rw [hc]
    match i, hi with
    | 0, _ => rfl
    | 1, _ => rfl
    | 2, _ => rfl
  · intro i hi
    match i, hi with
    | 0, _ => exact h1.ext (hx1.trans hx2)
    | 1, _ => exact ho.ext hx2
    | 2, _ => exact h2.ext (hx1.trans hx2)
  · rintro e' w' ⟨v, rfl, hx, hown⟩
    rw [e] at hown
    exact ⟨v, rfl, (hx1.trans hx2).trans hx, owns_base hown (by omega)⟩

theorem Concat2S (w1 : World) (s1 s2 : Value) (A B : List ByteArray) (h1 : ItS w1 s1 A) (h2 : ItS w1 s2 B) (hlen : A.length + B.length ≤ 400) :
    Calls Tryz.prog 112 #[.slice (some ⟨w1.heap.size, 0, none⟩) 2 2] (w1.alloc (.cells #[s1, s2] 129))
      fun e w' => ∃ v, e = .returned v ∧ Ext w1 w' ∧ w'.ownsRow w1.heap.size 9 1 v (A ++ B).length (sc (A ++ B)) := by
  have hx2 := (Ext.refl w1).alloc (.cells #[s1, s2] 129)
  have hc := cell_new w1 #[s1, s2] 129
  have hsz : (w1.alloc (.cells #[s1, s2] 129)).heap.size = w1.heap.size + 1 := by simp
  generalize w1.alloc (.cells #[s1, s2] 129) = w3 at *
  have e : flatS [(s1, A), (s2, B)] = A ++ B := by simp [flatS]
  refine (Concat_anyS [(s1, A), (s2, B)] w1.heap.size 2 w3 (by simp) (by rw [e]; simp; omega) (by omega) ?_ ?_).mono ?_
  · intro i hi
    rw [hc]
    match i, hi with
    | 0, _ => rfl
    | 1, _ => rfl
  · intro i hi
    match i, hi with
    | 0, _ => exact h1.ext hx2
    | 1, _ => exact h2.ext hx2
  · rintro e' w' ⟨v, rfl, hx, hown⟩
    rw [e] at hown
    exact ⟨v, rfl, hx2.trans hx, owns_base hown (by omega)⟩

end Go.Proofs.YtjohkmkgmbihkaaGreatDoor

namespace Go.Proofs.YtjohkmkgmbihkaaGreatDoor
open Go.ChangeShapes Go.WideShapes Go.ChangeAt Go.RowKit
set_option linter.unusedVariables false
/-- The pairs that are asked for. -/
def prsN (lo hi : ByteArray) (x : It) (A B : List Pq) : List Pq := if askB lo hi x.key then A ++ (x.key, x.val) :: B else A ++ B
def prsT (lo hi : ByteArray) : AT → List Pq
  | .empty => []
  | .alone _ => []
  | .node x l r => prsN lo hi x (prsT lo hi l) (prsT lo hi r)
/-- How many nodes. -/
def cnt : AT → Nat
  | .empty => 0
  | .alone _ => 0
  | .node _ l r => cnt l + cnt r + 1
theorem prsT_len (lo hi : ByteArray) : ∀ t, (prsT lo hi t).length ≤ cnt t
  | .empty => by simp [prsT, cnt]
  | .alone _ => by simp [prsT, cnt]
  | .node x l r => by
    have h1 := prsT_len lo hi l
    have h2 := prsT_len lo hi r
    unfold prsT prsN cnt
    split <;> simp <;> omega
theorem n_cells {w : World} {nb : Nat} {x : It} {lp rp : Option Addr} {ls rs : ByteArray} (h : w.heap[nb]? = some (nodeO x lp ls rp rs)) :
    w.cell? ⟨nb, 0, none⟩ = some (.string x.key) ∧ w.cell? ⟨nb, 1, none⟩ = some (.string x.val) ∧ w.cell? ⟨nb, 2, none⟩ = some (.int .i64 x.h) ∧ w.cell? ⟨nb, 3, none⟩ = some (.pointer lp) ∧ w.cell? ⟨nb, 4, none⟩ = some (.string ls) ∧ w.cell? ⟨nb, 5, none⟩ = some (.pointer rp) ∧ w.cell? ⟨nb, 6, none⟩ = some (.string rs) :=
  ⟨cell_of_row _ _ 0 _ _ _ h, cell_of_row _ _ 1 _ _ _ h, cell_of_row _ _ 2 _ _ _ h, cell_of_row _ _ 3 _ _ _ h, cell_of_row _ _ 4 _ _ _ h, cell_of_row _ _ 5 _ _ _ h, cell_of_row _ _ 6 _ _ _ h⟩

set_option maxHeartbeats 4000000 in
set_option maxRecDepth 100000 in
theorem PairsN_any (lo hi a b : ByteArray) (q : Nat) (x : It) (lp rp : Option Addr) (ls rs : ByteArray) (nb : Nat) (A B : List Pq) (vl vr : Value) (w : World) (hq : w.heap[q]? = some (.cells #[.string lo, .string hi] 77))
    (hn : w.heap[nb]? = some (nodeO x lp ls rp rs)) (hl : ItP w vl A) (hr : ItP w vr B) (hlen : A.length + B.length ≤ 400) :
    Calls Tryz.prog 73 #[.pointer (some ⟨nb, 0, none⟩), .agg #[.string a, .string b], vl, vr, .pointer (some ⟨q, 0, none⟩)] w fun e w' => ∃ v, e = .returned v ∧ Ext w w' ∧ w'.ownsRow w.heap.size 53 2 v (prsN lo hi x A B).length (qc (prsN lo hi x A B)) := by
  obtain ⟨a1, m1, e1, _⟩ := hl.shape
  obtain ⟨a2, m2, e2, _⟩ := hr.shape
  subst e1 e2
  have hx0 := (Ext.refl w).alloc (.cells #[.string a, .string b] 122)
  obtain ⟨n0, n1, n2, _⟩ := n_cells (hx0.row hn)
  obtain ⟨q0, q1⟩ := q_cells (hx0.row hq)
  have HL := hid hl
  have HR := hid hr
  have HX0 := hid hx0
  clear hn hq hl hr hx0
  unfold prsN
  cases ha : askB lo hi x.key with
  | false =>
    rw [if_neg (by simp)]
    have HA := hid ha
    clear ha
    generalize hW0 : w.alloc (.cells #[.string a, .string b] 122) = W0 at *
    go_enter Tryz.func73, Tryz.ntmps73
    go_wp2_with fail
    go_region_held3 (fun w' => w'.cell? ⟨nb, 0, none⟩ = some (.string x.key) ∧ w'.cell? ⟨q, 0, none⟩ = some (.string lo) ∧ w'.cell? ⟨q, 1, none⟩ = some (.string hi)) (go_keep)
      (first
        | (go_at_call 74; refine (AsksFor_any lo hi x.key _).mono ?_; rintro e w2 ⟨rfl, hx2⟩; rw [HA.out]; have hy2 : Ext W0 w2 := (Ext.trans ((Ext.refl _).drew) hx2); have k3 := hy2.keep1 n0; have k4 := hy2.keep1 q0; have k5 := hy2.keep1 q1))
    go_wp2_with fail
    refine (Concat2P w2 _ _ A B (HL.out.ext (HX0.out.trans hy2)) (HR.out.ext (HX0.out.trans hy2)) hlen).mono ?_
    rintro e w3 ⟨v, rfl, hx3, ho⟩
    have hz := (HX0.out.trans hy2).size
    have HO := hid ho
    clear ho
    go_wp2_with fail
    go_ret
    exact ⟨_, rfl, (HX0.out.trans hy2).trans hx3, owns_base HO.out hz⟩
  | true =>
    rw [if_pos rfl]
    have HA := hid ha
    clear ha
    generalize hW0 : w.alloc (.cells #[.string a, .string b] 122) = W0 at *
    go_enter Tryz.func73, Tryz.ntmps73
    go_wp2_with fail
    go_region_held3 (fun w' => w'.cell? ⟨nb, 0, none⟩ = some (.string x.key) ∧ w'.cell? ⟨q, 0, none⟩ = some (.string lo) ∧ w'.cell? ⟨q, 1, none⟩ = some (.string hi)) (go_keep)
      (first
        | (go_at_call 74; refine (AsksFor_any lo hi x.key _).mono ?_; rintro e w2 ⟨rfl, hx2⟩; rw [HA.out]; have hy2 : Ext W0 w2 := (Ext.trans ((Ext.refl _).drew) hx2); have k3 := hy2.keep1 n0; have k4 := hy2.keep1 q0; have k5 := hy2.keep1 q1))
    have k6 := hy2.keep1 n1
    have k7 := hy2.keep1 n2
    go_wp2_with fail
    refine (Pair_any x _).mono ?_
    rintro e w3 ⟨rfl, hx3⟩
    have hy3 := (HX0.out.trans hy2).trans hx3
    have HL3 := hid (HL.out.ext hy3)
    have HR3 := hid (HR.out.ext hy3)
    go_wp2_with fail
    refine (Concat3P w3 _ _ A B (x.key, x.val) HL3.out HR3.out hlen).mono ?_
    rintro e w4 ⟨v, rfl, hx4, ho⟩
    have hz := hy3.size
    have HO := hid ho
    clear ho
    go_wp2_with fail
    go_ret
    exact ⟨_, rfl, hy3.trans hx4, owns_base HO.out hz⟩
end Go.Proofs.YtjohkmkgmbihkaaGreatDoor

namespace Go.Proofs.YtjohkmkgmbihkaaGreatDoor
open Go.ChangeShapes Go.WideShapes Go.ChangeAt Go.RowKit
set_option linter.unusedVariables false

abbrev fP1 (q : Nat) : Value := .func (.func 73) #[] #[.pointer (some ⟨q, 0, none⟩)]
abbrev fP2 (q : Nat) : Value := .func (.func 77) #[] #[]
abbrev fP3 (q : Nat) : Value := .func (.func 78) #[] #[]
def ROwn (w0 w : World) (A : List Pq) (v : Value) : Prop := w.ownsRow w0.heap.size 53 2 v A.length (qc A)
theorem ROwn.it {w0 w : World} {A : List Pq} {v : Value} (h : ROwn w0 w A v) : ItP w v A := ItP.own h
theorem ROwn.shape {w0 w : World} {A : List Pq} {v : Value} (h : ROwn w0 w A v) : ∃ a c, v = .slice a A.length c := by
  obtain ⟨a, c, e, _⟩ := h.it.shape
  exact ⟨a, c, e⟩
set_option maxRecDepth 100000 in
theorem PairsE_any (a b : ByteArray) (w : World) : Calls Tryz.prog 77 #[.agg #[.string a, .string b]] w fun e w' => e = .returned (.slice none 0 0) ∧ Ext w w' := by
  go_enter Tryz.func77, Tryz.ntmps77
  go_wp2_with fail
  go_ret
  exact ⟨rfl, (Ext.refl w).alloc _⟩
set_option maxRecDepth 100000 in
theorem PairsA_any (d a b : ByteArray) (w : World) : Calls Tryz.prog 78 #[.string d, .agg #[.string a, .string b]] w fun e w' => e = .returned (.slice none 0 0) ∧ Ext w w' := by
  go_enter Tryz.func78, Tryz.ntmps78
  go_wp2_with fail
  go_ret
  exact ⟨rfl, (Ext.refl w).alloc _⟩
/-- What is said of a tree's pairs. -/
def PartP (lo hi : ByteArray) (q : Nat) (t : AT) : Prop := ∀ (p : Option Addr) (d a b : ByteArray) (w : World), cnt t ≤ 50 → w.heap[q]? = some (.cells #[.string lo, .string hi] 77) → AIn w t p d →
  Calls Tryz.prog 117 #[.agg #[fP1 q, fP2 q, fP3 q], .agg #[.pointer p, .string d], .agg #[.string a, .string b]] w fun e w' => ∃ v, e = .returned v ∧ Ext w w' ∧ ROwn w w' (prsT lo hi t) v

set_option maxHeartbeats 4000000 in
set_option maxRecDepth 100000 in
theorem partP_empty (lo hi : ByteArray) (q : Nat) : PartP lo hi q .empty := by
  rintro p d a b w hcnt hq ⟨rfl, rfl⟩
  have HE := hid (fun (w' : World) (hx : Ext w w') => PairsE_any a b w')
  have HX := hid ((((Ext.refl w).alloc (.cells #[fP1 q, fP2 q, fP3 q] 141)).alloc (.cells #[.pointer none, .string ⟨#[]⟩] 82)).alloc (.cells #[.string a, .string b] 122))
  clear hq
  go_enter Tryz.func117, Tryz.ntmps117
  go_wp2_with fail
  refine (HE.out _ HX.out).mono ?_
  rintro e w1 ⟨rfl, hx⟩
  have hX1 := HX.out.trans hx
  go_wp2_with fail
  go_ret
  exact ⟨_, rfl, hX1, World.ownsRow_nil _ _ _ _⟩

set_option maxHeartbeats 4000000 in
set_option maxRecDepth 100000 in
theorem partP_alone (lo hi : ByteArray) (q : Nat) (e : ByteArray) : PartP lo hi q (.alone e) := by
  rintro p d a b w hcnt hq ⟨rfl, rfl, h3⟩
  have hne : d.toList.isEmpty = false := by
    have : beq d ⟨#[]⟩ = false := beq_false.2 (fun h => by rw [h] at h3; cases h3)
    rw [beq_empty] at this; exact this
  have HE := hid (fun (w' : World) (hx : Ext w w') => PairsA_any d a b w')
  have HX := hid ((((Ext.refl w).alloc (.cells #[fP1 q, fP2 q, fP3 q] 141)).alloc (.cells #[.pointer none, .string d] 82)).alloc (.cells #[.string a, .string b] 122))
  clear hq
  go_enter Tryz.func117, Tryz.ntmps117
  go_wp2_with fail
  refine (HE.out _ HX.out).mono ?_
  rintro e w1 ⟨rfl, hx⟩
  have hX1 := HX.out.trans hx
  go_wp2_with fail
  go_ret
  exact ⟨_, rfl, hX1, World.ownsRow_nil _ _ _ _⟩

set_option maxHeartbeats 8000000 in
set_option maxRecDepth 100000 in
theorem partP_node (lo hi : ByteArray) (q : Nat) (x : It) (l r : AT) (hl : PartP lo hi q l) (hr : PartP lo hi q r) : PartP lo hi q (.node x l r) := by
  rintro p d a b w hcnt hq ⟨rfl, nb, lp, ls, rp, rs, rfl, hrow, ha1, ha2⟩
  have hc : cnt l + cnt r + 1 ≤ 50 := hcnt
  have CL := hid (fun (w' : World) (hx : Ext w w') => hl lp ls a x.key w' (by omega) (hx.row hq) (ha1.ext hx))
  have CR := hid (fun (w' : World) (hx : Ext w w') => hr rp rs x.key b w' (by omega) (hx.row hq) (ha2.ext hx))
  have hll : (prsT lo hi l).length + (prsT lo hi r).length ≤ 400 := by
    have h1 := prsT_len lo hi l
    have h2 := prsT_len lo hi r
    omega
  have CN := hid (fun (vl vr : Value) (w' : World) (hx : Ext w w') (h1 : ItP w' vl (prsT lo hi l)) (h2 : ItP w' vr (prsT lo hi r)) => PairsN_any lo hi a b q x lp rp ls rs nb _ _ vl vr w' (hx.row hq) (hx.row hrow) h1 h2 hll)
  have n0 : w.cell? ⟨nb, 0, none⟩ = some (.string x.key) := cell_of_row _ _ 0 _ _ _ hrow
  have n3 : w.cell? ⟨nb, 3, none⟩ = some (.pointer lp) := cell_of_row _ _ 3 _ _ _ hrow
  have n4 : w.cell? ⟨nb, 4, none⟩ = some (.string ls) := cell_of_row _ _ 4 _ _ _ hrow
  have n5 : w.cell? ⟨nb, 5, none⟩ = some (.pointer rp) := cell_of_row _ _ 5 _ _ _ hrow
  have n6 : w.cell? ⟨nb, 6, none⟩ = some (.string rs) := cell_of_row _ _ 6 _ _ _ hrow
  obtain ⟨W1, hW1⟩ : ∃ z, z = ((w.alloc (.cells #[fP1 q, fP2 q, fP3 q] 141)).alloc (.cells #[.pointer (some ⟨nb, 0, none⟩), .string ⟨#[]⟩] 82)).alloc (.cells #[.string a, .string b] 122) := ⟨_, rfl⟩
  have Q := hid (fun (w' : World) (hx : Ext W1 w') => (by
    rw [hW1] at hx
    obtain ⟨z0, z1, z2, z3, z4, z5, z6, hy⟩ := box3 hx
    exact ⟨z0, z1, z2, z3, z4, z5, z6, hy.keep1 n0, hy.keep1 n3, hy.keep1 n4, hy.keep1 n5, hy.keep1 n6, hy⟩ :
    w'.cell? ⟨w.heap.size, 0, none⟩ = some (fP1 q) ∧ w'.cell? ⟨w.heap.size, 1, none⟩ = some (fP2 q) ∧ w'.cell? ⟨w.heap.size, 2, none⟩ = some (fP3 q) ∧ w'.cell? ⟨w.heap.size + 1, 0, none⟩ = some (.pointer (some ⟨nb, 0, none⟩)) ∧ w'.cell? ⟨w.heap.size + 1, 1, none⟩ = some (.string ⟨#[]⟩) ∧
      w'.cell? ⟨w.heap.size + 2, 0, none⟩ = some (.string a) ∧ w'.cell? ⟨w.heap.size + 2, 1, none⟩ = some (.string b) ∧ w'.cell? ⟨nb, 0, none⟩ = some (.string x.key) ∧ w'.cell? ⟨nb, 3, none⟩ = some (.pointer lp) ∧ w'.cell? ⟨nb, 4, none⟩ = some (.string ls) ∧ w'.cell? ⟨nb, 5, none⟩ = some (.pointer rp) ∧ w'.cell? ⟨nb, 6, none⟩ = some (.string rs) ∧ Ext w w'))
  have HW1 := hid hW1
  rw [show prsT lo hi (.node x l r) = prsN lo hi x (prsT lo hi l) (prsT lo hi r) from rfl]
  generalize prsT lo hi l = okl at *
  generalize prsT lo hi r = okr at *
  clear hq hrow ha1 ha2 hl hr n0 n3 n4 n5 n6 hW1 hcnt hll hc
  go_enter Tryz.func117, Tryz.ntmps117
  go_wp2_with fail
  rw [← HW1.out]
  obtain ⟨z0, z1, z2, z3, z4, z5, z6, y0, y3, y4, y5, y6, hy⟩ := Q.out W1 (Ext.refl _)
  go_cut [7] (fun v wx => ItP wx v okl ∧ Ext W1 wx)
  case first =>
    go_region_held3 (fun w' => w'.cell? ⟨w.heap.size, 0, none⟩ = some (fP1 q) ∧ w'.cell? ⟨w.heap.size, 1, none⟩ = some (fP2 q) ∧ w'.cell? ⟨w.heap.size, 2, none⟩ = some (fP3 q) ∧ w'.cell? ⟨w.heap.size + 1, 0, none⟩ = some (.pointer (some ⟨nb, 0, none⟩)) ∧
      w'.cell? ⟨w.heap.size + 2, 0, none⟩ = some (.string a) ∧ w'.cell? ⟨w.heap.size + 2, 1, none⟩ = some (.string b) ∧ w'.cell? ⟨nb, 0, none⟩ = some (.string x.key) ∧ w'.cell? ⟨nb, 3, none⟩ = some (.pointer lp) ∧ w'.cell? ⟨nb, 4, none⟩ = some (.string ls)) (go_keep)
      (first
        | (go_at_call 102; refine (Left_any a b x.key _).mono ?_; rintro e w3 ⟨rfl, hx3⟩; have hy3 : Ext W1 w3 := Ext.trans ((Ext.refl _).drew) hx3; obtain ⟨m0, m1, m2, m3, m4, m5, m6, m7, m8, m9, m10, m11, m12⟩ := Q.out _ hy3)
        | (go_at_call 117; refine (CL.out _ m12).mono ?_; rintro e w4 ⟨v4, rfl, hx4, hv4⟩; have hy4 := hy3.trans hx4; obtain ⟨o0, o1, o2, o3, o4, o5, o6, o7, o8, o9, o10, o11, o12⟩ := Q.out _ hy4))
    all_goals (try go_wp2_with fail)
    all_goals go_meet
    all_goals exact ⟨hv4.it, hy4⟩
  case rest =>
    obtain ⟨W2, rfl⟩ : ∃ z, z = wc := ⟨_, rfl⟩
    obtain ⟨hv7, hx7⟩ := hcut
    have HV7 := hid hv7
    have HX7 := hid hx7
    clear z0 z1 z2 z3 z4 z5 z6 y0 y3 y4 y5 y6 hy
    obtain ⟨z0, z1, z2, z3, z4, z5, z6, y0, y3, y4, y5, y6, hy⟩ := Q.out W2 hx7
    clear hv7 hx7
    go_wp2_with fail
    go_cut [8] (fun v wx => ItP wx v okr ∧ Ext W2 wx)
    case first =>
      go_region_held3 (fun w' => w'.cell? ⟨w.heap.size, 0, none⟩ = some (fP1 q) ∧ w'.cell? ⟨w.heap.size, 1, none⟩ = some (fP2 q) ∧ w'.cell? ⟨w.heap.size, 2, none⟩ = some (fP3 q) ∧ w'.cell? ⟨w.heap.size + 1, 0, none⟩ = some (.pointer (some ⟨nb, 0, none⟩)) ∧
        w'.cell? ⟨w.heap.size + 2, 0, none⟩ = some (.string a) ∧ w'.cell? ⟨w.heap.size + 2, 1, none⟩ = some (.string b) ∧ w'.cell? ⟨nb, 0, none⟩ = some (.string x.key) ∧ w'.cell? ⟨nb, 5, none⟩ = some (.pointer rp) ∧ w'.cell? ⟨nb, 6, none⟩ = some (.string rs)) (go_keep)
        (first
          | (go_at_call 103; refine (Right_any a b x.key _).mono ?_; rintro e w3 ⟨rfl, hx3⟩; have hq3 : Ext W2 w3 := Ext.trans ((Ext.refl _).drew) hx3; have hy3 : Ext W1 w3 := HX7.out.trans hq3; obtain ⟨m0, m1, m2, m3, m4, m5, m6, m7, m8, m9, m10, m11, m12⟩ := Q.out _ hy3)
          | (go_at_call 117; refine (CR.out _ m12).mono ?_; rintro e w4 ⟨v4, rfl, hx4, hv4⟩; have hq4 := hq3.trans hx4; have hy4 := hy3.trans hx4; obtain ⟨o0, o1, o2, o3, o4, o5, o6, o7, o8, o9, o10, o11, o12⟩ := Q.out _ hy4))
      all_goals (try go_wp2_with fail)
      all_goals go_meet
      all_goals exact ⟨hv4.it, hq4⟩
    case rest =>
      obtain ⟨W3, rfl⟩ : ∃ z, z = wc := ⟨_, rfl⟩
      obtain ⟨hv8, hq8⟩ := hcut
      have hx8 := HX7.out.trans hq8
      have HV8 := hid hv8
      have HV9 := hid (HV7.out.ext hq8)
      clear z0 z1 z2 z3 z4 z5 z6 y0 y3 y4 y5 y6 hy
      obtain ⟨z0, z1, z2, z3, z4, z5, z6, y0, y3, y4, y5, y6, hy⟩ := Q.out W3 hx8
      clear hv8 hx8 hq8
      go_wp2_with fail
      refine (CN.out _ _ _ hy HV9.out HV8.out).mono ?_
      rintro e w5 ⟨v, rfl, hx5, hv⟩
      have HV := hid (owns_base hv hy.size)
      have hX5 := hy.trans hx5
      obtain ⟨va, vc, rfl⟩ := ROwn.shape hv
      clear hv
      go_wp2_with fail
      go_ret
      exact ⟨_, rfl, hX5, HV.out⟩
theorem partP_any (lo hi : ByteArray) (q : Nat) : ∀ t, PartP lo hi q t
  | .empty => partP_empty lo hi q
  | .alone e => partP_alone lo hi q e
  | .node x l r => partP_node lo hi q x l r (partP_any lo hi q l) (partP_any lo hi q r)
end Go.Proofs.YtjohkmkgmbihkaaGreatDoor

namespace Go.Proofs.YtjohkmkgmbihkaaGreatDoor
open Go.ChangeShapes Go.WideShapes Go.ChangeAt Go.RowKit
set_option linter.unusedVariables false
def digT : AT → ByteArray
  | .empty => Sm.sum tE
  | .alone d => d
  | .node x l r => Sm.sum (head x ++ digT l ++ digT r)
def txtT : AT → List ByteArray
  | .empty => [tE]
  | .alone _ => []
  | .node x l r => (head x ++ digT l ++ digT r) :: (txtT l ++ txtT r)
/-- All that is read may be what it is. -/
def okA : AT → Prop
  | .empty => True
  | .alone d => d.size = 3
  | .node x l r => fault x.key x.val x.h = 0 ∧ okA l ∧ okA r
theorem digT_size : ∀ {t : AT}, okA t → (digT t).size = 3
  | .empty, _ => rfl
  | .alone _, h => h
  | .node _ _ _, _ => rfl
theorem txtT_len : ∀ t, (txtT t).length ≤ 2 * cnt t + 1
  | .empty => by simp [txtT, cnt]
  | .alone _ => by simp [txtT, cnt]
  | .node x l r => by
    have h1 := txtT_len l
    have h2 := txtT_len r
    simp only [txtT, cnt, List.length_cons, List.length_append]
    omega
theorem fault_small {k v : ByteArray} {h : Nat} (hf : fault k v h = 0) : k.size ≤ 8 ∧ v.size ≤ 20 ∧ h ≤ 15 := by
  unfold fault at hf
  split at hf
  · split at hf
    · split at hf
      next h1 h2 h3 =>
        simp only [keyB, valB, hgtB, decide_eq_true_eq] at h1 h2 h3
        omega
      · cases hf
    · cases hf
  · cases hf
/-- The end: what is handed back lies in a block of its own. -/
theorem ret_R {fn : Func} {Q : Ending → World → Prop} {tmps : Array Value} {w : World} {b : Nat} {x y : Value} {f : Nat × Nat} {p : Tmp} (h : fn.results = #[.cell p 131])
    (hp : tmps.getD p undef = .pointer (some ⟨b, 0, none⟩)) (hb : w.heap[b]? = some (.cells #[x, y] 131 f)) (hq : Q (.returned (.agg #[x, y])) w) :
    bodyPost Tryz.prog fn Q .ret ⟨tmps, []⟩ w :=
  bodyPost_ret (v := .agg #[x, y]) (results_cell_row h tmps w b _ _ f _ hp hb Tryz.underlying131 rfl (by kernel_rfl)) rfl hq
abbrev nilR : Obj := .cells #[.string ⟨#[]⟩, .slice none 0 0] 131
/-- What is told, in memory. -/
def RTold (w0 w : World) (t : AT) (v : Value) : Prop := ∃ a n c, v = .agg #[.string (digT t), .slice a n c] ∧ ItS w (.slice a n c) (txtT t) ∧ ∀ x, a = some x → w0.heap.size ≤ x.block
theorem RTold.ext {w0 w w' : World} {t : AT} {v : Value} (h : RTold w0 w t v) (hx : Ext w w') : RTold w0 w' t v := by
  obtain ⟨a, n, c, h1, h2, h3⟩ := h
  exact ⟨a, n, c, h1, h2.ext hx, h3⟩
theorem RTold.base {w0 w1 w : World} {t : AT} {v : Value} (h : RTold w1 w t v) (hx : w0.heap.size ≤ w1.heap.size) : RTold w0 w t v := by
  obtain ⟨a, n, c, h1, h2, h3⟩ := h
  exact ⟨a, n, c, h1, h2, fun x e => Nat.le_trans hx (h3 x e)⟩

theorem ItS.far {w : World} {v : Value} {A : List ByteArray} (h : ItS w v A) {a : Addr} (hb : ∀ b o c, v = .slice (some ⟨b, o, none⟩) A.length c → b ≠ a.block) (u : Value) : ItS (w.setCell a u) v A := by
  refine ⟨h.1, ?_⟩
  rcases h.2 with h2 | ⟨b, o, cap, hv, h3, h4, h5, h6⟩
  · exact .inl h2
  · refine .inr ⟨b, o, cap, hv, h3, h4, by simpa [World.setCell] using h5, fun j x hx => ?_⟩
    rw [World.cell?_setCell_other _ _ _ _ (by intro q; exact hb b o cap hv (by rw [q]))]
    exact h6 j x hx
set_option maxHeartbeats 1000000 in
set_option maxRecDepth 100000 in
theorem toldA_any (d a b : ByteArray) (w : World) : Calls Tryz.prog 114 #[.string d, .agg #[.string a, .string b]] w fun e w' => ∃ v, e = .returned v ∧ Ext w w' ∧ RTold w w' (.alone d) v := by
  go_enter Tryz.func114, Tryz.ntmps114
  go_wp2_with fail
  have hb := heap_alloc2_new w (.cells #[.string a, .string b] 122) (.cells #[.string d, .slice none 0 0] 131)
  exact ret_R (p := 4) (by kernel_rfl) rfl hb ⟨_, rfl, ((Ext.refl w).alloc _).alloc _, _, _, _, rfl, Seg.nil _ _, fun x h => by cases h⟩

set_option maxHeartbeats 1000000 in
set_option maxRecDepth 100000 in
theorem toldE_any (a b : ByteArray) (w : World) : Calls Tryz.prog 113 #[.agg #[.string a, .string b]] w fun e w' => ∃ v, e = .returned v ∧ Ext w w' ∧ RTold w w' .empty v := by
  have hx0 := ((Ext.refl w).alloc (.cells #[.string a, .string b] 122)).alloc nilR
  have hb0 := heap_alloc2_new w (.cells #[.string a, .string b] 122) nilR
  go_enter Tryz.func113, Tryz.ntmps113
  go_wp2_with fail
  refine (of_any _ _ (by decide)).mono ?_
  rintro e w1 ⟨rfl, hx1⟩
  have hb1 := hx1.row hb0
  have c0 : w1.cell? ⟨w.heap.size + 1, 0, none⟩ = some (.string ⟨#[]⟩) := cell_of_row _ _ 0 _ _ _ hb1
  have c1 : w1.cell? ⟨w.heap.size + 1, 1, none⟩ = some (.slice none 0 0) := cell_of_row _ _ 1 _ _ _ hb1
  have y0 := fun ob => ((Ext.refl w1).alloc ob).keep1 c0
  have y1 := fun ob => ((Ext.refl w1).alloc ob).keep1 c1
  have z0 : ∀ ob i, (w1.alloc ob).frozen? ⟨w.heap.size + 1, i, none⟩ = false := fun ob i => row_frz (((Ext.refl w1).alloc ob).row hb1) i
  have HB := hid hb1
  have HX := hid (hx0.trans hx1)
  clear hb1 hx1 hb0 hx0
  go_wp2_with fail
  have hlt : w.heap.size + 1 < w1.heap.size := row_lt HB.out
  exact ret_R (p := 2) (by kernel_rfl) rfl (set2 (((Ext.refl w1).alloc _).row HB.out) _ _) ⟨_, rfl, ((HX.out.alloc _).setCell (by simp) _).setCell (by simp) _, _, _, _, rfl,
    ((itS_one w1 _ 9).far (fun b o c h => by cases h; simp; omega) _).far (fun b o c h => by cases h; simp; omega) _, fun x h => by cases h; simp; omega⟩

/-- Three parts joined: one text, and two lists. -/
theorem ConcatT (g g1 : Nat) (t : ByteArray) (s1 s2 : Value) (A B : List ByteArray) (w : World) (hg : g < w.heap.size) (c0 : w.cell? ⟨g, 0, none⟩ = some (.slice (some ⟨g1, 0, none⟩) 1 1)) (c1 : w.cell? ⟨g, 1, none⟩ = some s1) (c2 : w.cell? ⟨g, 2, none⟩ = some s2)
    (ht : w.cell? ⟨g1, 0, none⟩ = some (.string t)) (h1 : ItS w s1 A) (h2 : ItS w s2 B) (hlen : A.length + B.length ≤ 400) :
    Calls Tryz.prog 112 #[.slice (some ⟨g, 0, none⟩) 3 3] w fun e w' => ∃ a n c, e = .returned (.slice a n c) ∧ Ext w w' ∧ ItS w' (.slice a n c) (t :: (A ++ B)) ∧ ∀ x, a = some x → w.heap.size ≤ x.block := by
  have e : flatS [(.slice (some ⟨g1, 0, none⟩) 1 1, [t]), (s1, A), (s2, B)] = t :: (A ++ B) := by simp [flatS]
  refine (Concat_anyS [(.slice (some ⟨g1, 0, none⟩) 1 1, [t]), (s1, A), (s2, B)] g 3 w (by simp) (by rw [e]; simp; omega) hg ?_ ?_).mono ?_
  · intro i hi
    match i, hi with
    | 0, _ => exact c0
    | 1, _ => exact c1
    | 2, _ => exact c2
  · intro i hi
    match i, hi with
    | 0, _ =>
      refine ⟨by simp [sc_length], .inr ⟨g1, 0, 1, rfl, by simp, by simp [maxLen], World.block_lt_of_cell? w _ ht, ?_⟩⟩
      intro j u hu
      match j, hu with
      | 0, hu => simp [sc] at hu; subst hu; simpa using ht
      | j + 1, hu => simp [sc] at hu
    | 1, _ => exact h1
    | 2, _ => exact h2
  · rintro e' w' ⟨v, rfl, hx, hown⟩
    rw [e] at hown
    obtain ⟨a, c, ev, _⟩ := (ItS.own hown).shape
    subst ev
    refine ⟨a, _, c, rfl, hx, ItS.own hown, fun x hxa => ?_⟩
    rcases hown.2 with ⟨_, hq⟩ | ⟨g', cap, cur, hq, hb, _⟩
    · simp at hq
    · simp only [Value.slice.injEq] at hq
      obtain ⟨rfl, _, _⟩ := hq
      cases hxa
      exact hb
end Go.Proofs.YtjohkmkgmbihkaaGreatDoor
