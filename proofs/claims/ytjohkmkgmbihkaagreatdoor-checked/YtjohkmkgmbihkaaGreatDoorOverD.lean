/- What goes over an answer: its pairs, at a node. -/
import Derived.Test.YtjohkmkgmbihkaaGreatDoorOverC
import Derived.Test.YtjohkmkgmbihkaaGreatDoorConc
namespace Go.Proofs.YtjohkmkgmbihkaaGreatDoor
open Go.ChangeShapes Go.WideShapes Go.ChangeAt Go.RowKit
set_option linter.unusedVariables false
/-- The pairs that are asked for. -/
def prsN (lo hi : ByteArray) (x : It) (A B : List Pq) : List Pq := if askB lo hi x.key then A ++ (x.key, x.val) :: B else A ++ B
def prsT (lo hi : ByteArray) : AT → List Pq
  | .empty => []
  | .alone _ => []
  | .node x l r => prsN lo hi x (prsT lo hi l) (prsT lo hi r)
/-- How many nodes. -/
def cnt : AT → Nat
  | .empty => 0
  | .alone _ => 0
  | .node _ l r => cnt l + cnt r + 1
theorem prsT_len (lo hi : ByteArray) : ∀ t, (prsT lo hi t).length ≤ cnt t
  | .empty => by simp [prsT, cnt]
  | .alone _ => by simp [prsT, cnt]
  | .node x l r => by
    have h1 := prsT_len lo hi l
    have h2 := prsT_len lo hi r
    unfold prsT prsN cnt
    split <;> simp <;> omega
theorem n_cells {w : World} {nb : Nat} {x : It} {lp rp : Option Addr} {ls rs : ByteArray} (h : w.heap[nb]? = some (nodeO x lp ls rp rs)) :
    w.cell? ⟨nb, 0, none⟩ = some (.string x.key) ∧ w.cell? ⟨nb, 1, none⟩ = some (.string x.val) ∧ w.cell? ⟨nb, 2, none⟩ = some (.int .i64 x.h) ∧ w.cell? ⟨nb, 3, none⟩ = some (.pointer lp) ∧ w.cell? ⟨nb, 4, none⟩ = some (.string ls) ∧ w.cell? ⟨nb, 5, none⟩ = some (.pointer rp) ∧ w.cell? ⟨nb, 6, none⟩ = some (.string rs) :=
  ⟨cell_of_row _ _ 0 _ _ _ h, cell_of_row _ _ 1 _ _ _ h, cell_of_row _ _ 2 _ _ _ h, cell_of_row _ _ 3 _ _ _ h, cell_of_row _ _ 4 _ _ _ h, cell_of_row _ _ 5 _ _ _ h, cell_of_row _ _ 6 _ _ _ h⟩

set_option maxHeartbeats 4000000 in
set_option maxRecDepth 100000 in
theorem PairsN_any (lo hi a b : ByteArray) (q : Nat) (x : It) (lp rp : Option Addr) (ls rs : ByteArray) (nb : Nat) (A B : List Pq) (vl vr : Value) (w : World) (hq : w.heap[q]? = some (.cells #[.string lo, .string hi] 77))
    (hn : w.heap[nb]? = some (nodeO x lp ls rp rs)) (hl : ItP w vl A) (hr : ItP w vr B) (hlen : A.length + B.length ≤ 400) :
    Calls Tryz.prog 73 #[.pointer (some ⟨nb, 0, none⟩), .agg #[.string a, .string b], vl, vr, .pointer (some ⟨q, 0, none⟩)] w fun e w' => ∃ v, e = .returned v ∧ Ext w w' ∧ w'.ownsRow w.heap.size 53 2 v (prsN lo hi x A B).length (qc (prsN lo hi x A B)) := by
  obtain ⟨a1, m1, e1, _⟩ := hl.shape
  obtain ⟨a2, m2, e2, _⟩ := hr.shape
  subst e1 e2
  have hx0 := (Ext.refl w).alloc (.cells #[.string a, .string b] 122)
  obtain ⟨n0, n1, n2, _⟩ := n_cells (hx0.row hn)
  obtain ⟨q0, q1⟩ := q_cells (hx0.row hq)
  have HL := hid hl
  have HR := hid hr
  have HX0 := hid hx0
  clear hn hq hl hr hx0
  unfold prsN
  cases ha : askB lo hi x.key with
  | false =>
    rw [if_neg (by simp)]
    have HA := hid ha
    clear ha
    generalize hW0 : w.alloc (.cells #[.string a, .string b] 122) = W0 at *
    go_enter Tryz.func73, Tryz.ntmps73
    go_wp2_with fail
    go_region_held3 (fun w' => w'.cell? ⟨nb, 0, none⟩ = some (.string x.key) ∧ w'.cell? ⟨q, 0, none⟩ = some (.string lo) ∧ w'.cell? ⟨q, 1, none⟩ = some (.string hi)) (go_keep)
      (first
        | (go_at_call 74; refine (AsksFor_any lo hi x.key _).mono ?_; rintro e w2 ⟨rfl, hx2⟩; rw [HA.out]; have hy2 : Ext W0 w2 := (Ext.trans ((Ext.refl _).drew) hx2); have k3 := hy2.keep1 n0; have k4 := hy2.keep1 q0; have k5 := hy2.keep1 q1))
    go_wp2_with fail
    refine (Concat2P w2 _ _ A B (HL.out.ext (HX0.out.trans hy2)) (HR.out.ext (HX0.out.trans hy2)) hlen).mono ?_
    rintro e w3 ⟨v, rfl, hx3, ho⟩
    have hz := (HX0.out.trans hy2).size
    have HO := hid ho
    clear ho
    go_wp2_with fail
    go_ret
    exact ⟨_, rfl, (HX0.out.trans hy2).trans hx3, owns_base HO.out hz⟩
  | true =>
    rw [if_pos rfl]
    have HA := hid ha
    clear ha
    generalize hW0 : w.alloc (.cells #[.string a, .string b] 122) = W0 at *
    go_enter Tryz.func73, Tryz.ntmps73
    go_wp2_with fail
    go_region_held3 (fun w' => w'.cell? ⟨nb, 0, none⟩ = some (.string x.key) ∧ w'.cell? ⟨q, 0, none⟩ = some (.string lo) ∧ w'.cell? ⟨q, 1, none⟩ = some (.string hi)) (go_keep)
      (first
        | (go_at_call 74; refine (AsksFor_any lo hi x.key _).mono ?_; rintro e w2 ⟨rfl, hx2⟩; rw [HA.out]; have hy2 : Ext W0 w2 := (Ext.trans ((Ext.refl _).drew) hx2); have k3 := hy2.keep1 n0; have k4 := hy2.keep1 q0; have k5 := hy2.keep1 q1))
    have k6 := hy2.keep1 n1
    have k7 := hy2.keep1 n2
    go_wp2_with fail
    refine (Pair_any x _).mono ?_
    rintro e w3 ⟨rfl, hx3⟩
    have hy3 := (HX0.out.trans hy2).trans hx3
    have HL3 := hid (HL.out.ext hy3)
    have HR3 := hid (HR.out.ext hy3)
    go_wp2_with fail
    refine (Concat3P w3 _ _ A B (x.key, x.val) HL3.out HR3.out hlen).mono ?_
    rintro e w4 ⟨v, rfl, hx4, ho⟩
    have hz := hy3.size
    have HO := hid ho
    clear ho
    go_wp2_with fail
    go_ret
    exact ⟨_, rfl, hy3.trans hx4, owns_base HO.out hz⟩
end Go.Proofs.YtjohkmkgmbihkaaGreatDoor
