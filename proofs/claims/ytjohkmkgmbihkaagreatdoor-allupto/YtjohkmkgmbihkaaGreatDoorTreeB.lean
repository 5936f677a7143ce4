/- The walks of the tree: its node, its making. -/
import Derived.Test.YtjohkmkgmbihkaaGreatDoorTreeA
namespace Go.Proofs.YtjohkmkgmbihkaaGreatDoor
set_option linter.unusedVariables false
open Go.ChangeShapes Go.WideShapes Go.ChangeAt Go.RowKit
attribute [local go_sem ↓] Go.wp_at_zero Go.wp_at_succ

/-- A tree in memory. -/
inductive Tr where
  | nil
  | node (b : Nat) (x : It) (l r : Tr) (d : ByteArray)
def Tr.addr : Tr → Option Addr
  | .nil => none
  | .node b _ _ _ _ => some ⟨b, 0, none⟩
def Tr.In (w : World) : Tr → Prop
  | .nil => True
  | .node b x l r d => w.heap[b]? = some (.cells #[.string x.key, .string x.val, .int .i64 x.h, .pointer l.addr, .pointer r.addr, .string d] 119 (0, 0)) ∧ l.In w ∧ r.In w
def Shape : Tr → List It → Prop
  | .nil, L => L = []
  | .node _ x l r d, L => ∃ h0 : L ≠ [], x = L[top L]'(top_lt h0) ∧ Shape l (L.take (top L)) ∧ Shape r (L.drop (top L + 1)) ∧ d = dig L
theorem Tr.In.ext {w w' : World} (hx : Ext w w') : ∀ {T : Tr}, T.In w → T.In w'
  | .nil, _ => trivial
  | .node _ _ _ _ _, ⟨h1, h2, h3⟩ => ⟨hx.row h1, h2.ext hx, h3.ext hx⟩
/-- A node's cells. -/
theorem node_cells {w : World} {b : Nat} {x : It} {p q : Option Addr} {d : ByteArray} {f : Nat × Nat} (h : w.heap[b]? = some (.cells #[.string x.key, .string x.val, .int .i64 x.h, .pointer p, .pointer q, .string d] 119 f)) :
    w.cell? ⟨b, 0, none⟩ = some (.string x.key) ∧ w.cell? ⟨b, 1, none⟩ = some (.string x.val) ∧ w.cell? ⟨b, 2, none⟩ = some (.int .i64 x.h) ∧ w.cell? ⟨b, 3, none⟩ = some (.pointer p) ∧ w.cell? ⟨b, 4, none⟩ = some (.pointer q) ∧ w.cell? ⟨b, 5, none⟩ = some (.string d) := by
  refine ⟨?_, ?_, ?_, ?_, ?_, ?_⟩ <;> (rw [cell_of_row w b _ _ _ _ h]; rfl)

set_option maxHeartbeats 400000 in
set_option maxRecDepth 100000 in
theorem Text_any (x : It) (l r : ByteArray) (hk : x.key.size ≤ 8) (hv : x.val.size ≤ 20) (hh : x.h ≤ 15) (hl : l.size = 3) (hr : r.size = 3) (w : World) :
    Calls Tryz.prog 99 #[x.val', .string l, .string r] w fun e w' => e = .returned (.string (head x ++ l ++ r)) ∧ Ext w w' := by
  have hs := head_size x
  have n0 : (head x).size ≤ 40 := by omega
  clear hs
  go_enter Tryz.func99, Tryz.ntmps99
  go_wp2_with fail
  refine (Head_any x hk hv hh _).mono ?_
  rintro e w1 ⟨rfl, hx⟩
  go_wp2_with fail
  go_ret
  exact ⟨rfl, ((Ext.refl _).alloc _).trans hx⟩

set_option maxHeartbeats 400000 in
set_option maxRecDepth 100000 in
theorem NodeDigest_any (T : Tr) (L : List It) (w : World) (hT : T.In w) (hs : Shape T L) :
    Calls Tryz.prog 39 #[.pointer T.addr] w fun e w' => e = .returned (.string (dig L)) ∧ Ext w w' := by
  cases T with
  | nil =>
    have e : L = [] := hs
    subst e
    clear hs hT
    simp only [Tr.addr]
    go_enter Tryz.func39, Tryz.ntmps39
    go_wp2_with fail
    refine (of_any ⟨#[69]⟩ _ (by decide)).mono ?_
    rintro e w1 ⟨rfl, hx⟩
    go_wp2_with fail
    go_ret
    exact ⟨rfl, hx⟩
  | node b x l r d =>
    obtain ⟨_, _, _, _, e⟩ := hs
    subst e
    obtain ⟨_, _, _, _, _, h5⟩ := node_cells hT.1
    clear hT
    simp only [Tr.addr]
    go_enter Tryz.func39, Tryz.ntmps39
    go_wp2_with fail
    go_ret
    exact ⟨rfl, Ext.refl _⟩

set_option maxHeartbeats 400000 in
set_option maxRecDepth 100000 in
theorem top_any (L : List It) (h0 : L ≠ []) (hn : L.length ≤ 50) (v : Value) (w : World) (hv : Its w v L) :
    Calls Tryz.prog 98 #[v] w fun e w' => e = .returned (.int .i64 (top L)) ∧ Ext w w' := by
  rcases hv.cases with ⟨_, q⟩ | ⟨b, o, cap, rfl, h3, h4, h5, h6⟩
  · exact absurd q h0
  · have hpos := List.length_pos_iff.2 h0
    have H6 := hid h6
    have HV := hid hv
    clear h6 hv h0
    go_enter Tryz.func98, Tryz.ntmps98
    go_wp2_with fail
    go_loopw [3, 4, 5, 8] (fun t _ _ i wr => ∃ k : Nat, k ≤ L.length ∧ i = .int .i64 k ∧ t = .int .i64 (topTo L k) ∧ Ext w wr) (fun _ _ _ i _ => L.length - (intOf i).toNat)
    case atStart => exact ⟨0, Nat.zero_le _, rfl, rfl, Ext.refl _⟩
    case round =>
      obtain ⟨k, hk, rfl, rfl, hx⟩ := hrel
      have hle := topTo_le L k
      by_cases hlt : k < L.length
      · have ht : topTo L k < L.length := by omega
        have hsucc := topTo_succ L k hlt ht
        obtain ⟨a1, a2, a3⟩ := item_cells (cells_ext hx h5 H6.out) hlt
        obtain ⟨b1, b2, b3⟩ := item_cells (cells_ext hx h5 H6.out) ht
        have b3' : ∀ ob, (wr.alloc ob).cell? ⟨b, o + topTo L k * 3 + 2, none⟩ = some (.int .i64 L[topTo L k].h) := fun ob => ((Ext.refl wr).alloc ob).keep1 b3
        by_cases hc : L[topTo L k].h < L[k].h
        · rw [if_pos hc] at hsucc
          have HS := hid hsucc
          clear hsucc
          have hci : (L[topTo L k].h : Int) < (L[k].h : Int) := by omega
          go_wp2_with fail
          go_quiet (fail)
          go_wp2_with fail
          go_roundw
          case rel => exact ⟨k + 1, by omega, by go_num, by rw [HS.out], (hx.alloc _).drewN _⟩
          case measure => simp [intOf]; omega
        · rw [if_neg hc] at hsucc
          have HS := hid hsucc
          clear hsucc
          have hci : ¬ (L[topTo L k].h : Int) < (L[k].h : Int) := by omega
          go_wp2_with fail
          go_quiet (fail)
          go_wp2_with fail
          go_roundw
          case rel => exact ⟨k + 1, by omega, by go_num, by rw [HS.out], (hx.alloc _).drewN _⟩
          case measure => simp [intOf]; omega
      · have e : k = L.length := by omega
        subst e
        go_wp2_with fail
        go_ret
        exact ⟨rfl, hx⟩
end Go.Proofs.YtjohkmkgmbihkaaGreatDoor
