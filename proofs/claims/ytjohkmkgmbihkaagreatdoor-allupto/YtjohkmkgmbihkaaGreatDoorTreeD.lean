/- The walks of the tree: its answers. -/
import Derived.Test.YtjohkmkgmbihkaaGreatDoorTreeC
namespace Go.Proofs.YtjohkmkgmbihkaaGreatDoor
set_option linter.unusedVariables false
open Go.ChangeShapes Go.WideShapes Go.ChangeAt Go.RowKit
attribute [local go_sem ↓] Go.wp_at_zero Go.wp_at_succ

theorem ret_bool {a b : Bool} (h : a = b) : Ending.returned (.bool a) = .returned (.bool b) := by rw [h]
theorem beq_empty (s : ByteArray) : beq s ⟨#[]⟩ = s.toList.isEmpty := by
  have : (⟨#[]⟩ : ByteArray).toList = [] := by rw [ByteArray.toList_eq]
  unfold beq; rw [this]; cases s.toList <;> rfl
theorem mat_eq (lo hi low high : ByteArray) : mat lo hi low high = ((low.toList.isEmpty || Op.bytesLess low.toList hi.toList) && (high.toList.isEmpty || Op.bytesLess lo.toList high.toList)) := by
  simp only [mat, beq_empty, lt]

set_option maxHeartbeats 400000 in
set_option maxRecDepth 100000 in
theorem MatterTo_any (lo hi low high : ByteArray) (w : World) :
    Calls Tryz.prog 100 #[.agg #[.string low, .string high], .agg #[.string lo, .string hi]] w fun e w' => e = .returned (.bool (mat lo hi low high)) ∧ Ext w w' := by
  go_enter Tryz.func100, Tryz.ntmps100
  go_wp2_with fail
  all_goals
    go_ret
    refine ⟨?_, ((Ext.refl _).alloc _).alloc _⟩
    rw [mat_eq]
    simp [*]

set_option maxHeartbeats 400000 in
theorem Left_any (low high k : ByteArray) (w : World) :
    Calls Tryz.prog 102 #[.agg #[.string low, .string high], .string k] w fun e w' => e = .returned (.agg #[.string low, .string k]) ∧ Ext w w' := by
  go_enter Tryz.func102, Tryz.ntmps102
  go_wp2_with fail
  refine bodyPost_ret (v := .agg #[.string low, .string k]) ?_ rfl ⟨rfl, ?_⟩
  · simp [results, Tryz.results102, go_sem]
  · exact ((Ext.refl w).alloc _).alloc _
set_option maxHeartbeats 400000 in
theorem Right_any (low high k : ByteArray) (w : World) :
    Calls Tryz.prog 103 #[.agg #[.string low, .string high], .string k] w fun e w' => e = .returned (.agg #[.string k, .string high]) ∧ Ext w w' := by
  go_enter Tryz.func103, Tryz.ntmps103
  go_wp2_with fail
  refine bodyPost_ret (v := .agg #[.string k, .string high]) ?_ rfl ⟨rfl, ?_⟩
  · simp [results, Tryz.results103, go_sem]
  · exact ((Ext.refl w).alloc _).alloc _

/-- What is said of a tree's answer. -/
def AnsSaid (lo hi : ByteArray) (n : Nat) : Prop := ∀ (L : List It) (T : Tr) (low high : ByteArray) (w : World), L.length ≤ n → L.length ≤ 50 → Small L → T.In w → Shape T L →
  Calls Tryz.prog 68 #[.pointer T.addr, .agg #[.string lo, .string hi], .agg #[.string low, .string high]] w fun e w' => e = .returned (.string (ans lo hi L low high)) ∧ Ext w w'

theorem box2 {w w1 : World} {a b c d : Value} {s t : TypeId} (hx : Ext ((w.alloc (.cells #[a, b] s)).alloc (.cells #[c, d] t)) w1) :
    w1.cell? ⟨w.heap.size, 0, none⟩ = some a ∧ w1.cell? ⟨w.heap.size, 1, none⟩ = some b ∧ w1.cell? ⟨w.heap.size + 1, 0, none⟩ = some c ∧ w1.cell? ⟨w.heap.size + 1, 1, none⟩ = some d ∧ Ext w w1 := by
  have e : (w.alloc (.cells #[a, b] s)).heap.size = w.heap.size + 1 := by simp
  obtain ⟨h1, _, _⟩ := box_cells hx
  rw [e] at h1
  obtain ⟨h2, _, _⟩ := box_cells (((Ext.refl (w.alloc (.cells #[a, b] s))).alloc (.cells #[c, d] t)).trans hx)
  exact ⟨h2 0, h2 1, h1 0, h1 1, (((Ext.refl w).alloc _).alloc _).trans hx⟩

set_option maxHeartbeats 400000 in
set_option maxRecDepth 100000 in
theorem answer_not (lo hi : ByteArray) (L : List It) (T : Tr) (low high : ByteArray) (w : World) (hm : mat lo hi low high = false) (hT : T.In w) (hs : Shape T L) :
    Calls Tryz.prog 68 #[.pointer T.addr, .agg #[.string lo, .string hi], .agg #[.string low, .string high]] w fun e w' => e = .returned (.string (ans lo hi L low high)) ∧ Ext w w' := by
  have HM := hid hm
  have HA := hid (ans_not hm L)
  have HT := hid hT
  have HS := hid hs
  have g := dig_size L
  clear hm hT hs
  go_enter Tryz.func68, Tryz.ntmps68
  go_wp2_with fail
  refine (MatterTo_any lo hi low high _).mono ?_
  rintro e w1 ⟨rfl, hx⟩
  obtain ⟨_, _, _, _, hx1⟩ := box2 hx
  rw [HM.out]
  go_wp2_with fail
  refine (NodeDigest_any T L _ (HT.out.ext hx1) HS.out).mono ?_
  rintro e w2 ⟨rfl, hx2⟩
  go_wp2_with fail
  go_ret
  exact ⟨ret_str HA.out.symm, hx1.trans hx2⟩

set_option maxHeartbeats 400000 in
set_option maxRecDepth 100000 in
theorem answer_nil (lo hi : ByteArray) (low high : ByteArray) (w : World) (hm : mat lo hi low high = true) :
    Calls Tryz.prog 68 #[.pointer none, .agg #[.string lo, .string hi], .agg #[.string low, .string high]] w fun e w' => e = .returned (.string (ans lo hi [] low high)) ∧ Ext w w' := by
  have HM := hid hm
  have HA := hid (ans_nil hm)
  clear hm
  go_enter Tryz.func68, Tryz.ntmps68
  go_wp2_with fail
  refine (MatterTo_any lo hi low high _).mono ?_
  rintro e w1 ⟨rfl, hx⟩
  obtain ⟨_, _, _, _, hx1⟩ := box2 hx
  rw [HM.out]
  go_wp2_with fail
  go_ret
  exact ⟨ret_str HA.out.symm, hx1⟩

set_option maxHeartbeats 4000000 in
set_option maxRecDepth 100000 in
theorem answer_step (lo hi : ByteArray) (n : Nat) (ih : AnsSaid lo hi n) (L : List It) (b : Nat) (X : It) (l r : Tr) (d : ByteArray) (low high : ByteArray) (w : World) (hm : mat lo hi low high = true)
    (hn1 : L.length ≤ n + 1) (hn : L.length ≤ 50) (hs : Small L) (hT : (Tr.node b X l r d).In w) (hsh : Shape (.node b X l r d) L) :
    Calls Tryz.prog 68 #[.pointer (some ⟨b, 0, none⟩), .agg #[.string lo, .string hi], .agg #[.string low, .string high]] w fun e w' => e = .returned (.string (ans lo hi L low high)) ∧ Ext w w' := by
  obtain ⟨h0, hX, hl, hr, hd⟩ := hsh
  obtain ⟨hrow, hil, hir⟩ := hT
  have ht := top_lt h0
  have hsm := hs.get ht
  rw [← hX] at hsm
  have HA := hid (ans_node hm h0)
  rw [← hX] at HA
  have za := ans_size lo hi 50 (L.take (top L)) low X.key (by simp; omega) (hs.take _)
  have zb := ans_size lo hi 50 (L.drop (top L + 1)) X.key high (by simp; omega) (hs.drop _)
  have c1 : ∀ w', Ext w w' → Calls Tryz.prog 68 #[.pointer l.addr, .agg #[.string lo, .string hi], .agg #[.string low, .string X.key]] w' fun e w'' => e = .returned (.string (ans lo hi (L.take (top L)) low X.key)) ∧ Ext w' w'' :=
    fun w' hx => ih _ l low X.key w' (by simp; omega) (by simp; omega) (hs.take _) (hil.ext hx) hl
  have c2 : ∀ w', Ext w w' → Calls Tryz.prog 68 #[.pointer r.addr, .agg #[.string lo, .string hi], .agg #[.string X.key, .string high]] w' fun e w'' => e = .returned (.string (ans lo hi (L.drop (top L + 1)) X.key high)) ∧ Ext w' w'' :=
    fun w' hx => ih _ r X.key high w' (by simp; omega) (by simp; omega) (hs.drop _) (hir.ext hx) hr
  have zl : (L.take (top L)).length ≤ 50 := by simp; omega
  have zr : (L.drop (top L + 1)).length ≤ 50 := by simp; omega
  generalize ans lo hi (L.take (top L)) low X.key = A1 at *
  generalize ans lo hi (L.drop (top L + 1)) X.key high = A2 at *
  have zh := head_size X
  have y1 : A1.size ≤ 2000 := by omega
  have y2 : A2.size ≤ 2000 := by omega
  have y0 : (head X).size ≤ 40 := by omega
  have n1 : ¬ 9223372036854775807 < (head X).size + A1.size := by omega
  have n2 : ¬ 9223372036854775807 < (head X).size + A1.size + A2.size := by omega
  have C1 := hid c1
  have C2 := hid c2
  have HM := hid hm
  have HSM := hid hsm
  obtain ⟨c0, c1', c2', c3, c4, _⟩ := node_cells hrow
  clear hm c1 c2 hsm hil hir hl hr hrow hd hX za zb zl zr zh hs hn1 hn ht ih h0
  go_enter Tryz.func68, Tryz.ntmps68
  go_wp2_with fail
  refine (MatterTo_any lo hi low high _).mono ?_
  rintro e w1 ⟨rfl, hx⟩
  obtain ⟨b0, b1, b2, b3, hx1⟩ := box2 hx
  rw [HM.out]
  replace c0 := hx1.keep1 c0
  replace c1' := hx1.keep1 c1'
  replace c2' := hx1.keep1 c2'
  replace c3 := hx1.keep1 c3
  replace c4 := hx1.keep1 c4
  clear hx
  go_wp2_with fail
  go_region_held3 (fun w' => w'.cell? ⟨b, 0, none⟩ = some (.string X.key) ∧ w'.cell? ⟨b, 1, none⟩ = some (.string X.val) ∧ w'.cell? ⟨b, 2, none⟩ = some (.int .i64 X.h) ∧ w'.cell? ⟨b, 3, none⟩ = some (.pointer l.addr) ∧ w'.cell? ⟨b, 4, none⟩ = some (.pointer r.addr)
      ∧ w'.cell? ⟨w.heap.size, 0, none⟩ = some (.string lo) ∧ w'.cell? ⟨w.heap.size, 1, none⟩ = some (.string hi) ∧ w'.cell? ⟨w.heap.size + 1, 0, none⟩ = some (.string low) ∧ w'.cell? ⟨w.heap.size + 1, 1, none⟩ = some (.string high)) (go_keep)
    (first
      | (go_at_call 101; refine (Head_any X HSM.out.1 HSM.out.2.1 HSM.out.2.2 _).mono ?_; rintro e w2 ⟨rfl, hx2⟩; have hy2 : Ext w1 w2 := Ext.trans ((Ext.refl _).drew) hx2; have k0 := hy2.keep1 c0; have k1 := hy2.keep1 c1'; have k2 := hy2.keep1 c2'; have k3 := hy2.keep1 c3; have k4 := hy2.keep1 c4; have k5 := hy2.keep1 b0; have k6 := hy2.keep1 b1; have k7 := hy2.keep1 b2; have k8 := hy2.keep1 b3)
      | (go_at_call 102; refine (Left_any low high X.key _).mono ?_; rintro e w3 ⟨rfl, hx3⟩; have hy3 : Ext w1 w3 := Ext.trans hy2 hx3; have k0 := hy3.keep1 c0; have k1 := hy3.keep1 c1'; have k2 := hy3.keep1 c2'; have k3 := hy3.keep1 c3; have k4 := hy3.keep1 c4; have k5 := hy3.keep1 b0; have k6 := hy3.keep1 b1; have k7 := hy3.keep1 b2; have k8 := hy3.keep1 b3)
      | (go_at_call_of 68 (Tr.addr l); refine (C1.out _ (hx1.trans hy3)).mono ?_; rintro e w4 ⟨rfl, hx4⟩; have hy4 : Ext w1 w4 := Ext.trans hy3 hx4; have k0 := hy4.keep1 c0; have k1 := hy4.keep1 c1'; have k2 := hy4.keep1 c2'; have k3 := hy4.keep1 c3; have k4 := hy4.keep1 c4; have k5 := hy4.keep1 b0; have k6 := hy4.keep1 b1; have k7 := hy4.keep1 b2; have k8 := hy4.keep1 b3)
      | (go_at_call 103; refine (Right_any low high X.key _).mono ?_; rintro e w5 ⟨rfl, hx5⟩; have hy5 : Ext w1 w5 := Ext.trans hy4 hx5; have k0 := hy5.keep1 c0; have k1 := hy5.keep1 c1'; have k2 := hy5.keep1 c2'; have k3 := hy5.keep1 c3; have k4 := hy5.keep1 c4; have k5 := hy5.keep1 b0; have k6 := hy5.keep1 b1; have k7 := hy5.keep1 b2; have k8 := hy5.keep1 b3)
      | (go_at_call_of 68 (Tr.addr r); refine (C2.out _ (hx1.trans hy5)).mono ?_; rintro e w6 ⟨rfl, hx6⟩; have hy6 : Ext w1 w6 := Ext.trans hy5 hx6; have k0 := hy6.keep1 c0; have k1 := hy6.keep1 c1'; have k2 := hy6.keep1 c2'; have k3 := hy6.keep1 c3; have k4 := hy6.keep1 c4; have k5 := hy6.keep1 b0; have k6 := hy6.keep1 b1; have k7 := hy6.keep1 b2; have k8 := hy6.keep1 b3))
  go_wp2_with fail
  go_ret
  exact ⟨ret_str HA.out.symm, hx1.trans hy6⟩

theorem answer_all (lo hi : ByteArray) : ∀ n, AnsSaid lo hi n := by
  intro n
  induction n with
  | zero =>
    intro L T low high w h1 h2 hs hT hsh
    cases hm : mat lo hi low high with
    | false => exact answer_not lo hi L T low high w hm hT hsh
    | true =>
      obtain rfl : L = [] := List.eq_nil_of_length_eq_zero (by omega)
      cases T with
      | nil => exact answer_nil lo hi low high w hm
      | node b x l r d => obtain ⟨h0, _⟩ := hsh; exact absurd rfl h0
  | succ n ih =>
    intro L T low high w h1 h2 hs hT hsh
    cases hm : mat lo hi low high with
    | false => exact answer_not lo hi L T low high w hm hT hsh
    | true =>
      cases T with
      | nil =>
        have e : L = [] := hsh
        subst e
        exact answer_nil lo hi low high w hm
      | node b x l r d => exact answer_step lo hi n ih L b x l r d low high w hm h1 h2 hs hT hsh

set_option maxHeartbeats 400000 in
set_option maxRecDepth 100000 in
theorem Answer_any (lo hi : ByteArray) (L : List It) (T : Tr) (w : World) (hg : Good L) (hT : T.In w) (hsh : Shape T L) :
    Calls Tryz.prog 41 #[.pointer T.addr, .agg #[.string lo, .string hi]] w fun e w' => e = .returned (.string (ans lo hi L ⟨#[]⟩ ⟨#[]⟩)) ∧ Ext w w' := by
  have HT := hid hT
  have HS := hid hsh
  have HG := hid hg
  clear hT hsh hg
  go_enter Tryz.func41, Tryz.ntmps41
  go_wp2_with fail
  refine (answer_all lo hi 50 L T ⟨#[]⟩ ⟨#[]⟩ _ HG.out.2.1 HG.out.2.1 HG.out.small (HT.out.ext ((Ext.refl w).alloc _)) HS.out).mono ?_
  rintro e w1 ⟨rfl, hx⟩
  go_wp2_with fail
  go_ret
  exact ⟨rfl, ((Ext.refl w).alloc _).trans hx⟩
end Go.Proofs.YtjohkmkgmbihkaaGreatDoor
