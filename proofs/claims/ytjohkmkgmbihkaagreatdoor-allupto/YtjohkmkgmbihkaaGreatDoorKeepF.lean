/- The walk of a filling. -/
import Derived.Test.YtjohkmkgmbihkaaGreatDoorKeepE
import Derived.Deep.DeepCutAuto
namespace Go.Proofs.YtjohkmkgmbihkaaGreatDoor
set_option linter.unusedVariables false
open Go.ChangeShapes Go.WideShapes Go.ChangeAt Go.RowKit
attribute [local go_sem ↓] Go.wp_at_zero Go.wp_at_succ

/-- A slice of steps. -/
def Sts (w : World) (v : Value) (ss : List St) : Prop := (∃ a cap, v = .slice a ss.length cap ∧ ss.length ≤ cap ∧ cap ≤ maxLen ∧ ∀ i (h : i < ss.length), ∃ b o, a = some ⟨b, o, none⟩ ∧ b < w.heap.size ∧
    w.cell? ⟨b, o + i * 4, none⟩ = some (.int .i64 ss[i].key) ∧ w.cell? ⟨b, o + i * 4 + 1, none⟩ = some (.int .i64 ss[i].h) ∧ w.cell? ⟨b, o + i * 4 + 2, none⟩ = some (.int .i64 ss[i].out) ∧ w.cell? ⟨b, o + i * 4 + 3, none⟩ = some (.string ss[i].val)) ∧ ∀ s ∈ ss, s.Ok
theorem Sts.ext {w w' : World} {v : Value} {A : List St} (h : Sts w v A) (e : Ext w w') : Sts w' v A := by
  obtain ⟨⟨a, cap, h1, h2, h3, h4⟩, h5⟩ := h
  refine ⟨⟨a, cap, h1, h2, h3, fun i hi => ?_⟩, h5⟩
  obtain ⟨b, o, g1, g2, g3, g4, g5, g6⟩ := h4 i hi
  have k : ∀ (x : Addr) (u : Value), w.cell? x = some u → w'.cell? x = some u := fun x u hu => (e.cell (World.block_lt_of_cell? w x hu)).trans hu
  exact ⟨b, o, g1, Nat.lt_of_lt_of_le g2 e.size, k _ _ g3, k _ _ g4, k _ _ g5, k _ _ g6⟩
theorem Sts.shape {w : World} {v : Value} {A : List St} (h : Sts w v A) : ∃ a cap, v = .slice a A.length cap ∧ A.length ≤ cap ∧ cap ≤ maxLen := by
  obtain ⟨⟨a, cap, h1, h2, h3, _⟩, _⟩ := h
  exact ⟨a, cap, h1, h2, h3⟩
theorem Sts.at {w : World} {a : Option Addr} {n cap : Nat} {A : List St} (h : Sts w (.slice a n cap) A) {i : Nat} (hi : i < A.length) : ∃ b o, a = some ⟨b, o, none⟩ ∧ b < w.heap.size ∧
    w.cell? ⟨b, o + i * 4, none⟩ = some (.int .i64 A[i].key) ∧ w.cell? ⟨b, o + i * 4 + 1, none⟩ = some (.int .i64 A[i].h) ∧ w.cell? ⟨b, o + i * 4 + 2, none⟩ = some (.int .i64 A[i].out) ∧ w.cell? ⟨b, o + i * 4 + 3, none⟩ = some (.string A[i].val) := by
  obtain ⟨⟨a', cap', h1, _, _, h4⟩, _⟩ := h
  simp only [Value.slice.injEq] at h1
  obtain ⟨rfl, _, _⟩ := h1
  exact h4 i hi

theorem sz_pairs (w : World) : (sizeOf (Tryz.prog.elem 27)).run Tryz.prog w = .ok 2 w := by kernel_rfl
theorem cutP_h (a : Option Addr) (n cap i : Nat) (h : i ≤ cap) (w : World) :
    (Instr.slice 27 (.slice a n cap) none (some (.int .i64 (i : Int))) none).run Tryz.prog w = .ok (sliced a 0 i cap 2) w := by
  rw [run_slice_h w 27 a n cap (by kernel_rfl) .i64 i (by omega) (by omega), sz_pairs]
  rfl
theorem cutP_l (a : Option Addr) (n cap i : Nat) (h : i ≤ n) (w : World) :
    (Instr.slice 27 (.slice a n cap) (some (.int .i64 (i : Int))) none none).run Tryz.prog w = .ok (sliced a i n cap 2) w := by
  rw [run_slice_l w 27 a n cap (by kernel_rfl) .i64 i (by omega) (by omega), sz_pairs]
  rfl
/-- Two rows of other types are two. -/
theorem row_ne {w : World} {b : Nat} {c : Array Value} {t e : TypeId} {f : Nat × Nat} {base size n : Nat} {v : Value} {xs : List Value} (hb : w.heap[b]? = some (.cells c t f)) (ho : w.ownsRow base e size v n xs) (hne : t ≠ e) : v.ownBlock ≠ some b := by
  rcases ho.2 with ⟨rfl, _⟩ | ⟨g, cap, cur, rfl, _, hg, _⟩
  · simp [Value.ownBlock]
  · simp only [Value.ownBlock, ne_eq, Option.some.injEq]
    rintro rfl
    rw [hb] at hg
    simp only [Option.some.injEq, Obj.cells.injEq] at hg
    exact hne hg.2.1
theorem sliced_block (a : Option Addr) (l h m s n cap : Nat) (ha : ∀ x, a = some x → x.spot = none) : (sliced a l h m s).ownBlock = (Value.slice a n cap).ownBlock := by
  cases a with
  | none => simp [sliced, Value.ownBlock]
  | some x =>
    obtain ⟨b, o, sp⟩ := x
    have := ha _ rfl
    simp at this
    subst this
    by_cases q : m = l
    · simp [sliced, q, Value.ownBlock]
    · simp [sliced, q, Value.ownBlock, addr_add]
theorem Seg.kept {w w' : World} {row : Option Nat} {v : Value} {k n : Nat} {cs : List Value} (h : Seg w v k n cs) (hg : w.grownBy w' row) (hne : v.ownBlock = none ∨ v.ownBlock ≠ row) : Seg w' v k n cs := by
  refine ⟨h.1, ?_⟩
  rcases h.2 with h2 | ⟨b, o, cap, hv, h3, h4, h5, h6⟩
  · exact .inl h2
  · refine .inr ⟨b, o, cap, hv, h3, h4, Nat.lt_of_lt_of_le h5 hg.size, fun j u hu => ?_⟩
    have hb : some b ≠ row := by
      subst hv
      rcases hne with h | h
      · simp [Value.ownBlock] at h
      · simpa [Value.ownBlock] using h
    exact hg.cell (h6 j u hu) hb
/-- The appends, told by their rows. -/
theorem app_pair (base : Nat) (w : World) (v : Value) (A : List Pr) (p : Pr) (hb0 : base ≤ w.heap.size) (hown : w.ownsRow base 53 2 v A.length (pc A)) (hl : A.length ≤ 1000000000000) :
    ∃ v' w', (Builtin.append_ #[27, 27] 27 #[v, .slice (some ⟨w.heap.size, 0, none⟩) 1 1]).run Tryz.prog (w.alloc (.cells #[.string p.1, .string p.2] 53)) = .ok v' w' ∧
      w'.ownsRow base 53 2 v' (A ++ [p]).length (pc (A ++ [p])) ∧ w.grownBy w' v.ownBlock := by
  obtain ⟨i, hi, hz, hs, hb⟩ := infoPair
  have h1 := hown.alloc (.cells #[.string p.1, .string p.2] 53)
  obtain ⟨v', w', hr, ho, hg⟩ := append_seg (P := Tryz.prog) _ base 27 27 53 i _ 2 32 Tryz.underlying27 hi hz hs hb rfl (by decide) v _ _ h1
    _ 1 (pc [p]) (prs_one w p 53) (oneCell_pc _) (by unfold maxLen; omega) (by omega) (by simp; omega)
  refine ⟨v', w', hr, ?_, ⟨hg.os, hg.tape, hg.output, Nat.le_trans (by simp) hg.size, fun k hk hne => ?_⟩⟩
  · rw [pc_append, List.length_append]; exact ho
  · rw [hg.block k (by simp; omega) hne, Below.heap_alloc _ _ _ hk]
theorem app_prs (base : Nat) (w : World) (v u : Value) (A B : List Pr) (hb0 : base ≤ w.heap.size) (hown : w.ownsRow base 53 2 v A.length (pc A)) (hu : Prs w u B) (hl : A.length + B.length ≤ 1000000000000) :
    ∃ v' w', (Builtin.append_ #[27, 27] 27 #[v, u]).run Tryz.prog w = .ok v' w' ∧
      w'.ownsRow base 53 2 v' (A ++ B).length (pc (A ++ B)) ∧ w.grownBy w' v.ownBlock := by
  obtain ⟨i, hi, hz, hs, hb⟩ := infoPair
  obtain ⟨v', w', hr, ho, hg⟩ := append_seg (P := Tryz.prog) _ base 27 27 53 i _ 2 32 Tryz.underlying27 hi hz hs hb rfl (by decide) v _ _ hown
    u _ (pc B) hu (oneCell_pc _) (by unfold maxLen; omega) (by omega) hb0
  refine ⟨v', w', hr, ?_, hg⟩
  rw [pc_append, List.length_append]; exact ho
/-- A book beside a row of pairs that grows. -/
theorem OnBook.row {w w' : World} {b base : Nat} {L : List It} {u : Value} {n : Nat} {xs : List Value} (h : OnBook w b L) (ho : w.ownsRow base 53 2 u n xs) (hg : w.grownBy w' u.ownBlock) : OnBook w' b L := by
  obtain ⟨v, h1, h2, h3⟩ := h
  refine ⟨v, ?_, ?_, h3⟩
  · rw [hg.block b (row_lt h1) (Ne.symm (row_ne h1 ho (by decide)))]; exact h1
  · refine h2.kept hg ?_
    rcases h2.2 with ⟨rfl, _⟩ | ⟨g, cap, cur, rfl, _, hgg, _⟩
    · exact .inl rfl
    · right
      have := row_ne hgg ho (by decide)
      simp only [Value.ownBlock] at this ⊢
      exact Ne.symm this
theorem OnBook.row_ne {w : World} {b base : Nat} {L : List It} {u : Value} {n : Nat} {xs : List Value} (h : OnBook w b L) (ho : w.ownsRow base 53 2 u n xs) : u.ownBlock ≠ some b := by
  obtain ⟨v, h1, _⟩ := h
  exact Go.Proofs.YtjohkmkgmbihkaaGreatDoor.row_ne h1 ho (by decide)
theorem owns_kept_book {w w' : World} {b base : Nat} {L : List It} {u : Value} {n : Nat} {xs : List Value} (h : OnBook w b L) (ho : w.ownsRow base 53 2 u n xs) (hg : w.grownBy w' (some b)) : w'.ownsRow base 53 2 u n xs :=
  ho.kept hg (.inr (h.row_ne ho))
theorem Ext.book {w0 w w' : World} {b : Nat} (hx : Ext w0 w) (hb : w0.heap.size ≤ b) (hg : w.grownBy w' (some b)) : Ext w0 w' := Below.grown hx hg hx.size (fun k hk => by cases hk; exact hb)
theorem Ext.row2 {w0 w w' : World} {base : Nat} {u : Value} {n : Nat} {xs : List Value} (hx : Ext w0 w) (ho : w.ownsRow base 53 2 u n xs) (hb : w0.heap.size ≤ base) (hg : w.grownBy w' u.ownBlock) : Ext w0 w' :=
  Below.grown hx hg hx.size (fun k hk => Nat.le_trans hb (ho.lt k hk).1)
theorem put_bk (b : Nat) (L : List It) (k t : ByteArray) (h : Int) (w : World) (hB : OnBook w b L) :
    Calls Tryz.prog 21 #[.pointer (some ⟨b, 0, none⟩), .string k, .string t, .int .i64 h] w
      fun e w' => e = .returned (.int .i64 (putE L k t h)) ∧ OnBook w' b (putL L k t h) ∧ w.grownBy w' (some b) := by
  obtain ⟨v, hB⟩ := hB
  refine (Put_any b v L k t h w hB).mono ?_
  rintro e w' ⟨rfl, v', hB', hg, _⟩
  exact ⟨rfl, ⟨v', hB'⟩, hg⟩
theorem del_bk (b : Nat) (L : List It) (k : ByteArray) (w : World) (hB : OnBook w b L) :
    Calls Tryz.prog 37 #[.pointer (some ⟨b, 0, none⟩), .string k] w
      fun e w' => e = .returned (.int .i64 (delE L k)) ∧ OnBook w' b (delL L k) ∧ w.grownBy w' (some b) := by
  obtain ⟨v, hB⟩ := hB
  refine (Delete_any b v L k w hB).mono ?_
  rintro e w' ⟨rfl, v', hB', hg, _⟩
  exact ⟨rfl, ⟨v', hB'⟩, hg⟩
theorem set2_far (w : World) (b g j : Nat) (u v : Value) (hne : b ≠ g) {x : Value} (h : w.cell? ⟨g, j, none⟩ = some x) : ((w.setCell ⟨b, 0, none⟩ u).setCell ⟨b, 1, none⟩ v).cell? ⟨g, j, none⟩ = some x := by
  rw [World.cell?_setCell_other _ _ _ _ (by intro q; injection q; omega), World.cell?_setCell_other _ _ _ _ (by intro q; injection q; omega)]; exact h
theorem delE_has {L : List It} {k : ByteArray} (hk : keyB k = true) : (delE L k == 0) = has L k := by
  unfold delE; rw [hk]; cases has L k <;> rfl
theorem putS_pr {L : List It} (hk : K30 L) (hs : Sorted L) (s : St) : prs (putS L s) = (prs L).take (plc L (keyC s.key)) ++ [(keyC s.key, cutB s.val 20)] ++ (prs L).drop (if has L (keyC s.key) then plc L (keyC s.key) + 1 else plc L (keyC s.key)) := by
  rw [putS_put hk hs, prs_put]; rfl
theorem Ext.of_nil {w w' : World} (hg : w.grownBy w' none) : Ext w w' := ⟨hg.os, hg.tape, hg.output, hg.size, fun k hk => hg.block k hk (by simp)⟩

theorem OnBook.lt {w w' : World} {b : Nat} {L : List It} (h : OnBook w b L) (hx : Ext w w') : b < w'.heap.size := by obtain ⟨v, h⟩ := h; exact Nat.lt_of_lt_of_le h.lt hx.size

set_option maxHeartbeats 16000000 in
set_option maxRecDepth 100000 in
theorem filled_any (ss : List St) (v : Value) (w : World) (hv : Sts w v ss) (hlen : ss.length ≤ maxLen) :
    Calls Tryz.prog 14 #[v] w fun e w' => ∃ lv, e = .returned (.tuple #[.pointer (some ⟨w.heap.size, 0, none⟩), lv]) ∧ Ext w w' ∧ OnBook w' w.heap.size (fillL ss) ∧
      w'.ownsRow w.heap.size 53 2 lv (prs (fillL ss)).length (pc (prs (fillL ss))) := by
  obtain ⟨a, cap, e, h1, h2⟩ := hv.shape
  subst e
  have HV := hid hv
  clear hv
  unfold maxLen at hlen
  go_enter Tryz.func14, Tryz.ntmps14
  go_wp2_with fail
  refine (New_any _).mono ?_
  rintro e w1 ⟨rfl, hx1, hB⟩
  have HB := hid (show OnBook w1 w.heap.size [] from ⟨_, hB⟩)
  clear hB
  go_wp2_with fail
  go_loopw [5, 6] (fun lv i wr => ∃ (j : Nat) (la : Option Addr) (lc : Nat), j ≤ ss.length + 1 ∧ j ≤ 61 ∧ lv = .slice la (prs (fillTo ss j)).length lc ∧ i = .int .i64 ((j : Int) - 1) ∧ Ext w wr ∧ OnBook wr w.heap.size (fillTo ss j) ∧ wr.ownsRow w.heap.size 53 2 (.slice la (prs (fillTo ss j)).length lc) (prs (fillTo ss j)).length (pc (prs (fillTo ss j)))) (fun _ i _ => (61 - intOf i).toNat)
  case atStart => exact ⟨0, _, _, by omega, by omega, rfl, rfl, hx1, HB.out, World.ownsRow_nil _ _ _ _⟩
  case round =>
    obtain ⟨WR, rfl⟩ : ∃ x, x = wr := ⟨_, rfl⟩
    obtain ⟨j, la, lc, hj1, hj2, rfl, rfl, hx, hB, hown⟩ := hrel
    obtain ⟨hgood, hk30⟩ := fill_good ss j
    have hlen30 := hk30.len hgood.1
    cases j with
    | zero =>
      generalize hL : fillTo ss 0 = L at *
      obtain ⟨s, hs⟩ : ∃ s, s = st0 := ⟨_, rfl⟩
      have hok : s.Ok := by rw [hs]; exact st0_ok
      have HN0 := hid (show fillTo ss 1 = putS L s by rw [← hL, hs]; rfl)
      have HO := hid hown
      have HBr := hid hB
      have HG := hid hgood
      have HK := hid hk30
      have hxW := (Ext.refl WR).alloc (.cells #[.int .i64 7, .int .i64 3, .int .i64 0, .string ⟨#[102, 105, 114, 115, 116]⟩] 72)
      have d0 := cell_new WR #[.int .i64 7, .int .i64 3, .int .i64 0, .string ⟨#[102, 105, 114, 115, 116]⟩] 72 0
      have d1 := cell_new WR #[.int .i64 7, .int .i64 3, .int .i64 0, .string ⟨#[102, 105, 114, 115, 116]⟩] 72 1
      have d2 := cell_new WR #[.int .i64 7, .int .i64 3, .int .i64 0, .string ⟨#[102, 105, 114, 115, 116]⟩] 72 2
      have d3 := cell_new WR #[.int .i64 7, .int .i64 3, .int .i64 0, .string ⟨#[102, 105, 114, 115, 116]⟩] 72 3
      have hW1 : WR.heap.size < (WR.alloc (.cells #[.int .i64 7, .int .i64 3, .int .i64 0, .string ⟨#[102, 105, 114, 115, 116]⟩] 72)).heap.size := by simp
      have k0 : s.key = 7 := by rw [hs]; rfl
      have k1 : s.h = 3 := by rw [hs]; rfl
      have k2 : s.out = 0 := by rw [hs]; rfl
      have k3 : s.val = ⟨#[102, 105, 114, 115, 116]⟩ := by rw [hs]; rfl
      clear hown hB hL hs hgood hk30
      go_wp2_with fail
      generalize WR.alloc (.cells #[.int .i64 7, .int .i64 3, .int .i64 0, .string ⟨#[102, 105, 114, 115, 116]⟩] 72) = W1 at *
      replace d0 : W1.cell? ⟨WR.heap.size, 0, none⟩ = some (.int .i64 s.key) := by rw [k0]; exact d0
      replace d1 : W1.cell? ⟨WR.heap.size, 1, none⟩ = some (.int .i64 s.h) := by rw [k1]; exact d1
      replace d2 : W1.cell? ⟨WR.heap.size, 2, none⟩ = some (.int .i64 s.out) := by rw [k2]; exact d2
      replace d3 : W1.cell? ⟨WR.heap.size, 3, none⟩ = some (.string s.val) := by rw [k3]; exact d3
      clear k0 k1 k2 k3
      go_cut [8] (fun s8 wx => ∃ pb, s8 = .pointer (some ⟨pb, 0, none⟩) ∧ Ext W1 wx ∧ W1.heap.size ≤ pb ∧ wx.cell? ⟨pb, 0, none⟩ = some (.string (keyC s.key)) ∧ wx.cell? ⟨pb, 1, none⟩ = some (.string (cutB s.val 20)))
      case first =>
        go_region_held3 (fun w' => w'.cell? ⟨WR.heap.size, 0, none⟩ = some (.int .i64 s.key) ∧ w'.cell? ⟨WR.heap.size, 3, none⟩ = some (.string s.val)) (go_keep)
          (first
            | (go_at_call 36; refine (key_any s.key hok.1.1 hok.1.2 _).mono ?_; rintro e w2 ⟨rfl, hx2⟩; have hy2 : Ext W1 w2 := Ext.trans (by first | exact (Ext.refl _).drew | exact ((Ext.refl _).alloc _).drew) hx2; have c0 := hy2.keep1 d0; have c3 := hy2.keep1 d3; try (have hbc := box_cells (Ext.trans (Ext.drew (Ext.refl (W1.alloc (.cells #[.string ⟨#[]⟩, .string ⟨#[]⟩] 53)))) hx2); have bc0 : w2.cell? ⟨W1.heap.size, 0, none⟩ = some (.string ⟨#[]⟩) := hbc.1 0; have bc1 : w2.cell? ⟨W1.heap.size, 1, none⟩ = some (.string ⟨#[]⟩) := hbc.1 1; have bf0 := hbc.2.1 0; have bf1 := hbc.2.1 1; clear hbc; have sf0 := fun u v => set2_far w2 W1.heap.size WR.heap.size 0 u v (by omega) c0; have sf3 := fun u v => set2_far w2 W1.heap.size WR.heap.size 3 u v (by omega) c3))
            | (go_at_call 20; refine (cut_any s.val 20 (by omega) hok.2.2.2 _).mono ?_; rintro e w3 ⟨rfl, rfl⟩))
        all_goals (try go_wp2_with fail)
        all_goals go_meet
        · exact ⟨_, rfl, hy2.alloc _, hy2.size, cell_new _ _ _ 0, cell_new _ _ _ 1⟩
        · exact ⟨_, rfl, hy2.alloc _, hy2.size, cell_new _ _ _ 0, cell_new _ _ _ 1⟩
        · exact ⟨_, rfl, (hy2.setCell (Nat.le_refl _) _).setCell (Nat.le_refl _) _, Nat.le_refl _, (World.cell?_setCell_other _ _ _ _ (by intro q; injection q; omega)).trans (World.cell?_setCell_same _ _ _ bc0), World.cell?_setCell_same _ _ _ ((World.cell?_setCell_other _ _ _ _ (by intro q; injection q; omega)).trans bc1)⟩
      case rest =>
        obtain ⟨W2, rfl⟩ : ∃ x, x = wc := ⟨_, rfl⟩
        obtain ⟨pb, rfl, hxc, hpb, p0, p1⟩ := hcut
        have hxw : Ext w W2 := (hx.trans hxW).trans hxc
        have hbl1 : w.heap.size < WR.heap.size := HBr.out.lt (Ext.refl _)
        have s1 := hxc.keep1 d1
        have s2 := hxc.keep1 d2
        have HOc := hid (owns_ext HO.out (hxW.trans hxc))
        have HBc := hid (HBr.out.ext (hxW.trans hxc))
        clear d0 d1 d2 d3
        have HKB := hid (keyC_key s.key)
        have HPE := hid (putE_step HK.out HG.out.1 s)
        have HPR := hid (putS_pr HK.out HG.out.1 s)
        have HN := hid (show fillTo ss 1 = putL L (keyC s.key) (cutB s.val 20) (pickN s.h 16) from HN0.out)
        rw [show putS L s = putL L (keyC s.key) (cutB s.val 20) (pickN s.h 16) from rfl] at HPR
        generalize hkk : keyC s.key = kk at *
        clear hkk
        have hpl := plc_le L kk
        go_wp2_with fail
        go_loopw [9] (fun at_ wq => ∃ t : Nat, t ≤ plc L kk ∧ at_ = .int .i64 t ∧ Ext W2 wq) (fun at_ _ => L.length - (intOf at_).toNat)
        case atStart => exact ⟨0, Nat.zero_le _, rfl, Ext.refl _⟩
        case round =>
          obtain ⟨t, ht, rfl, hxq⟩ := hrel
          have q0 := hxq.keep1 p0
          by_cases hb : t < plc L kk
          · have hlt : t < L.length := by omega
            have pa := Prs.own (owns_ext HOc.out hxq)
            rcases pa.cases with ⟨_, q⟩ | ⟨b1, o1, c1, q1, _, _, _, g1⟩
            · rw [← prs_length, q] at hlt; simp at hlt
            simp only [Value.slice.injEq] at q1
            obtain ⟨rfl, _, rfl⟩ := q1
            obtain ⟨e1, _⟩ := pair_cells g1 (i := t) (by rw [prs_length]; exact hlt)
            rw [prs_get L t hlt] at e1
            clear g1 pa
            have jj : (t : Int) < ((prs L).length : Int) := by rw [prs_length]; omega
            have hl' : Op.bytesLess L[t].key.toList kk.toList = true := plc_below hb hlt
            go_wp2_with fail
            go_quiet (fail)
            go_wp2_with fail
            go_roundw
            case rel => exact ⟨t + 1, by omega, by go_num, hxq.drewN _⟩
            case measure => simp [intOf]; omega
          · obtain rfl : t = plc L kk := by omega
            clear hb ht
            go_wp2_with fail
            go_cut [55] (fun b wx => b = .bool false ∧ Ext W2 wx)
            case first =>
              by_cases hlt : plc L kk < L.length
              · have pa := Prs.own (owns_ext HOc.out hxq)
                rcases pa.cases with ⟨_, q⟩ | ⟨b1, o1, c1, q1, _, _, _, g1⟩
                · rw [← prs_length, q] at hlt; simp at hlt
                simp only [Value.slice.injEq] at q1
                obtain ⟨rfl, _, rfl⟩ := q1
                obtain ⟨e1, _⟩ := pair_cells g1 (i := plc L kk) (by rw [prs_length]; exact hlt)
                rw [prs_get L _ hlt] at e1
                clear g1 pa
                have jj : (plc L kk : Int) < ((prs L).length : Int) := by rw [prs_length]; omega
                have hl' : Op.bytesLess (L[plc L kk]).key.toList kk.toList = false := plc_at (L := L) (k := kk) hlt
                go_quiet (fail)
                go_wp2_with fail
                go_meet
                exact ⟨rfl, hxq.drewN _⟩
              · have jj : decide (plc L kk < (prs L).length) = false := by rw [prs_length]; simp; omega
                go_quiet (fail)
                go_wp2_with fail
                go_meet
                exact ⟨rfl, hxq.drewN _⟩
            case rest =>
              obtain ⟨W3, rfl⟩ : ∃ x, x = wc := ⟨_, rfl⟩
              obtain ⟨rfl, hxq1⟩ := hcut
              clear hxq q0
              have q1' := hxq1.keep1 p0
              go_wp2_with fail
              go_cut [10] (fun b wx => b = .bool (has L kk) ∧ Ext W2 wx)
              case first =>
                by_cases hlt : plc L kk < L.length
                · have pa := Prs.own (owns_ext HOc.out hxq1)
                  rcases pa.cases with ⟨_, q⟩ | ⟨b1, o1, c1, q1, _, _, _, g1⟩
                  · rw [← prs_length, q] at hlt; simp at hlt
                  simp only [Value.slice.injEq] at q1
                  obtain ⟨rfl, _, rfl⟩ := q1
                  obtain ⟨e1, _⟩ := pair_cells g1 (i := plc L kk) (by rw [prs_length]; exact hlt)
                  rw [prs_get L _ hlt] at e1
                  clear g1 pa
                  have jj : (plc L kk : Int) < ((prs L).length : Int) := by rw [prs_length]; omega
                  have HH := hid (show has L kk = ((L[plc L kk]).key.toList == kk.toList) by unfold has; rw [List.getElem?_eq_getElem hlt]; rfl)
                  go_quiet (fail)
                  go_wp2_with fail
                  go_meet
                  exact ⟨by rw [HH.out], hxq1.drewN _⟩
                · have jj : decide (plc L kk < (prs L).length) = false := by rw [prs_length]; simp; omega
                  have HH := hid (show has L kk = false by unfold has; rw [List.getElem?_eq_none (by omega)])
                  go_quiet (fail)
                  go_wp2_with fail
                  go_meet
                  exact ⟨by rw [HH.out], hxq1.drewN _⟩
              case rest =>
                obtain ⟨Wd, rfl⟩ : ∃ x, x = wc := ⟨_, rfl⟩
                obtain ⟨rfl, hxd⟩ := hcut
                clear hxq1 q1'
                have hod := owns_ext HOc.out hxd
                have hbd := HBc.out.ext hxd
                have hlp : (prs L).length ≤ 1000 := by rw [prs_length]; omega
                have hplp : plc L kk ≤ (prs L).length := by rw [prs_length]; omega
                obtain ⟨_, _, qsh, hcap1, _⟩ := (Prs.own hod).shape
                simp only [Value.slice.injEq] at qsh
                obtain ⟨rfl, _, rfl⟩ := qsh
                have hprs := Prs.own hod
                have hspot : ∀ x, la = some x → x.spot = none := by
                  intro x hx'
                  rcases hod.2 with ⟨q, _⟩ | ⟨g, c, cur, q, _⟩
                  · simp only [Value.slice.injEq] at q; rw [q.1] at hx'; cases hx'
                  · simp only [Value.slice.injEq] at q; rw [q.1] at hx'; cases hx'; rfl
                obtain ⟨V1, e1⟩ : ∃ V, V = sliced la 0 (plc L kk) lc 2 := ⟨_, rfl⟩
                obtain ⟨V2, e2⟩ : ∃ V, V = sliced la (plc L kk) (prs L).length lc 2 := ⟨_, rfl⟩
                have r1 : ∀ w, (Instr.slice 27 (.slice la (prs L).length lc) none (some (.int .i64 (plc L kk : Int))) none).run Tryz.prog w = .ok V1 w := fun w => by rw [e1]; exact cutP_h la _ lc (plc L kk) (by omega) w
                have r2 : ∀ w, (Instr.slice 27 (.slice la (prs L).length lc) (some (.int .i64 (plc L kk : Int))) none none).run Tryz.prog w = .ok V2 w := fun w => by rw [e2]; exact cutP_l la _ lc (plc L kk) (by omega) w
                have i1 := hprs.take hplp
                rw [← e1] at i1
                obtain ⟨VR, hVt, hVf, hVP, hVB⟩ : ∃ VR, (has L kk = true → ∀ w, (Instr.slice 27 (.slice la (prs L).length lc) (some (.int .i64 ((plc L kk : Int) + 1))) none none).run Tryz.prog w = .ok VR w) ∧ (has L kk = false → V2 = VR) ∧
                    Prs Wd VR ((prs L).drop (if has L kk then plc L kk + 1 else plc L kk)) ∧ VR.ownBlock = (Value.slice la (prs L).length lc).ownBlock := by
                  cases hh : has L kk with
                  | true =>
                    obtain ⟨hlt, _⟩ := has_iff.1 hh
                    exact ⟨sliced la (plc L kk + 1) (prs L).length lc 2, fun _ w => (by exact cutP_l la _ lc (plc L kk + 1) (by rw [prs_length]; omega) w), fun h => (by cases h), by simpa using hprs.drop (i := plc L kk + 1) (by rw [prs_length]; omega), sliced_block _ _ _ _ _ _ _ hspot⟩
                  | false => exact ⟨V2, fun h => by (cases h), fun _ => rfl, by rw [e2]; simpa using hprs.drop (i := plc L kk) hplp, by rw [e2]; exact sliced_block _ _ _ _ _ _ _ hspot⟩
                have hVB2 : VR.ownBlock = none ∨ ∃ g, VR.ownBlock = some g ∧ g < Wd.heap.size ∧ g ≠ w.heap.size := by
                  rw [hVB]
                  cases hq : (Value.slice la (prs L).length lc).ownBlock with
                  | none => exact .inl rfl
                  | some g => exact .inr ⟨g, rfl, (hod.lt g hq).2, fun e => by subst e; exact hbd.row_ne hod hq⟩
                obtain ⟨mv, W4, hr1, ho1, hg1⟩ := app_prs Wd.heap.size Wd (.slice none 0 0) V1 [] ((prs L).take (plc L kk)) (Nat.le_refl _) (World.ownsRow_nil _ _ _ _) i1 (by simp; omega)
                rw [List.nil_append] at ho1
                have hx4 : Ext Wd W4 := Ext.of_nil hg1
                have HR1 := hid hr1
                have HO1 := hid ho1
                have HVP := hid (hVP.ext hx4)
                have HVT := hid hVt
                have HVF := hid hVf
                have HVB := hid hVB2
                have HB4 := hid (hbd.ext hx4)
                have hx24 : Ext W2 W4 := hxd.trans hx4
                have p0' := hx24.keep1 p0
                have p1' := hx24.keep1 p1
                have s1' := hx24.keep1 s1
                have s2' := hx24.keep1 s2
                clear hr1 ho1 hg1 hVP hVt hVf hVB2 hVB hod hbd hprs e1 e2 i1 p0 p1 s1 s2 hspot
                go_upto_if 80 with (at_builtin; refine wpList_append_run rfl _ _ 27 27 rfl (.slice none 0 0) V1 rfl rfl _ _ HR1.out ?_)
                go_cut [10, 12] (fun th r wx => Value.bool (has L kk) = th ∧ VR = r ∧ W4 = wx)
                case first =>
                  cases hh : has L kk with
                  | true =>
                    have r3 := HVT.out hh
                    go_wp2_with fail
                    go_meet
                    exact ⟨by rw [hh], rfl, rfl⟩
                  | false =>
                    have r3 := HVF.out hh
                    have HR3 := hid r3
                    clear r3
                    go_wp2_with fail
                    go_meet
                    exact ⟨by rw [hh], HR3.out.symm, rfl⟩
                case rest =>
                  obtain ⟨rfl, rfl, rfl⟩ := hcut
                  clear r1 r2
                  have HE := hid (show putE L kk (cutB s.val 20) (pickN s.h 16) = 0 from HPE.out)
                  go_wp2_with fail
                  go_region_held3 (fun w' => w'.cell? ⟨pb, 0, none⟩ = some (.string kk) ∧ w'.cell? ⟨pb, 1, none⟩ = some (.string (cutB s.val 20)) ∧ w'.cell? ⟨WR.heap.size, 1, none⟩ = some (.int .i64 s.h)) (go_keep)
                    (first
                      | (go_at_call 22; refine (pick_any s.h 16 hok.2.1.1 hok.2.1.2 (by omega) (by omega) _).mono ?_; rintro e w5 ⟨rfl, rfl⟩)
                      | (go_at_call 21; refine (put_bk w.heap.size L kk (cutB s.val 20) (pickN s.h 16) _ (HB4.out.ext (Ext.refl W4).drew)).mono ?_; rintro e W5 ⟨rfl, hB5, hg5⟩; rw [HE.out]; have a0 := hg5.cell (show W4.drew.cell? _ = _ from p0') (by simp; omega); have a1 := hg5.cell (show W4.drew.cell? _ = _ from p1') (by simp; omega); have a2 := hg5.cell (show W4.drew.cell? _ = _ from s1') (by simp; omega)))
                  have hg5' : W4.grownBy W5 (some w.heap.size) := ⟨hg5.os, hg5.tape, hg5.output, hg5.size, hg5.block⟩
                  have ho5 := owns_kept_book HB4.out HO1.out hg5'
                  obtain ⟨mv2, W6, hr2, ho2, hg2⟩ := app_pair Wd.heap.size W5 mv _ (kk, cutB s.val 20) (Nat.le_trans hx4.size hg5'.size) ho5 (by simp; omega)
                  have hVP5 : Prs W5 VR _ := Seg.kept HVP.out hg5' (by rcases HVB.out with h | ⟨g, h, _, hne⟩; exact .inl h; right; rw [h]; simpa using hne)
                  have hVP6 : Prs W6 VR _ := Seg.kept hVP5 hg2 (by rcases HVB.out with h | ⟨g, h, hlt, _⟩; exact .inl h; right; rw [h]; intro q; have := (ho5.lt g q.symm).1; omega)
                  obtain ⟨lv2, W7, hr3, ho3, hg3⟩ := app_prs Wd.heap.size W6 mv2 VR _ _ (Nat.le_trans (Nat.le_trans hx4.size hg5'.size) hg2.size) ho2 hVP6 (by simp; omega)
                  have hx5 : Ext w W5 := Ext.book ((hxw.trans hxd).trans hx4) (Nat.le_refl _) hg5'
                  have hx6 : Ext w W6 := Ext.row2 hx5 ho5 (hxw.trans hxd).size hg2
                  have hx7 : Ext w W7 := Ext.row2 hx6 ho2 (hxw.trans hxd).size hg3
                  have hB7 := (hB5.row ho5 hg2).row ho2 hg3
                  rw [← HPR.out] at ho3
                  obtain ⟨la2, lc2, elv, _⟩ := (Prs.own ho3).shape
                  rw [elv] at ho3 hr3
                  have HR2 := hid hr2
                  have HR3 := hid hr3
                  have HO3 := hid (owns_base ho3 (hxw.trans hxd).size)
                  have HB7 := hid hB7
                  clear hr2 hr3 ho3 ho2 hg2 hg3 hB7 hB5 hg5 hg5' ho5 hVP5 hVP6 elv
                  go_wp2_with (first
                    | (at_builtin; refine wpList_append_run rfl _ _ 27 27 rfl mv (.slice (some ⟨W5.heap.size, 0, none⟩) 1 1) rfl rfl _ _ HR2.out ?_)
                    | (at_builtin; refine wpList_append_run rfl _ _ 27 27 rfl mv2 VR rfl rfl _ _ HR3.out ?_))
                  go_roundw
                  case rel => exact ⟨1, la2, lc2, by omega, by omega, by rw [HN.out], by go_num, hx7, by rw [HN.out]; exact HB7.out, by rw [HN.out]; exact HO3.out⟩
                  case measure => simp [intOf] <;> omega
    | succ j =>
      have ei : ((j + 1 : Nat) : Int) - 1 = (j : Int) := by omega
      rw [ei]
      clear ei
      by_cases hgo : j < ss.length ∧ j < 60
      · obtain ⟨hg1, hg2⟩ := hgo
        generalize hL : fillTo ss (j + 1) = L at *
        obtain ⟨s, hs⟩ : ∃ s, s = ss[j] := ⟨_, rfl⟩
        have hok : s.Ok := by rw [hs]; exact HV.out.2 _ (List.getElem_mem hg1)
        have hstep : fillTo ss (j + 2) = stepL L s := by rw [fillTo_succ ss j hg1, hL, hs]
        obtain ⟨sb0, so0, rfl, hsb, z0, z1, z2, z3⟩ := HV.out.at hg1
        rw [← hs] at z0 z1 z2 z3
        replace z0 := hx.keep1 z0
        replace z1 := hx.keep1 z1
        replace z2 := hx.keep1 z2
        replace z3 := hx.keep1 z3
        have zi : (j : Int) < (ss.length : Int) := by omega
        have zj : (j : Int) < 60 := by omega
        have y0 := fun ob => ((Ext.refl WR).alloc ob).keep1 z0
        have y1 := fun ob => ((Ext.refl WR).alloc ob).keep1 z1
        have y2 := fun ob => ((Ext.refl WR).alloc ob).keep1 z2
        have y3 := fun ob => ((Ext.refl WR).alloc ob).keep1 z3
        clear z0 z1 z2 z3
        have HO := hid hown
        have HBr := hid hB
        have HG := hid hgood
        have HK := hid hk30
        have hxW := (Ext.refl WR).alloc (.cells #[.int .i64 s.key, .int .i64 s.h, .int .i64 s.out, .string s.val] 72)
        have d0 := cell_new WR #[.int .i64 s.key, .int .i64 s.h, .int .i64 s.out, .string s.val] 72 0
        have d1 := cell_new WR #[.int .i64 s.key, .int .i64 s.h, .int .i64 s.out, .string s.val] 72 1
        have d2 := cell_new WR #[.int .i64 s.key, .int .i64 s.h, .int .i64 s.out, .string s.val] 72 2
        have d3 := cell_new WR #[.int .i64 s.key, .int .i64 s.h, .int .i64 s.out, .string s.val] 72 3
        have hW1 : WR.heap.size < (WR.alloc (.cells #[.int .i64 s.key, .int .i64 s.h, .int .i64 s.out, .string s.val] 72)).heap.size := by simp
        clear hown hB hL hs hgood hk30
        by_cases hout : pickN s.out 3 = 0
        · have HN0 := hid (show fillTo ss (j + 2) = delL L (keyC s.key) by rw [hstep, stepL, if_pos hout])
          have HOUT := hid hout
          clear hstep hout
          go_wp2_with fail
          generalize WR.alloc (.cells #[.int .i64 s.key, .int .i64 s.h, .int .i64 s.out, .string s.val] 72) = W1 at *
          replace d0 : W1.cell? ⟨WR.heap.size, 0, none⟩ = some (.int .i64 s.key) := d0
          replace d1 : W1.cell? ⟨WR.heap.size, 1, none⟩ = some (.int .i64 s.h) := d1
          replace d2 : W1.cell? ⟨WR.heap.size, 2, none⟩ = some (.int .i64 s.out) := d2
          replace d3 : W1.cell? ⟨WR.heap.size, 3, none⟩ = some (.string s.val) := d3
          clear y0 y1 y2 y3
          go_cut [8] (fun s8 wx => ∃ pb, s8 = .pointer (some ⟨pb, 0, none⟩) ∧ Ext W1 wx ∧ W1.heap.size ≤ pb ∧ wx.cell? ⟨pb, 0, none⟩ = some (.string (keyC s.key)) ∧ wx.cell? ⟨pb, 1, none⟩ = some (.string (cutB s.val 20)))
          case first =>
            go_region_held3 (fun w' => w'.cell? ⟨WR.heap.size, 0, none⟩ = some (.int .i64 s.key) ∧ w'.cell? ⟨WR.heap.size, 3, none⟩ = some (.string s.val)) (go_keep)
              (first
                | (go_at_call 36; refine (key_any s.key hok.1.1 hok.1.2 _).mono ?_; rintro e w2 ⟨rfl, hx2⟩; have hy2 : Ext W1 w2 := Ext.trans (by first | exact (Ext.refl _).drew | exact ((Ext.refl _).alloc _).drew) hx2; have c0 := hy2.keep1 d0; have c3 := hy2.keep1 d3; try (have hbc := box_cells (Ext.trans (Ext.drew (Ext.refl (W1.alloc (.cells #[.string ⟨#[]⟩, .string ⟨#[]⟩] 53)))) hx2); have bc0 : w2.cell? ⟨W1.heap.size, 0, none⟩ = some (.string ⟨#[]⟩) := hbc.1 0; have bc1 : w2.cell? ⟨W1.heap.size, 1, none⟩ = some (.string ⟨#[]⟩) := hbc.1 1; have bf0 := hbc.2.1 0; have bf1 := hbc.2.1 1; clear hbc; have sf0 := fun u v => set2_far w2 W1.heap.size WR.heap.size 0 u v (by omega) c0; have sf3 := fun u v => set2_far w2 W1.heap.size WR.heap.size 3 u v (by omega) c3))
                | (go_at_call 20; refine (cut_any s.val 20 (by omega) hok.2.2.2 _).mono ?_; rintro e w3 ⟨rfl, rfl⟩))
            all_goals (try go_wp2_with fail)
            all_goals go_meet
            · exact ⟨_, rfl, hy2.alloc _, hy2.size, cell_new _ _ _ 0, cell_new _ _ _ 1⟩
            · exact ⟨_, rfl, hy2.alloc _, hy2.size, cell_new _ _ _ 0, cell_new _ _ _ 1⟩
            · exact ⟨_, rfl, (hy2.setCell (Nat.le_refl _) _).setCell (Nat.le_refl _) _, Nat.le_refl _, (World.cell?_setCell_other _ _ _ _ (by intro q; injection q; omega)).trans (World.cell?_setCell_same _ _ _ bc0), World.cell?_setCell_same _ _ _ ((World.cell?_setCell_other _ _ _ _ (by intro q; injection q; omega)).trans bc1)⟩
          case rest =>
            obtain ⟨W2, rfl⟩ : ∃ x, x = wc := ⟨_, rfl⟩
            obtain ⟨pb, rfl, hxc, hpb, p0, p1⟩ := hcut
            have hxw : Ext w W2 := (hx.trans hxW).trans hxc
            have hbl1 : w.heap.size < WR.heap.size := HBr.out.lt (Ext.refl _)
            have s1 := hxc.keep1 d1
            have s2 := hxc.keep1 d2
            have HOc := hid (owns_ext HO.out (hxW.trans hxc))
            have HBc := hid (HBr.out.ext (hxW.trans hxc))
            clear d0 d1 d2 d3
            have HKB := hid (keyC_key s.key)
            have HPR := hid (prs_del (L := L) (keyC s.key) (keyC_key s.key))
            have HN := hid (show fillTo ss (j + 2) = delL L (keyC s.key) from HN0.out)
            generalize hkk : keyC s.key = kk at *
            clear hkk
            have hpl := plc_le L kk
            go_wp2_with fail
            go_loopw [9] (fun at_ wq => ∃ t : Nat, t ≤ plc L kk ∧ at_ = .int .i64 t ∧ Ext W2 wq) (fun at_ _ => L.length - (intOf at_).toNat)
            case atStart => exact ⟨0, Nat.zero_le _, rfl, Ext.refl _⟩
            case round =>
              obtain ⟨t, ht, rfl, hxq⟩ := hrel
              have q0 := hxq.keep1 p0
              by_cases hb : t < plc L kk
              · have hlt : t < L.length := by omega
                have pa := Prs.own (owns_ext HOc.out hxq)
                rcases pa.cases with ⟨_, q⟩ | ⟨b1, o1, c1, q1, _, _, _, g1⟩
                · rw [← prs_length, q] at hlt; simp at hlt
                simp only [Value.slice.injEq] at q1
                obtain ⟨rfl, _, rfl⟩ := q1
                obtain ⟨e1, _⟩ := pair_cells g1 (i := t) (by rw [prs_length]; exact hlt)
                rw [prs_get L t hlt] at e1
                clear g1 pa
                have jj : (t : Int) < ((prs L).length : Int) := by rw [prs_length]; omega
                have hl' : Op.bytesLess L[t].key.toList kk.toList = true := plc_below hb hlt
                go_wp2_with fail
                go_quiet (fail)
                go_wp2_with fail
                go_roundw
                case rel => exact ⟨t + 1, by omega, by go_num, hxq.drewN _⟩
                case measure => simp [intOf]; omega
              · obtain rfl : t = plc L kk := by omega
                clear hb ht
                go_wp2_with fail
                go_cut [55] (fun b wx => b = .bool false ∧ Ext W2 wx)
                case first =>
                  by_cases hlt : plc L kk < L.length
                  · have pa := Prs.own (owns_ext HOc.out hxq)
                    rcases pa.cases with ⟨_, q⟩ | ⟨b1, o1, c1, q1, _, _, _, g1⟩
                    · rw [← prs_length, q] at hlt; simp at hlt
                    simp only [Value.slice.injEq] at q1
                    obtain ⟨rfl, _, rfl⟩ := q1
                    obtain ⟨e1, _⟩ := pair_cells g1 (i := plc L kk) (by rw [prs_length]; exact hlt)
                    rw [prs_get L _ hlt] at e1
                    clear g1 pa
                    have jj : (plc L kk : Int) < ((prs L).length : Int) := by rw [prs_length]; omega
                    have hl' : Op.bytesLess (L[plc L kk]).key.toList kk.toList = false := plc_at (L := L) (k := kk) hlt
                    go_quiet (fail)
                    go_wp2_with fail
                    go_meet
                    exact ⟨rfl, hxq.drewN _⟩
                  · have jj : decide (plc L kk < (prs L).length) = false := by rw [prs_length]; simp; omega
                    go_quiet (fail)
                    go_wp2_with fail
                    go_meet
                    exact ⟨rfl, hxq.drewN _⟩
                case rest =>
                  obtain ⟨W3, rfl⟩ : ∃ x, x = wc := ⟨_, rfl⟩
                  obtain ⟨rfl, hxq1⟩ := hcut
                  clear hxq q0
                  have q1' := hxq1.keep1 p0
                  go_wp2_with fail
                  go_cut [10] (fun b wx => b = .bool (has L kk) ∧ Ext W2 wx)
                  case first =>
                    by_cases hlt : plc L kk < L.length
                    · have pa := Prs.own (owns_ext HOc.out hxq1)
                      rcases pa.cases with ⟨_, q⟩ | ⟨b1, o1, c1, q1, _, _, _, g1⟩
                      · rw [← prs_length, q] at hlt; simp at hlt
                      simp only [Value.slice.injEq] at q1
                      obtain ⟨rfl, _, rfl⟩ := q1
                      obtain ⟨e1, _⟩ := pair_cells g1 (i := plc L kk) (by rw [prs_length]; exact hlt)
                      rw [prs_get L _ hlt] at e1
                      clear g1 pa
                      have jj : (plc L kk : Int) < ((prs L).length : Int) := by rw [prs_length]; omega
                      have HH := hid (show has L kk = ((L[plc L kk]).key.toList == kk.toList) by unfold has; rw [List.getElem?_eq_getElem hlt]; rfl)
                      go_quiet (fail)
                      go_wp2_with fail
                      go_meet
                      exact ⟨by rw [HH.out], hxq1.drewN _⟩
                    · have jj : decide (plc L kk < (prs L).length) = false := by rw [prs_length]; simp; omega
                      have HH := hid (show has L kk = false by unfold has; rw [List.getElem?_eq_none (by omega)])
                      go_quiet (fail)
                      go_wp2_with fail
                      go_meet
                      exact ⟨by rw [HH.out], hxq1.drewN _⟩
                  case rest =>
                    obtain ⟨Wd, rfl⟩ : ∃ x, x = wc := ⟨_, rfl⟩
                    obtain ⟨rfl, hxd⟩ := hcut
                    clear hxq1 q1'
                    have hod := owns_ext HOc.out hxd
                    have hbd := HBc.out.ext hxd
                    have hlp : (prs L).length ≤ 1000 := by rw [prs_length]; omega
                    have hplp : plc L kk ≤ (prs L).length := by rw [prs_length]; omega
                    obtain ⟨_, _, qsh, hcap1, _⟩ := (Prs.own hod).shape
                    simp only [Value.slice.injEq] at qsh
                    obtain ⟨rfl, _, rfl⟩ := qsh
                    have hprs := Prs.own hod
                    have hspot : ∀ x, la = some x → x.spot = none := by
                      intro x hx'
                      rcases hod.2 with ⟨q, _⟩ | ⟨g, c, cur, q, _⟩
                      · simp only [Value.slice.injEq] at q; rw [q.1] at hx'; cases hx'
                      · simp only [Value.slice.injEq] at q; rw [q.1] at hx'; cases hx'; rfl
                    obtain ⟨V1, e1⟩ : ∃ V, V = sliced la 0 (plc L kk) lc 2 := ⟨_, rfl⟩
                    obtain ⟨V2, e2⟩ : ∃ V, V = sliced la (plc L kk) (prs L).length lc 2 := ⟨_, rfl⟩
                    have r1 : ∀ w, (Instr.slice 27 (.slice la (prs L).length lc) none (some (.int .i64 (plc L kk : Int))) none).run Tryz.prog w = .ok V1 w := fun w => by rw [e1]; exact cutP_h la _ lc (plc L kk) (by omega) w
                    have r2 : ∀ w, (Instr.slice 27 (.slice la (prs L).length lc) (some (.int .i64 (plc L kk : Int))) none none).run Tryz.prog w = .ok V2 w := fun w => by rw [e2]; exact cutP_l la _ lc (plc L kk) (by omega) w
                    have i1 := hprs.take hplp
                    rw [← e1] at i1
                    obtain ⟨VR, hVt, hVf, hVP, hVB⟩ : ∃ VR, (has L kk = true → ∀ w, (Instr.slice 27 (.slice la (prs L).length lc) (some (.int .i64 ((plc L kk : Int) + 1))) none none).run Tryz.prog w = .ok VR w) ∧ (has L kk = false → V2 = VR) ∧
                        Prs Wd VR ((prs L).drop (if has L kk then plc L kk + 1 else plc L kk)) ∧ VR.ownBlock = (Value.slice la (prs L).length lc).ownBlock := by
                      cases hh : has L kk with
                      | true =>
                        obtain ⟨hlt, _⟩ := has_iff.1 hh
                        exact ⟨sliced la (plc L kk + 1) (prs L).length lc 2, fun _ w => (by exact cutP_l la _ lc (plc L kk + 1) (by rw [prs_length]; omega) w), fun h => (by cases h), by simpa using hprs.drop (i := plc L kk + 1) (by rw [prs_length]; omega), sliced_block _ _ _ _ _ _ _ hspot⟩
                      | false => exact ⟨V2, fun h => by (cases h), fun _ => rfl, by rw [e2]; simpa using hprs.drop (i := plc L kk) hplp, by rw [e2]; exact sliced_block _ _ _ _ _ _ _ hspot⟩
                    have hVB2 : VR.ownBlock = none ∨ ∃ g, VR.ownBlock = some g ∧ g < Wd.heap.size ∧ g ≠ w.heap.size := by
                      rw [hVB]
                      cases hq : (Value.slice la (prs L).length lc).ownBlock with
                      | none => exact .inl rfl
                      | some g => exact .inr ⟨g, rfl, (hod.lt g hq).2, fun e => by subst e; exact hbd.row_ne hod hq⟩
                    obtain ⟨mv, W4, hr1, ho1, hg1⟩ := app_prs Wd.heap.size Wd (.slice none 0 0) V1 [] ((prs L).take (plc L kk)) (Nat.le_refl _) (World.ownsRow_nil _ _ _ _) i1 (by simp; omega)
                    rw [List.nil_append] at ho1
                    have hx4 : Ext Wd W4 := Ext.of_nil hg1
                    have HR1 := hid hr1
                    have HO1 := hid ho1
                    have HVP := hid (hVP.ext hx4)
                    have HVT := hid hVt
                    have HVF := hid hVf
                    have HVB := hid hVB2
                    have HB4 := hid (hbd.ext hx4)
                    have hx24 : Ext W2 W4 := hxd.trans hx4
                    have p0' := hx24.keep1 p0
                    have p1' := hx24.keep1 p1
                    have s1' := hx24.keep1 s1
                    have s2' := hx24.keep1 s2
                    clear hr1 ho1 hg1 hVP hVt hVf hVB2 hVB hod hbd hprs e1 e2 i1 p0 p1 s1 s2 hspot
                    go_upto_if 80 with (at_builtin; refine wpList_append_run rfl _ _ 27 27 rfl (.slice none 0 0) V1 rfl rfl _ _ HR1.out ?_)
                    go_cut [10, 12] (fun th r wx => Value.bool (has L kk) = th ∧ VR = r ∧ W4 = wx)
                    case first =>
                      cases hh : has L kk with
                      | true =>
                        have r3 := HVT.out hh
                        go_wp2_with fail
                        go_meet
                        exact ⟨by rw [hh], rfl, rfl⟩
                      | false =>
                        have r3 := HVF.out hh
                        have HR3 := hid r3
                        clear r3
                        go_wp2_with fail
                        go_meet
                        exact ⟨by rw [hh], HR3.out.symm, rfl⟩
                    case rest =>
                      obtain ⟨rfl, rfl, rfl⟩ := hcut
                      clear r1 r2
                      have HDE := hid HKB.out
                      have hde := delE_has (L := L) HKB.out
                      go_wp2_with fail
                      refine (pick_any s.out 3 hok.2.2.1.1 hok.2.2.1.2 (by omega) (by omega) _).mono ?_
                      rintro e w5 ⟨rfl, hw5⟩
                      replace hw5 := hw5.symm
                      subst hw5
                      rw [HOUT.out]
                      go_wp2_with fail
                      refine (del_bk w.heap.size L kk _ HB4.out).mono ?_
                      rintro e W5 ⟨rfl, hB5, hg5⟩
                      have ho5 := owns_kept_book HB4.out HO1.out hg5
                      have hVP5 : Prs W5 VR _ := Seg.kept HVP.out hg5 (by rcases HVB.out with h | ⟨g, h, _, hne⟩; exact .inl h; right; rw [h]; simpa using hne)
                      obtain ⟨lv2, W7, hr3, ho3, hg3⟩ := app_prs Wd.heap.size W5 mv VR _ _ (Nat.le_trans hx4.size hg5.size) ho5 hVP5 (by simp; omega)
                      have hx5 : Ext w W5 := Ext.book ((hxw.trans hxd).trans hx4) (Nat.le_refl _) hg5
                      have hx7 : Ext w W7 := Ext.row2 hx5 ho5 (hxw.trans hxd).size hg3
                      have hB7 := hB5.row ho5 hg3
                      rw [← HPR.out] at ho3
                      obtain ⟨la2, lc2, elv, _⟩ := (Prs.own ho3).shape
                      rw [elv] at ho3 hr3
                      have HR3 := hid hr3
                      have HO3 := hid (owns_base ho3 (hxw.trans hxd).size)
                      have HB7 := hid hB7
                      clear hr3 ho3 hg3 hB7 hB5 hg5 ho5 hVP5 elv
                      go_wp2_with (at_builtin; refine wpList_append_run rfl _ _ 27 27 rfl mv VR rfl rfl _ _ HR3.out ?_)
                      go_roundw
                      case rel => exact ⟨j + 2, la2, lc2, by omega, by omega, by rw [HN.out], by go_num, hx7, by rw [HN.out]; exact HB7.out, by rw [HN.out]; exact HO3.out⟩
                      case measure => simp [intOf] <;> omega
        · have HN0 := hid (show fillTo ss (j + 2) = putS L s by rw [hstep, stepL, if_neg hout])
          have HOUT := hid hout
          clear hstep hout
          go_wp2_with fail
          generalize WR.alloc (.cells #[.int .i64 s.key, .int .i64 s.h, .int .i64 s.out, .string s.val] 72) = W1 at *
          replace d0 : W1.cell? ⟨WR.heap.size, 0, none⟩ = some (.int .i64 s.key) := d0
          replace d1 : W1.cell? ⟨WR.heap.size, 1, none⟩ = some (.int .i64 s.h) := d1
          replace d2 : W1.cell? ⟨WR.heap.size, 2, none⟩ = some (.int .i64 s.out) := d2
          replace d3 : W1.cell? ⟨WR.heap.size, 3, none⟩ = some (.string s.val) := d3
          clear y0 y1 y2 y3
          go_cut [8] (fun s8 wx => ∃ pb, s8 = .pointer (some ⟨pb, 0, none⟩) ∧ Ext W1 wx ∧ W1.heap.size ≤ pb ∧ wx.cell? ⟨pb, 0, none⟩ = some (.string (keyC s.key)) ∧ wx.cell? ⟨pb, 1, none⟩ = some (.string (cutB s.val 20)))
          case first =>
            go_region_held3 (fun w' => w'.cell? ⟨WR.heap.size, 0, none⟩ = some (.int .i64 s.key) ∧ w'.cell? ⟨WR.heap.size, 3, none⟩ = some (.string s.val)) (go_keep)
              (first
                | (go_at_call 36; refine (key_any s.key hok.1.1 hok.1.2 _).mono ?_; rintro e w2 ⟨rfl, hx2⟩; have hy2 : Ext W1 w2 := Ext.trans (by first | exact (Ext.refl _).drew | exact ((Ext.refl _).alloc _).drew) hx2; have c0 := hy2.keep1 d0; have c3 := hy2.keep1 d3; try (have hbc := box_cells (Ext.trans (Ext.drew (Ext.refl (W1.alloc (.cells #[.string ⟨#[]⟩, .string ⟨#[]⟩] 53)))) hx2); have bc0 : w2.cell? ⟨W1.heap.size, 0, none⟩ = some (.string ⟨#[]⟩) := hbc.1 0; have bc1 : w2.cell? ⟨W1.heap.size, 1, none⟩ = some (.string ⟨#[]⟩) := hbc.1 1; have bf0 := hbc.2.1 0; have bf1 := hbc.2.1 1; clear hbc; have sf0 := fun u v => set2_far w2 W1.heap.size WR.heap.size 0 u v (by omega) c0; have sf3 := fun u v => set2_far w2 W1.heap.size WR.heap.size 3 u v (by omega) c3))
                | (go_at_call 20; refine (cut_any s.val 20 (by omega) hok.2.2.2 _).mono ?_; rintro e w3 ⟨rfl, rfl⟩))
            all_goals (try go_wp2_with fail)
            all_goals go_meet
            · exact ⟨_, rfl, hy2.alloc _, hy2.size, cell_new _ _ _ 0, cell_new _ _ _ 1⟩
            · exact ⟨_, rfl, hy2.alloc _, hy2.size, cell_new _ _ _ 0, cell_new _ _ _ 1⟩
            · exact ⟨_, rfl, (hy2.setCell (Nat.le_refl _) _).setCell (Nat.le_refl _) _, Nat.le_refl _, (World.cell?_setCell_other _ _ _ _ (by intro q; injection q; omega)).trans (World.cell?_setCell_same _ _ _ bc0), World.cell?_setCell_same _ _ _ ((World.cell?_setCell_other _ _ _ _ (by intro q; injection q; omega)).trans bc1)⟩
          case rest =>
            obtain ⟨W2, rfl⟩ : ∃ x, x = wc := ⟨_, rfl⟩
            obtain ⟨pb, rfl, hxc, hpb, p0, p1⟩ := hcut
            have hxw : Ext w W2 := (hx.trans hxW).trans hxc
            have hbl1 : w.heap.size < WR.heap.size := HBr.out.lt (Ext.refl _)
            have s1 := hxc.keep1 d1
            have s2 := hxc.keep1 d2
            have HOc := hid (owns_ext HO.out (hxW.trans hxc))
            have HBc := hid (HBr.out.ext (hxW.trans hxc))
            clear d0 d1 d2 d3
            have HKB := hid (keyC_key s.key)
            have HPE := hid (putE_step HK.out HG.out.1 s)
            have HPR := hid (putS_pr HK.out HG.out.1 s)
            have HN := hid (show fillTo ss (j + 2) = putL L (keyC s.key) (cutB s.val 20) (pickN s.h 16) from HN0.out)
            rw [show putS L s = putL L (keyC s.key) (cutB s.val 20) (pickN s.h 16) from rfl] at HPR
            generalize hkk : keyC s.key = kk at *
            clear hkk
            have hpl := plc_le L kk
            go_wp2_with fail
            go_loopw [9] (fun at_ wq => ∃ t : Nat, t ≤ plc L kk ∧ at_ = .int .i64 t ∧ Ext W2 wq) (fun at_ _ => L.length - (intOf at_).toNat)
            case atStart => exact ⟨0, Nat.zero_le _, rfl, Ext.refl _⟩
            case round =>
              obtain ⟨t, ht, rfl, hxq⟩ := hrel
              have q0 := hxq.keep1 p0
              by_cases hb : t < plc L kk
              · have hlt : t < L.length := by omega
                have pa := Prs.own (owns_ext HOc.out hxq)
                rcases pa.cases with ⟨_, q⟩ | ⟨b1, o1, c1, q1, _, _, _, g1⟩
                · rw [← prs_length, q] at hlt; simp at hlt
                simp only [Value.slice.injEq] at q1
                obtain ⟨rfl, _, rfl⟩ := q1
                obtain ⟨e1, _⟩ := pair_cells g1 (i := t) (by rw [prs_length]; exact hlt)
                rw [prs_get L t hlt] at e1
                clear g1 pa
                have jj : (t : Int) < ((prs L).length : Int) := by rw [prs_length]; omega
                have hl' : Op.bytesLess L[t].key.toList kk.toList = true := plc_below hb hlt
                go_wp2_with fail
                go_quiet (fail)
                go_wp2_with fail
                go_roundw
                case rel => exact ⟨t + 1, by omega, by go_num, hxq.drewN _⟩
                case measure => simp [intOf]; omega
              · obtain rfl : t = plc L kk := by omega
                clear hb ht
                go_wp2_with fail
                go_cut [55] (fun b wx => b = .bool false ∧ Ext W2 wx)
                case first =>
                  by_cases hlt : plc L kk < L.length
                  · have pa := Prs.own (owns_ext HOc.out hxq)
                    rcases pa.cases with ⟨_, q⟩ | ⟨b1, o1, c1, q1, _, _, _, g1⟩
                    · rw [← prs_length, q] at hlt; simp at hlt
                    simp only [Value.slice.injEq] at q1
                    obtain ⟨rfl, _, rfl⟩ := q1
                    obtain ⟨e1, _⟩ := pair_cells g1 (i := plc L kk) (by rw [prs_length]; exact hlt)
                    rw [prs_get L _ hlt] at e1
                    clear g1 pa
                    have jj : (plc L kk : Int) < ((prs L).length : Int) := by rw [prs_length]; omega
                    have hl' : Op.bytesLess (L[plc L kk]).key.toList kk.toList = false := plc_at (L := L) (k := kk) hlt
                    go_quiet (fail)
                    go_wp2_with fail
                    go_meet
                    exact ⟨rfl, hxq.drewN _⟩
                  · have jj : decide (plc L kk < (prs L).length) = false := by rw [prs_length]; simp; omega
                    go_quiet (fail)
                    go_wp2_with fail
                    go_meet
                    exact ⟨rfl, hxq.drewN _⟩
                case rest =>
                  obtain ⟨W3, rfl⟩ : ∃ x, x = wc := ⟨_, rfl⟩
                  obtain ⟨rfl, hxq1⟩ := hcut
                  clear hxq q0
                  have q1' := hxq1.keep1 p0
                  go_wp2_with fail
                  go_cut [10] (fun b wx => b = .bool (has L kk) ∧ Ext W2 wx)
                  case first =>
                    by_cases hlt : plc L kk < L.length
                    · have pa := Prs.own (owns_ext HOc.out hxq1)
                      rcases pa.cases with ⟨_, q⟩ | ⟨b1, o1, c1, q1, _, _, _, g1⟩
                      · rw [← prs_length, q] at hlt; simp at hlt
                      simp only [Value.slice.injEq] at q1
                      obtain ⟨rfl, _, rfl⟩ := q1
                      obtain ⟨e1, _⟩ := pair_cells g1 (i := plc L kk) (by rw [prs_length]; exact hlt)
                      rw [prs_get L _ hlt] at e1
                      clear g1 pa
                      have jj : (plc L kk : Int) < ((prs L).length : Int) := by rw [prs_length]; omega
                      have HH := hid (show has L kk = ((L[plc L kk]).key.toList == kk.toList) by unfold has; rw [List.getElem?_eq_getElem hlt]; rfl)
                      go_quiet (fail)
                      go_wp2_with fail
                      go_meet
                      exact ⟨by rw [HH.out], hxq1.drewN _⟩
                    · have jj : decide (plc L kk < (prs L).length) = false := by rw [prs_length]; simp; omega
                      have HH := hid (show has L kk = false by unfold has; rw [List.getElem?_eq_none (by omega)])
                      go_quiet (fail)
                      go_wp2_with fail
                      go_meet
                      exact ⟨by rw [HH.out], hxq1.drewN _⟩
                  case rest =>
                    obtain ⟨Wd, rfl⟩ : ∃ x, x = wc := ⟨_, rfl⟩
                    obtain ⟨rfl, hxd⟩ := hcut
                    clear hxq1 q1'
                    have hod := owns_ext HOc.out hxd
                    have hbd := HBc.out.ext hxd
                    have hlp : (prs L).length ≤ 1000 := by rw [prs_length]; omega
                    have hplp : plc L kk ≤ (prs L).length := by rw [prs_length]; omega
                    obtain ⟨_, _, qsh, hcap1, _⟩ := (Prs.own hod).shape
                    simp only [Value.slice.injEq] at qsh
                    obtain ⟨rfl, _, rfl⟩ := qsh
                    have hprs := Prs.own hod
                    have hspot : ∀ x, la = some x → x.spot = none := by
                      intro x hx'
                      rcases hod.2 with ⟨q, _⟩ | ⟨g, c, cur, q, _⟩
                      · simp only [Value.slice.injEq] at q; rw [q.1] at hx'; cases hx'
                      · simp only [Value.slice.injEq] at q; rw [q.1] at hx'; cases hx'; rfl
                    obtain ⟨V1, e1⟩ : ∃ V, V = sliced la 0 (plc L kk) lc 2 := ⟨_, rfl⟩
                    obtain ⟨V2, e2⟩ : ∃ V, V = sliced la (plc L kk) (prs L).length lc 2 := ⟨_, rfl⟩
                    have r1 : ∀ w, (Instr.slice 27 (.slice la (prs L).length lc) none (some (.int .i64 (plc L kk : Int))) none).run Tryz.prog w = .ok V1 w := fun w => by rw [e1]; exact cutP_h la _ lc (plc L kk) (by omega) w
                    have r2 : ∀ w, (Instr.slice 27 (.slice la (prs L).length lc) (some (.int .i64 (plc L kk : Int))) none none).run Tryz.prog w = .ok V2 w := fun w => by rw [e2]; exact cutP_l la _ lc (plc L kk) (by omega) w
                    have i1 := hprs.take hplp
                    rw [← e1] at i1
                    obtain ⟨VR, hVt, hVf, hVP, hVB⟩ : ∃ VR, (has L kk = true → ∀ w, (Instr.slice 27 (.slice la (prs L).length lc) (some (.int .i64 ((plc L kk : Int) + 1))) none none).run Tryz.prog w = .ok VR w) ∧ (has L kk = false → V2 = VR) ∧
                        Prs Wd VR ((prs L).drop (if has L kk then plc L kk + 1 else plc L kk)) ∧ VR.ownBlock = (Value.slice la (prs L).length lc).ownBlock := by
                      cases hh : has L kk with
                      | true =>
                        obtain ⟨hlt, _⟩ := has_iff.1 hh
                        exact ⟨sliced la (plc L kk + 1) (prs L).length lc 2, fun _ w => (by exact cutP_l la _ lc (plc L kk + 1) (by rw [prs_length]; omega) w), fun h => (by cases h), by simpa using hprs.drop (i := plc L kk + 1) (by rw [prs_length]; omega), sliced_block _ _ _ _ _ _ _ hspot⟩
                      | false => exact ⟨V2, fun h => by (cases h), fun _ => rfl, by rw [e2]; simpa using hprs.drop (i := plc L kk) hplp, by rw [e2]; exact sliced_block _ _ _ _ _ _ _ hspot⟩
                    have hVB2 : VR.ownBlock = none ∨ ∃ g, VR.ownBlock = some g ∧ g < Wd.heap.size ∧ g ≠ w.heap.size := by
                      rw [hVB]
                      cases hq : (Value.slice la (prs L).length lc).ownBlock with
                      | none => exact .inl rfl
                      | some g => exact .inr ⟨g, rfl, (hod.lt g hq).2, fun e => by subst e; exact hbd.row_ne hod hq⟩
                    obtain ⟨mv, W4, hr1, ho1, hg1⟩ := app_prs Wd.heap.size Wd (.slice none 0 0) V1 [] ((prs L).take (plc L kk)) (Nat.le_refl _) (World.ownsRow_nil _ _ _ _) i1 (by simp; omega)
                    rw [List.nil_append] at ho1
                    have hx4 : Ext Wd W4 := Ext.of_nil hg1
                    have HR1 := hid hr1
                    have HO1 := hid ho1
                    have HVP := hid (hVP.ext hx4)
                    have HVT := hid hVt
                    have HVF := hid hVf
                    have HVB := hid hVB2
                    have HB4 := hid (hbd.ext hx4)
                    have hx24 : Ext W2 W4 := hxd.trans hx4
                    have p0' := hx24.keep1 p0
                    have p1' := hx24.keep1 p1
                    have s1' := hx24.keep1 s1
                    have s2' := hx24.keep1 s2
                    clear hr1 ho1 hg1 hVP hVt hVf hVB2 hVB hod hbd hprs e1 e2 i1 p0 p1 s1 s2 hspot
                    go_upto_if 80 with (at_builtin; refine wpList_append_run rfl _ _ 27 27 rfl (.slice none 0 0) V1 rfl rfl _ _ HR1.out ?_)
                    go_cut [10, 12] (fun th r wx => Value.bool (has L kk) = th ∧ VR = r ∧ W4 = wx)
                    case first =>
                      cases hh : has L kk with
                      | true =>
                        have r3 := HVT.out hh
                        go_wp2_with fail
                        go_meet
                        exact ⟨by rw [hh], rfl, rfl⟩
                      | false =>
                        have r3 := HVF.out hh
                        have HR3 := hid r3
                        clear r3
                        go_wp2_with fail
                        go_meet
                        exact ⟨by rw [hh], HR3.out.symm, rfl⟩
                    case rest =>
                      obtain ⟨rfl, rfl, rfl⟩ := hcut
                      clear r1 r2
                      have HE := hid (show putE L kk (cutB s.val 20) (pickN s.h 16) = 0 from HPE.out)
                      go_wp2_with fail
                      refine (pick_any s.out 3 hok.2.2.1.1 hok.2.2.1.2 (by omega) (by omega) _).mono ?_
                      rintro e w5 ⟨rfl, hw5⟩
                      replace hw5 := hw5.symm
                      subst hw5
                      have hne0 : (pickN s.out 3 == 0) = false := by simpa using HOUT.out
                      go_wp2_with fail
                      go_region_held3 (fun w' => w'.cell? ⟨pb, 0, none⟩ = some (.string kk) ∧ w'.cell? ⟨pb, 1, none⟩ = some (.string (cutB s.val 20)) ∧ w'.cell? ⟨WR.heap.size, 1, none⟩ = some (.int .i64 s.h)) (go_keep)
                        (first
                          | (go_at_call 22; refine (pick_any s.h 16 hok.2.1.1 hok.2.1.2 (by omega) (by omega) _).mono ?_; rintro e w5 ⟨rfl, rfl⟩)
                          | (go_at_call 21; refine (put_bk w.heap.size L kk (cutB s.val 20) (pickN s.h 16) _ (HB4.out.ext (Ext.refl W4).drew)).mono ?_; rintro e W5 ⟨rfl, hB5, hg5⟩; rw [HE.out]; have a0 := hg5.cell (show W4.drew.cell? _ = _ from p0') (by simp; omega); have a1 := hg5.cell (show W4.drew.cell? _ = _ from p1') (by simp; omega); have a2 := hg5.cell (show W4.drew.cell? _ = _ from s1') (by simp; omega)))
                      have hg5' : W4.grownBy W5 (some w.heap.size) := ⟨hg5.os, hg5.tape, hg5.output, hg5.size, hg5.block⟩
                      have ho5 := owns_kept_book HB4.out HO1.out hg5'
                      obtain ⟨mv2, W6, hr2, ho2, hg2⟩ := app_pair Wd.heap.size W5 mv _ (kk, cutB s.val 20) (Nat.le_trans hx4.size hg5'.size) ho5 (by simp; omega)
                      have hVP5 : Prs W5 VR _ := Seg.kept HVP.out hg5' (by rcases HVB.out with h | ⟨g, h, _, hne⟩; exact .inl h; right; rw [h]; simpa using hne)
                      have hVP6 : Prs W6 VR _ := Seg.kept hVP5 hg2 (by rcases HVB.out with h | ⟨g, h, hlt, _⟩; exact .inl h; right; rw [h]; intro q; have := (ho5.lt g q.symm).1; omega)
                      obtain ⟨lv2, W7, hr3, ho3, hg3⟩ := app_prs Wd.heap.size W6 mv2 VR _ _ (Nat.le_trans (Nat.le_trans hx4.size hg5'.size) hg2.size) ho2 hVP6 (by simp; omega)
                      have hx5 : Ext w W5 := Ext.book ((hxw.trans hxd).trans hx4) (Nat.le_refl _) hg5'
                      have hx6 : Ext w W6 := Ext.row2 hx5 ho5 (hxw.trans hxd).size hg2
                      have hx7 : Ext w W7 := Ext.row2 hx6 ho2 (hxw.trans hxd).size hg3
                      have hB7 := (hB5.row ho5 hg2).row ho2 hg3
                      rw [← HPR.out] at ho3
                      obtain ⟨la2, lc2, elv, _⟩ := (Prs.own ho3).shape
                      rw [elv] at ho3 hr3
                      have HR2 := hid hr2
                      have HR3 := hid hr3
                      have HO3 := hid (owns_base ho3 (hxw.trans hxd).size)
                      have HB7 := hid hB7
                      clear hr2 hr3 ho3 ho2 hg2 hg3 hB7 hB5 hg5 hg5' ho5 hVP5 hVP6 elv
                      go_wp2_with (first
                        | (at_builtin; refine wpList_append_run rfl _ _ 27 27 rfl mv (.slice (some ⟨W5.heap.size, 0, none⟩) 1 1) rfl rfl _ _ HR2.out ?_)
                        | (at_builtin; refine wpList_append_run rfl _ _ 27 27 rfl mv2 VR rfl rfl _ _ HR3.out ?_))
                      go_roundw
                      case rel => exact ⟨j + 2, la2, lc2, by omega, by omega, by rw [HN.out], by go_num, hx7, by rw [HN.out]; exact HB7.out, by rw [HN.out]; exact HO3.out⟩
                      case measure => simp [intOf] <;> omega
      · have hfin : fillTo ss (j + 1) = fillL ss := by unfold fillL; congr 1; omega
        rw [hfin] at hB hown
        have HB2 := hid hB
        have HO2 := hid hown
        clear hB hown hgood hk30
        by_cases hg1 : j < ss.length
        · have hg2 : ¬ ((j : Int) < 60) := by omega
          go_wp2_with fail
          go_ret2
          exact ⟨_, rfl, hx, HB2.out, HO2.out⟩
        · have hd : ¬ ((j : Int) < (ss.length : Int)) := by omega
          go_wp2_with fail
          go_ret2
          exact ⟨_, rfl, hx, HB2.out, HO2.out⟩
end Go.Proofs.YtjohkmkgmbihkaaGreatDoor
