/- What goes over an answer, from the whole; what is told of an answer's bytes; what is read. -/
import Derived.Test.YtjohkmkgmbihkaaGreatDoorOverH
namespace Go.Proofs.YtjohkmkgmbihkaaGreatDoor
open Go.ChangeShapes Go.WideShapes Go.ChangeAt Go.RowKit
set_option linter.unusedVariables false
abbrev e0 : ByteArray := ⟨#[]⟩

set_option maxHeartbeats 2000000 in
set_option maxRecDepth 100000 in
theorem wholeF_any (lo hi : ByteArray) (q : Nat) (t : AT) (p : Option Addr) (d : ByteArray) (w : World) (hq : w.heap[q]? = some (.cells #[.string lo, .string hi] 77)) (ha : AIn w t p d) :
    Calls Tryz.prog 110 #[.agg #[fF1 q, fF2 q, fF3 q], .agg #[.pointer p, .string d]] w fun e w' => ∃ v, e = .returned v ∧ Ext w w' ∧ RErr (okT lo hi t e0 e0) v := by
  have hx := ((Ext.refl w).alloc (.cells #[fF1 q, fF2 q, fF3 q] 174)).alloc (.cells #[.pointer p, .string d] 82)
  have HC := hid (partF_any lo hi q t p d e0 e0 _ (hx.row hq) (ha.ext hx))
  have HX := hid hx
  clear hq ha hx
  go_enter Tryz.func110, Tryz.ntmps110
  go_wp2_with fail
  refine HC.out.mono ?_
  rintro e w1 ⟨v, rfl, hx1, hv⟩
  have HV := hid hv
  have hX1 := HX.out.trans hx1
  rcases hv.shape with ⟨_, rfl⟩ | ⟨_, _, t1, u1, rfl⟩
  all_goals
    clear hv
    go_wp2_with fail
    go_ret
    exact ⟨_, rfl, hX1, HV.out⟩

set_option maxHeartbeats 2000000 in
set_option maxRecDepth 100000 in
theorem wholeP_any (lo hi : ByteArray) (q : Nat) (t : AT) (hc : cnt t ≤ 50) (p : Option Addr) (d : ByteArray) (w : World) (hq : w.heap[q]? = some (.cells #[.string lo, .string hi] 77)) (ha : AIn w t p d) :
    Calls Tryz.prog 79 #[.agg #[fP1 q, fP2 q, fP3 q], .agg #[.pointer p, .string d]] w fun e w' => ∃ v, e = .returned v ∧ Ext w w' ∧ ROwn w w' (prsT lo hi t) v := by
  have hx := ((Ext.refl w).alloc (.cells #[fP1 q, fP2 q, fP3 q] 141)).alloc (.cells #[.pointer p, .string d] 82)
  have HC := hid (partP_any lo hi q t p d e0 e0 _ hc (hx.row hq) (ha.ext hx))
  have HX := hid hx
  clear hq ha hx
  go_enter Tryz.func79, Tryz.ntmps79
  go_wp2_with fail
  refine HC.out.mono ?_
  rintro e w1 ⟨v, rfl, hx1, hv⟩
  have HV := hid (owns_base hv HX.out.size)
  have hX1 := HX.out.trans hx1
  obtain ⟨va, vc, rfl⟩ := hv.shape
  clear hv
  go_wp2_with fail
  go_ret
  exact ⟨_, rfl, hX1, HV.out⟩

set_option maxHeartbeats 2000000 in
set_option maxRecDepth 100000 in
theorem TFault_any (lo hi : ByteArray) (t : AT) (p : Option Addr) (d : ByteArray) (w : World) (ha : AIn w t p d) :
    Calls Tryz.prog 71 #[.agg #[.pointer p, .string d], .agg #[.string lo, .string hi]] w fun e w' => ∃ v, e = .returned v ∧ Ext w w' ∧ RErr (okT lo hi t e0 e0) v := by
  have hx := ((Ext.refl w).alloc (.cells #[.pointer p, .string d] 82)).alloc (.cells #[.string lo, .string hi] 77)
  have hq := heap_alloc2_new w (.cells #[.pointer p, .string d] 82) (.cells #[.string lo, .string hi] 77)
  have HC := hid (wholeF_any lo hi (w.heap.size + 1) t p d _ hq (ha.ext hx))
  have HX := hid hx
  clear hq ha hx
  go_enter Tryz.func71, Tryz.ntmps71
  go_wp2_with fail
  refine HC.out.mono ?_
  rintro e w1 ⟨v, rfl, hx1, hv⟩
  have HV := hid hv
  have hX1 := HX.out.trans hx1
  rcases hv.shape with ⟨_, rfl⟩ | ⟨_, _, t1, u1, rfl⟩
  all_goals
    clear hv
    go_wp2_with fail
    go_ret
    exact ⟨_, rfl, hX1, HV.out⟩

set_option maxHeartbeats 2000000 in
set_option maxRecDepth 100000 in
theorem TPairs_any (lo hi : ByteArray) (t : AT) (hc : cnt t ≤ 50) (p : Option Addr) (d : ByteArray) (w : World) (ha : AIn w t p d) :
    Calls Tryz.prog 44 #[.agg #[.pointer p, .string d], .agg #[.string lo, .string hi]] w fun e w' => ∃ v, e = .returned v ∧ Ext w w' ∧ ROwn w w' (prsT lo hi t) v := by
  have hx := ((Ext.refl w).alloc (.cells #[.pointer p, .string d] 82)).alloc (.cells #[.string lo, .string hi] 77)
  have hq := heap_alloc2_new w (.cells #[.pointer p, .string d] 82) (.cells #[.string lo, .string hi] 77)
  have HC := hid (wholeP_any lo hi (w.heap.size + 1) t hc p d _ hq (ha.ext hx))
  have HX := hid hx
  clear hq ha hx
  go_enter Tryz.func44, Tryz.ntmps44
  go_wp2_with fail
  refine HC.out.mono ?_
  rintro e w1 ⟨v, rfl, hx1, hv⟩
  have HV := hid (owns_base hv HX.out.size)
  have hX1 := HX.out.trans hx1
  obtain ⟨va, vc, rfl⟩ := hv.shape
  clear hv
  go_wp2_with fail
  go_ret
  exact ⟨_, rfl, hX1, HV.out⟩

set_option maxHeartbeats 2000000 in
set_option maxRecDepth 100000 in
theorem wholeT_any (t : AT) (hc : cnt t ≤ 50) (ho : okA t) (p : Option Addr) (d : ByteArray) (w : World) (ha : AIn w t p d) :
    Calls Tryz.prog 115 #[.agg #[fT1, fT2, fT3], .agg #[.pointer p, .string d]] w fun e w' => ∃ v, e = .returned v ∧ Ext w w' ∧ RTold w w' t v := by
  have hx := (((Ext.refl w).alloc ovT).alloc (.cells #[.pointer p, .string d] 82)).alloc nilR
  have hb := heap_alloc2_new (w.alloc ovT) (.cells #[.pointer p, .string d] 82) nilR
  have es : (w.alloc ovT).heap.size = w.heap.size + 1 := by simp
  rw [es] at hb
  have HC := hid (partT_any t p d e0 e0 _ hc ho (ha.ext hx))
  have HX := hid hx
  clear ha hx es
  go_enter Tryz.func115, Tryz.ntmps115
  go_wp2_with fail
  refine HC.out.mono ?_
  rintro e w1 ⟨v, rfl, hx1, hv⟩
  obtain ⟨dd, a1, n1, c1, rfl⟩ := hv.shape
  have hb1 := hx1.row hb
  have s0 : w1.cell? ⟨w.heap.size + 1 + 1, 0, none⟩ = some (.string ⟨#[]⟩) := cell_of_row _ _ 0 _ _ _ hb1
  have s1 : w1.cell? ⟨w.heap.size + 1 + 1, 1, none⟩ = some (.slice none 0 0) := cell_of_row _ _ 1 _ _ _ hb1
  have sf := row_frz hb1
  have HB := hid (told_store hv hb1 (row_lt hb))
  have HX1 := hid (HX.out.trans hx1)
  have HS := hid HX.out.size
  clear hv hx1 hb1 hb
  go_wp2_with fail
  exact ret_R (p := 4) (by kernel_rfl) rfl HB.out.1 ⟨_, rfl, (HX1.out.setCell (by simp; omega) _).setCell (by simp; omega) _, HB.out.2.base HS.out⟩

set_option maxHeartbeats 2000000 in
set_option maxRecDepth 100000 in
theorem Told_any (t : AT) (hc : cnt t ≤ 50) (ho : okA t) (p : Option Addr) (d : ByteArray) (w : World) (ha : AIn w t p d) :
    Calls Tryz.prog 72 #[.agg #[.pointer p, .string d]] w fun e w' => ∃ v, e = .returned v ∧ Ext w w' ∧ RTold w w' t v := by
  have hx := ((Ext.refl w).alloc (.cells #[.pointer p, .string d] 82)).alloc nilR
  have hb := heap_alloc2_new w (.cells #[.pointer p, .string d] 82) nilR
  have HC := hid (wholeT_any t hc ho p d _ (ha.ext hx))
  have HX := hid hx
  clear ha hx
  go_enter Tryz.func72, Tryz.ntmps72
  go_wp2_with fail
  refine HC.out.mono ?_
  rintro e w1 ⟨v, rfl, hx1, hv⟩
  obtain ⟨dd, a1, n1, c1, rfl⟩ := hv.shape
  have hb1 := hx1.row hb
  have s0 : w1.cell? ⟨w.heap.size + 1, 0, none⟩ = some (.string ⟨#[]⟩) := cell_of_row _ _ 0 _ _ _ hb1
  have s1 : w1.cell? ⟨w.heap.size + 1, 1, none⟩ = some (.slice none 0 0) := cell_of_row _ _ 1 _ _ _ hb1
  have sf := row_frz hb1
  have HB := hid (told_store hv hb1 (row_lt hb))
  have HX1 := hid (HX.out.trans hx1)
  have HS := hid HX.out.size
  clear hv hx1 hb1 hb
  go_wp2_with fail
  exact ret_R (p := 2) (by kernel_rfl) rfl HB.out.1 ⟨_, rfl, (HX1.out.setCell (by simp) _).setCell (by simp) _, HB.out.2.base HS.out⟩

set_option maxHeartbeats 2000000 in
set_option maxRecDepth 100000 in
theorem TDigest_any (t : AT) (hc : cnt t ≤ 50) (ho : okA t) (p : Option Addr) (d : ByteArray) (w : World) (ha : AIn w t p d) :
    Calls Tryz.prog 43 #[.agg #[.pointer p, .string d]] w fun e w' => e = .returned (.string (digT t)) ∧ Ext w w' := by
  have hx := (Ext.refl w).alloc (.cells #[.pointer p, .string d] 82)
  have hfl : ∀ x y w, (Instr.field 131 (.agg #[.string x, y]) 0).run Tryz.prog w = .ok (.string x) w := fun x y w => by first | kernel_rfl | rfl
  have HC := hid (Told_any t hc ho p d _ (ha.ext hx))
  have HX := hid hx
  clear ha hx
  go_enter Tryz.func43, Tryz.ntmps43
  go_wp2_with fail
  refine HC.out.mono ?_
  rintro e w1 ⟨v, rfl, hx1, a1, n1, c1, rfl, _⟩
  go_wp2_with fail
  go_ret
  exact ⟨rfl, HX.out.trans hx1⟩
end Go.Proofs.YtjohkmkgmbihkaaGreatDoor

namespace Go.Proofs.YtjohkmkgmbihkaaGreatDoor
set_option linter.unusedVariables false
/-- What a reader gives. -/
def Gives (g : Rdr) : Prop := ∀ s n t r m, g s n = some (t, r, m) → okA t ∧ cnt t + n = m
theorem ent_ok {s r : ByteArray} {x : It} (h : ent s = some (x, r)) : fault x.key x.val x.h = 0 := by
  unfold ent at h
  split at h
  · cases h
  next k r1 h1 =>
  split at h
  · cases h
  next v r2 h2 =>
  split at h
  · cases h
  next hh r3 h3 =>
  split at h
  next hf =>
    simp only [Option.some.injEq, Prod.mk.injEq] at h
    obtain ⟨rfl, _⟩ := h
    exact hf
  · cases h
theorem rdN_gives {g : Rdr} (hg : Gives g) {s r : ByteArray} {n m : Nat} {t : AT} (h : rdN g s n = some (t, r, m)) : okA t ∧ cnt t + n = m := by
  unfold rdN at h
  split at h
  · cases h
  split at h
  · cases h
  next x s1 h1 =>
  split at h
  · cases h
  next l s2 n2 h2 =>
  split at h
  · cases h
  next q s3 n3 h3 =>
  simp only [Option.some.injEq, Prod.mk.injEq] at h
  obtain ⟨rfl, rfl, rfl⟩ := h
  have a := ent_ok h1
  have b := hg _ _ _ _ _ h2
  have c := hg _ _ _ _ _ h3
  exact ⟨⟨a, b.1, c.1⟩, by simp only [cnt]; omega⟩
theorem rdS_gives {s r : ByteArray} {n m : Nat} {t : AT} (h : rdS s n = some (t, r, m)) : okA t ∧ cnt t + n = m := by
  unfold rdS at h
  split at h
  · cases h
  next d q hq =>
  split at h
  · simp only [Option.some.injEq, Prod.mk.injEq] at h
    obtain ⟨rfl, rfl, rfl⟩ := h
    exact ⟨(tk_size hq).1, by simp [cnt]⟩
  · cases h
theorem rdW_gives {g : Rdr} (hg : Gives g) : Gives (rdW g) := by
  intro s n t r m h
  unfold rdW at h
  split at h
  · cases h
  split at h
  · exact rdN_gives hg h
  split at h
  · simp only [Option.some.injEq, Prod.mk.injEq] at h
    obtain ⟨rfl, rfl, rfl⟩ := h
    exact ⟨trivial, by simp [cnt]⟩
  split at h
  · exact rdS_gives h
  · cases h
theorem rd_gives : ∀ f, Gives (rd f)
  | 0 => rdW_gives (fun s n t r m h => by cases h)
  | f + 1 => rdW_gives (rd_gives f)
theorem rdA_gives {s : ByteArray} {t : AT} (h : rdA s = some t) : okA t ∧ cnt t ≤ 50 := by
  unfold rdA at h
  split at h
  · cases h
  next q r n hq =>
  split at h
  · simp only [Option.some.injEq] at h
    subst h
    have a := rd_gives 50 _ _ _ _ _ hq
    have b := rd_less 50 _ _ _ _ _ hq (by omega)
    exact ⟨a.1, by omega⟩
  · cases h
end Go.Proofs.YtjohkmkgmbihkaaGreatDoor
