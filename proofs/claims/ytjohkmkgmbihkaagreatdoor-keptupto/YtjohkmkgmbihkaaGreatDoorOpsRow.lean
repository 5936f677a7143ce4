/- A slice of the law's steps that came in, read. -/
import Derived.Test.YtjohkmkgmbihkaaGreatDoorStepsRow
import Derived.Test.YtjohkmkgmbihkaaGreatDoorLawJ
namespace Go.Proofs.YtjohkmkgmbihkaaGreatDoor
set_option linter.unusedVariables false
open Go.ChangeShapes Go.WideShapes Go.ChangeAt Go.RowKit Go.Deep

instance : Inhabited Oq := ⟨⟨0, 0, 0, ⟨#[]⟩, ⟨#[]⟩⟩⟩
theorem bulk_one {H : Type} (d : DataW H) : 1 ≤ Rows.uptoBulk d := by
  cases d with
  | lit l => cases l <;> simp [Rows.uptoBulk]
  | nil => simp [Rows.uptoBulk]
  | ptr d => simp [Rows.uptoBulk]
  | slice elems spare => simp [Rows.uptoBulk]
  | agg parts => simp [Rows.uptoBulk]
  | iface t d => simp [Rows.uptoBulk]
  | map entries => simp [Rows.uptoBulk]
  | held h => simp [Rows.uptoBulk]
theorem bulk_length {H : Type} (l : List (DataW H)) : l.length ≤ Rows.uptoBulkAll l := by
  induction l with
  | nil => simp [Rows.uptoBulkAll]
  | cons x r ih => have := bulk_one x; simp only [Rows.uptoBulkAll, List.length_cons]; omega

section
variable {H : Type} {enc : TypeId × Value → H} {W : World}
theorem cellsOp : Tryz.prog.cellsOf 64 = 5 := by kernel_rfl
theorem ops_of {fuel : Nat} {a : Option Addr} {len cap : Nat} {x : DataW H × List MemPlace} (h : DataW.trod enc Tryz.prog W 0 (fun _ => true) true fuel 22 [.slice a len cap] = some x) :
    (∃ ss : List Oq, ss.length = len ∧ Oqs W (.slice a len cap) ss) ∧ len ≤ Rows.uptoBulk x.1 := by
  rcases open_slice Tryz.underlying22 h with ⟨hcs, _⟩ | ⟨a', len', cap', m, n, D, Pl, hcs, hb, hl, hm, hmm, hxx, hx⟩
  · simp at hcs
    obtain ⟨rfl, rfl, rfl⟩ := hcs
    exact ⟨⟨[], rfl, ⟨none, 0, rfl, Nat.le_refl _, by simp [maxLen], fun i hi => by simp at hi⟩, fun s hs => by cases hs⟩, Nat.zero_le _⟩
  · simp at hcs
    obtain ⟨rfl, rfl, rfl⟩ := hcs
    have hm' : m = cap := by simpa using hmm
    refine ⟨?_, ?_⟩
    · simp only [cellsOp] at hx
      have hel : ∀ i, i < len → ∃ s : Oq, s.Ok ∧ ∃ b o, a' = ⟨b, o, none⟩ ∧ b < W.heap.size ∧
          W.cell? ⟨b, o + i * 5, none⟩ = some (.int .i64 s.k) ∧ W.cell? ⟨b, o + i * 5 + 1, none⟩ = some (.int .i64 s.bk) ∧ W.cell? ⟨b, o + i * 5 + 2, none⟩ = some (.int .i64 s.h) ∧ W.cell? ⟨b, o + i * 5 + 3, none⟩ = some (.string s.S) ∧ W.cell? ⟨b, o + i * 5 + 4, none⟩ = some (.string s.T) := by
        intro i hi
        obtain ⟨cs', hc, ht⟩ := hx i (by omega)
        obtain ⟨_, hlen, hcell⟩ := World.cells?_some hc
        obtain ⟨c0, c1, c2, c3, c4, rfl⟩ := cells5 cs' hlen
        obtain ⟨xs, n', _, _, _, hxl, hfl⟩ := DataW.trod_struct Tryz.underlying64 ht
        have hx5 : xs.length = 5 := hxl
        have f0 : DataW.trod enc Tryz.prog W 0 (fun _ => true) true n' 3 (([c0, c1, c2, c3, c4].drop 0).take (Tryz.prog.cellsOf 3)) = xs[0]? := hfl 0 _ rfl
        have f1 : DataW.trod enc Tryz.prog W 0 (fun _ => true) true n' 3 (([c0, c1, c2, c3, c4].drop 1).take (Tryz.prog.cellsOf 3)) = xs[1]? := hfl 1 _ rfl
        have f2 : DataW.trod enc Tryz.prog W 0 (fun _ => true) true n' 3 (([c0, c1, c2, c3, c4].drop 2).take (Tryz.prog.cellsOf 3)) = xs[2]? := hfl 2 _ rfl
        have f3 : DataW.trod enc Tryz.prog W 0 (fun _ => true) true n' 9 (([c0, c1, c2, c3, c4].drop 3).take (Tryz.prog.cellsOf 9)) = xs[3]? := hfl 3 _ rfl
        have f4 : DataW.trod enc Tryz.prog W 0 (fun _ => true) true n' 9 (([c0, c1, c2, c3, c4].drop 4).take (Tryz.prog.cellsOf 9)) = xs[4]? := hfl 4 _ rfl
        rw [List.getElem?_eq_getElem (by omega)] at f0 f1 f2 f3 f4
        rw [cellsInt] at f0 f1 f2
        rw [cellsStr] at f3 f4
        obtain ⟨n0, e0, _, w0⟩ := DataW.trod_int Tryz.underlying3 f0
        obtain ⟨n1, e1, _, w1⟩ := DataW.trod_int Tryz.underlying3 f1
        obtain ⟨n2, e2, _, w2⟩ := DataW.trod_int Tryz.underlying3 f2
        obtain ⟨s3, e3, _, w3⟩ := DataW.trod_string Tryz.underlying9 f3
        obtain ⟨s4, e4, _, w4⟩ := DataW.trod_string Tryz.underlying9 f4
        simp at e0 e1 e2 e3 e4
        subst e0 e1 e2 e3 e4
        obtain ⟨b, o, spot⟩ := a'
        have g0 := hcell 0 (by omega)
        have g1 := hcell 1 (by omega)
        have g2 := hcell 2 (by omega)
        have g3 := hcell 3 (by omega)
        have g4 := hcell 4 (by omega)
        have hspot : spot = none := by
          obtain ⟨cs0, hc0, _⟩ := hx 0 (by omega)
          obtain ⟨_, hl0, hcell0⟩ := World.cells?_some hc0
          have q := hcell0 0 (by omega)
          rw [List.getElem?_eq_getElem (by omega)] at q
          simpa [Addr.add] using World.cell?_spot q
        subst hspot
        rw [addr_add, addr_add] at g0 g1 g2 g3 g4
        exact ⟨⟨n0, n1, n2, s3, s4⟩, ⟨bounds_i64 w0, bounds_i64 w1, bounds_i64 w2, w3, w4⟩, b, o, rfl, World.block_lt_of_cell? W _ g0, g0, g1, g2, g3, g4⟩
      obtain ⟨F, hF⟩ := choose_lt (α := Oq) (p := fun i s => s.Ok ∧ ∃ b o, a' = ⟨b, o, none⟩ ∧ b < W.heap.size ∧
          W.cell? ⟨b, o + i * 5, none⟩ = some (.int .i64 s.k) ∧ W.cell? ⟨b, o + i * 5 + 1, none⟩ = some (.int .i64 s.bk) ∧ W.cell? ⟨b, o + i * 5 + 2, none⟩ = some (.int .i64 s.h) ∧ W.cell? ⟨b, o + i * 5 + 3, none⟩ = some (.string s.S) ∧ W.cell? ⟨b, o + i * 5 + 4, none⟩ = some (.string s.T)) hel
      refine ⟨(List.range len).map F, by simp, ⟨some a', cap, by simp, by simpa using hl, hm, fun i hi => ?_⟩, ?_⟩
      · simp at hi
        obtain ⟨_, b, o, q1, q2, q3⟩ := hF i hi
        simp only [List.getElem_map, List.getElem_range]
        exact ⟨b, o, by rw [q1], q2, q3⟩
      · intro s hs
        simp at hs
        obtain ⟨i, hi, rfl⟩ := hs
        exact (hF i hi).1
    · rw [hxx]
      have := bulk_length ((List.range len).map D)
      simp only [List.length_map, List.length_range] at this
      simp only [Rows.uptoBulk]
      omega
end
end Go.Proofs.YtjohkmkgmbihkaaGreatDoor
