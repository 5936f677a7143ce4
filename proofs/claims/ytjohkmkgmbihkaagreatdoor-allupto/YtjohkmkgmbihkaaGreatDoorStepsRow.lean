/- A slice of steps that came in, read. -/
import Derived.Test.YtjohkmkgmbihkaaGreatDoorRows
import Derived.Test.YtjohkmkgmbihkaaGreatDoorKeepF
import Derived.Deep.Slices
import Derived.WalkKit
import Derived.ProofKit
import Derived.OpenShut
import Derived.ShutString
import Derived.ChangeOld
import Derived.Below
namespace Go.Proofs.YtjohkmkgmbihkaaGreatDoor
set_option linter.unusedVariables false
open Go.ChangeShapes Go.WideShapes Go.ChangeAt Go.RowKit Go.Deep

instance : Inhabited St := ⟨st0⟩
theorem cells4 (l : List Value) (h : l.length = 4) : ∃ a b c d, l = [a, b, c, d] := by
  match l, h with
  | [a, b, c, d], _ => exact ⟨a, b, c, d, rfl⟩
theorem cells5 (l : List Value) (h : l.length = 5) : ∃ a b c d e, l = [a, b, c, d, e] := by
  match l, h with
  | [a, b, c, d, e], _ => exact ⟨a, b, c, d, e, rfl⟩

section
variable {H : Type} {enc : TypeId × Value → H} {W : World}
theorem cellsStep : Tryz.prog.cellsOf 72 = 4 := by kernel_rfl
theorem cellsInt : Tryz.prog.cellsOf 3 = 1 := by kernel_rfl
theorem cellsStr : Tryz.prog.cellsOf 9 = 1 := by kernel_rfl
theorem steps_of {fuel : Nat} {a : Option Addr} {len cap : Nat} {x : DataW H × List MemPlace} (h : DataW.trod enc Tryz.prog W 0 (fun _ => true) true fuel 35 [.slice a len cap] = some x) :
    ∃ ss : List St, ss.length = len ∧ Sts W (.slice a len cap) ss := by
  rcases open_slice Tryz.underlying35 h with ⟨hcs, _⟩ | ⟨a', len', cap', m, n, D, Pl, hcs, hb, hl, hm, hmm, _, hx⟩
  · simp at hcs
    obtain ⟨rfl, rfl, rfl⟩ := hcs
    exact ⟨[], rfl, ⟨none, 0, rfl, Nat.le_refl _, by simp [maxLen], fun i hi => by simp at hi⟩, fun s hs => by cases hs⟩
  · simp at hcs
    obtain ⟨rfl, rfl, rfl⟩ := hcs
    have hm' : m = cap := by simpa using hmm
    simp only [cellsStep] at hx
    have hel : ∀ i, i < len → ∃ s : St, s.Ok ∧ ∃ b o, a' = ⟨b, o, none⟩ ∧ b < W.heap.size ∧
        W.cell? ⟨b, o + i * 4, none⟩ = some (.int .i64 s.key) ∧ W.cell? ⟨b, o + i * 4 + 1, none⟩ = some (.int .i64 s.h) ∧ W.cell? ⟨b, o + i * 4 + 2, none⟩ = some (.int .i64 s.out) ∧ W.cell? ⟨b, o + i * 4 + 3, none⟩ = some (.string s.val) := by
      intro i hi
      obtain ⟨cs', hc, ht⟩ := hx i (by omega)
      obtain ⟨_, hlen, hcell⟩ := World.cells?_some hc
      obtain ⟨c0, c1, c2, c3, rfl⟩ := cells4 cs' hlen
      obtain ⟨xs, n', _, _, _, hxl, hfl⟩ := DataW.trod_struct Tryz.underlying72 ht
      have hx4 : xs.length = 4 := hxl
      have f0 : DataW.trod enc Tryz.prog W 0 (fun _ => true) true n' 3 (([c0, c1, c2, c3].drop 0).take (Tryz.prog.cellsOf 3)) = xs[0]? := hfl 0 _ rfl
      have f1 : DataW.trod enc Tryz.prog W 0 (fun _ => true) true n' 3 (([c0, c1, c2, c3].drop 1).take (Tryz.prog.cellsOf 3)) = xs[1]? := hfl 1 _ rfl
      have f2 : DataW.trod enc Tryz.prog W 0 (fun _ => true) true n' 3 (([c0, c1, c2, c3].drop 2).take (Tryz.prog.cellsOf 3)) = xs[2]? := hfl 2 _ rfl
      have f3 : DataW.trod enc Tryz.prog W 0 (fun _ => true) true n' 9 (([c0, c1, c2, c3].drop 3).take (Tryz.prog.cellsOf 9)) = xs[3]? := hfl 3 _ rfl
      rw [List.getElem?_eq_getElem (by omega)] at f0 f1 f2 f3
      rw [cellsInt] at f0 f1 f2
      rw [cellsStr] at f3
      obtain ⟨n0, e0, _, w0⟩ := DataW.trod_int Tryz.underlying3 f0
      obtain ⟨n1, e1, _, w1⟩ := DataW.trod_int Tryz.underlying3 f1
      obtain ⟨n2, e2, _, w2⟩ := DataW.trod_int Tryz.underlying3 f2
      obtain ⟨s3, e3, _, w3⟩ := DataW.trod_string Tryz.underlying9 f3
      simp at e0 e1 e2 e3
      subst e0 e1 e2 e3
      obtain ⟨b, o, spot⟩ := a'
      have g0 := hcell 0 (by omega)
      have g1 := hcell 1 (by omega)
      have g2 := hcell 2 (by omega)
      have g3 := hcell 3 (by omega)
      have hspot : spot = none := by
        obtain ⟨cs0, hc0, _⟩ := hx 0 (by omega)
        obtain ⟨_, hl0, hcell0⟩ := World.cells?_some hc0
        have q := hcell0 0 (by omega)
        rw [List.getElem?_eq_getElem (by omega)] at q
        simpa [Addr.add] using World.cell?_spot q
      subst hspot
      rw [addr_add, addr_add] at g0 g1 g2 g3
      exact ⟨⟨n0, n1, n2, s3⟩, ⟨bounds_i64 w0, bounds_i64 w1, bounds_i64 w2, w3⟩, b, o, rfl, World.block_lt_of_cell? W _ g0, g0, g1, g2, g3⟩
    obtain ⟨F, hF⟩ := choose_lt (α := St) (p := fun i s => s.Ok ∧ ∃ b o, a' = ⟨b, o, none⟩ ∧ b < W.heap.size ∧
        W.cell? ⟨b, o + i * 4, none⟩ = some (.int .i64 s.key) ∧ W.cell? ⟨b, o + i * 4 + 1, none⟩ = some (.int .i64 s.h) ∧ W.cell? ⟨b, o + i * 4 + 2, none⟩ = some (.int .i64 s.out) ∧ W.cell? ⟨b, o + i * 4 + 3, none⟩ = some (.string s.val)) hel
    refine ⟨(List.range len).map F, by simp, ⟨some a', cap, by simp, by simpa using hl, hm, fun i hi => ?_⟩, ?_⟩
    · simp at hi
      obtain ⟨_, b, o, q1, q2, q3⟩ := hF i hi
      simp only [List.getElem_map, List.getElem_range]
      exact ⟨b, o, by rw [q1], q2, q3⟩
    · intro s hs
      simp at hs
      obtain ⟨i, hi, rfl⟩ := hs
      exact (hF i hi).1
end
end Go.Proofs.YtjohkmkgmbihkaaGreatDoor
