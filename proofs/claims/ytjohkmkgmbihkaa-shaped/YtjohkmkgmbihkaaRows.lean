/-
  No cell of these rows narrows 'for every input' (looked for: loops, veiled, ifaces, maps, wideKeys, modest, calm, conditions, laid).
  DERIVED. THE GIVEN ROWS OF THIS SEAT. 4 by the template 'for every input the law returns true; each argument reads behind the call as it read before'; 0 by the template 'total and deterministic' (their statements: YtjohkmkgmbihkaaTotals.lean).
  GIVEN WITH THE SEED: the statements are not yours to turn. If you find one false, say at which input.
  Laid BY PROGRAM, IN A SANDBOX (cutbox-rows.mjs): the forced cells as the released guide's own fill.sh prints them over the translation d4c1cf2bda5a3d1e… (all of the seat's roots in one cut). By AI agents, Wed Nov 11 2026. No macro, syntax, notation, axiom, sorry.
-/
import Derived.Test.YtjohkmkgmbihkaaChecked
import GoSem.Claim
import GoSem.ClaimJoined
import GoSem.ClaimMapViews
import Derived.JoinedTies
import Derived.KernelRfl
namespace Go.Proofs.Ytjohkmkgmbihkaa
/- THE CELL 'sum', in the pinned program and in every row, IS THE sha256 OF THE DUMP (.gsa) THAT YtjohkmkgmbihkaaProg.lean LOADS. Nothing in Lean hashes anything: it is a label: what it is worth is what the hold of that sum in a sandbox is worth. -/
noncomputable def Try.pinned : Pinned := { name := "ytjohkmkgmbihkaa", sum := "d4c1cf2bda5a3d1e1c154b07b806957200459066fac4e2be8ca818aa32ae9096", checked := Try.checked }
namespace Rows
def none {H : Type} : Left H := { results := [], args := [] }

/-- 'attestlaw.Sums': WHATEVER THE INPUT: true; the input reads as it did. -/
def sumsSpec : ChangeSpec := { name := "sums", fn := fun _ => fun
  | [d] => { results := [.lit (.bool true)], args := [d] }
  | _ => none }
def sumsRow : OpenClaim := { program := "ytjohkmkgmbihkaa", sum := "d4c1cf2bda5a3d1e1c154b07b806957200459066fac4e2be8ca818aa32ae9096", func := "attest/attestlaw.Sums", spec := "sums", apart := false }
def SumsSaid : Prop := sumsRow.holds Try.pinned (OpenSpec.ofChange sumsSpec)

/-- ITS FALSE NEIGHBOUR: 'it returns false'. Refute it at one input. -/
def sumsWrong : ChangeSpec := { name := "sums", fn := fun _ => fun
  | [d] => { results := [.lit (.bool false)], args := [d] }
  | _ => none }
def SumsWrongFalsely : Prop := sumsRow.holds Try.pinned (OpenSpec.ofChange sumsWrong)

/-- 'attestkeep.Known': WHATEVER THE INPUT: true; the input reads as it did. -/
def knownSpec : ChangeSpec := { name := "known", fn := fun _ => fun
  | [d] => { results := [.lit (.bool true)], args := [d] }
  | _ => none }
def knownRow : OpenClaim := { program := "ytjohkmkgmbihkaa", sum := "d4c1cf2bda5a3d1e1c154b07b806957200459066fac4e2be8ca818aa32ae9096", func := "attest/attestkeep.Known", spec := "known", inPlace := ["internal/bytealg.abigen_runtime_cmpstring"], unfollowed := true, recurses := true, apart := false }
def KnownSaid : Prop := knownRow.holds Try.pinned (OpenSpec.ofChange knownSpec)

/-- ITS FALSE NEIGHBOUR: 'it returns false'. Refute it at one input. -/
def knownWrong : ChangeSpec := { name := "known", fn := fun _ => fun
  | [d] => { results := [.lit (.bool false)], args := [d] }
  | _ => none }
def KnownWrongFalsely : Prop := knownRow.holds Try.pinned (OpenSpec.ofChange knownWrong)

/-- 'attestkeep.Mapped': WHATEVER THE INPUT: true; the input reads as it did. -/
def mappedSpec : ChangeSpec := { name := "mapped", fn := fun _ => fun
  | [d1, d2] => { results := [.lit (.bool true)], args := [d1, d2] }
  | _ => none }
def mappedRow : OpenClaim := { program := "ytjohkmkgmbihkaa", sum := "d4c1cf2bda5a3d1e1c154b07b806957200459066fac4e2be8ca818aa32ae9096", func := "attest/attestkeep.Mapped", spec := "mapped", inPlace := ["internal/bytealg.abigen_runtime_cmpstring"], unfollowed := true, recurses := true, apart := false }
def MappedSaid : Prop := mappedRow.holds Try.pinned (OpenSpec.ofChange mappedSpec)

/-- ITS FALSE NEIGHBOUR: 'it returns false'. Refute it at one input. -/
def mappedWrong : ChangeSpec := { name := "mapped", fn := fun _ => fun
  | [d1, d2] => { results := [.lit (.bool false)], args := [d1, d2] }
  | _ => none }
def MappedWrongFalsely : Prop := mappedRow.holds Try.pinned (OpenSpec.ofChange mappedWrong)

/-- 'attestkeep.Shaped': WHATEVER THE INPUT: true; the input reads as it did. -/
def shapedSpec : ChangeSpec := { name := "shaped", fn := fun _ => fun
  | [d1, d2, d3] => { results := [.lit (.bool true)], args := [d1, d2, d3] }
  | _ => none }
def shapedRow : OpenClaim := { program := "ytjohkmkgmbihkaa", sum := "d4c1cf2bda5a3d1e1c154b07b806957200459066fac4e2be8ca818aa32ae9096", func := "attest/attestkeep.Shaped", spec := "shaped", inPlace := ["internal/bytealg.abigen_runtime_cmpstring"], unfollowed := true, recurses := true, apart := false }
def ShapedSaid : Prop := shapedRow.holds Try.pinned (OpenSpec.ofChange shapedSpec)

/-- ITS FALSE NEIGHBOUR: 'it returns false'. Refute it at one input. -/
def shapedWrong : ChangeSpec := { name := "shaped", fn := fun _ => fun
  | [d1, d2, d3] => { results := [.lit (.bool false)], args := [d1, d2, d3] }
  | _ => none }
def ShapedWrongFalsely : Prop := shapedRow.holds Try.pinned (OpenSpec.ofChange shapedWrong)

/- THE SECOND FORM. 'bulk': how many values and letters a reading holds, each counted each time it is reached (what is shared counts as often as it is met; a slice's spare places count too). A statement '..UptoSaid' is the law's where the arguments, and the package variables that the reading takes, are together of bulk at most 1048576: NARROWER than '..Said'. Prove '..Said' where nothing that the law and all that it calls make is longer than what came in: it says more and counts as full. Else prove '..UptoSaid'. A law counts once. -/
mutual
def uptoBulk {H : Type} : DataW H → Nat
  | .lit (.string bytes) => bytes.length + 1
  | .lit _ => 1
  | .nil => 1
  | .ptr d => uptoBulk d + 1
  | .slice elems spare => uptoBulkAll elems + uptoBulkAll spare + 1
  | .agg parts => uptoBulkAll parts + 1
  | .iface _ d => uptoBulk d + 1
  | .map entries => uptoBulkEntries entries + 1
  | .held _ => 1
def uptoBulkAll {H : Type} : List (DataW H) → Nat
  | [] => 0
  | d :: r => uptoBulk d + uptoBulkAll r
def uptoBulkEntries {H : Type} : List (Lit × DataW H) → Nat
  | [] => 0
  | x :: r => uptoBulkEntry x + uptoBulkEntries r
def uptoBulkEntry {H : Type} : Lit × DataW H → Nat
  | (.string bytes, d) => bytes.length + uptoBulk d + 1
  | (_, d) => uptoBulk d + 1
 end
def uptoSmall : (H : Type) → List (DataW H) → Bool := fun _ ds => decide (uptoBulkAll ds ≤ 1048576)
def OpenSpec.upto (s : _root_.Go.ChangeSpec) : _root_.Go.OpenSpec := { _root_.Go.OpenSpec.ofChange s with cond := some uptoSmall }

/-- 'attestlaw.Sums', WHERE WHAT IT READS IS OF BULK AT MOST 1048576: true; the input reads as it did. -/
def sumsUptoRow : OpenClaim := { program := "ytjohkmkgmbihkaa", sum := "d4c1cf2bda5a3d1e1c154b07b806957200459066fac4e2be8ca818aa32ae9096", func := "attest/attestlaw.Sums", spec := "sums", apart := false, narrowed := true }
def SumsUptoSaid : Prop := sumsUptoRow.holds Try.pinned (OpenSpec.upto sumsSpec)

/-- 'attestkeep.Known', WHERE WHAT IT READS IS OF BULK AT MOST 1048576: true; the input reads as it did. -/
def knownUptoRow : OpenClaim := { program := "ytjohkmkgmbihkaa", sum := "d4c1cf2bda5a3d1e1c154b07b806957200459066fac4e2be8ca818aa32ae9096", func := "attest/attestkeep.Known", spec := "known", inPlace := ["internal/bytealg.abigen_runtime_cmpstring"], unfollowed := true, recurses := true, apart := false, narrowed := true }
def KnownUptoSaid : Prop := knownUptoRow.holds Try.pinned (OpenSpec.upto knownSpec)

/-- 'attestkeep.Mapped', WHERE WHAT IT READS IS OF BULK AT MOST 1048576: true; the input reads as it did. -/
def mappedUptoRow : OpenClaim := { program := "ytjohkmkgmbihkaa", sum := "d4c1cf2bda5a3d1e1c154b07b806957200459066fac4e2be8ca818aa32ae9096", func := "attest/attestkeep.Mapped", spec := "mapped", inPlace := ["internal/bytealg.abigen_runtime_cmpstring"], unfollowed := true, recurses := true, apart := false, narrowed := true }
def MappedUptoSaid : Prop := mappedUptoRow.holds Try.pinned (OpenSpec.upto mappedSpec)

/-- 'attestkeep.Shaped', WHERE WHAT IT READS IS OF BULK AT MOST 1048576: true; the input reads as it did. -/
def shapedUptoRow : OpenClaim := { program := "ytjohkmkgmbihkaa", sum := "d4c1cf2bda5a3d1e1c154b07b806957200459066fac4e2be8ca818aa32ae9096", func := "attest/attestkeep.Shaped", spec := "shaped", inPlace := ["internal/bytealg.abigen_runtime_cmpstring"], unfollowed := true, recurses := true, apart := false, narrowed := true }
def ShapedUptoSaid : Prop := shapedUptoRow.holds Try.pinned (OpenSpec.upto shapedSpec)

end Rows
end Go.Proofs.Ytjohkmkgmbihkaa
