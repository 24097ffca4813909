/-
  No cell of these rows narrows 'for every input' (looked for: loops, veiled, ifaces, maps, wideKeys, modest, calm, conditions, laid).
  DERIVED. THE GIVEN ROWS OF THIS SEAT. 3 by the template 'for every input the law returns true; each argument reads behind the call as it read before'; 0 by the template 'total and deterministic' (their statements: YtfkdpkckbmbmdaaGreatTotals.lean).
  GIVEN WITH THE SEED: the statements are not yours to turn. If you find one false, say at which input.
  Laid BY PROGRAM, IN A SANDBOX (cutbox-rows.mjs): the forced cells as the released guide's own fill.sh prints them over the translation 8d60a6ecc22b0fff… (all of the seat's roots in one cut). By AI agents, Wed Nov 11 2026. No macro, syntax, notation, axiom, sorry.
-/
import Derived.Test.YtfkdpkckbmbmdaaGreatChecked
import GoSem.Claim
import GoSem.ClaimJoined
import GoSem.ClaimMapViews
import Derived.JoinedTies
import Derived.KernelRfl
namespace Go.Proofs.YtfkdpkckbmbmdaaGreat
/- THE CELL 'sum', in the pinned program and in every row, IS THE sha256 OF THE DUMP (.gsa) THAT YtfkdpkckbmbmdaaGreatProg.lean LOADS. Nothing in Lean hashes anything: it is a label: what it is worth is what the hold of that sum in a sandbox is worth. -/
noncomputable def Tryz.pinned : Pinned := { name := "ytfkdpkckbmbmdaagreat", sum := "8d60a6ecc22b0fff842c4b61cf38d690fbf69cea23232cf6508a7ca68a71e5b3", checked := Tryz.checked }
namespace Rows
def none {H : Type} : Left H := { results := [], args := [] }

/-- 'hearsaylaw8.OpChecks': WHATEVER THE INPUT: true; the input reads as it did. -/
def opChecksSpec : ChangeSpec := { name := "opChecks", fn := fun _ => fun
  | [d1, d2, d3, d4] => { results := [.lit (.bool true)], args := [d1, d2, d3, d4] }
  | _ => none }
def opChecksRow : OpenClaim := { program := "ytfkdpkckbmbmdaagreat", sum := "8d60a6ecc22b0fff842c4b61cf38d690fbf69cea23232cf6508a7ca68a71e5b3", func := "hearsay/hearsaylaw8.OpChecks", spec := "opChecks", unfollowed := true, recurses := true, apart := false }
def OpChecksSaid : Prop := opChecksRow.holds Tryz.pinned (OpenSpec.ofChange opChecksSpec)

/-- ITS FALSE NEIGHBOUR: 'it returns false'. Refute it at one input. -/
def opChecksWrong : ChangeSpec := { name := "opChecks", fn := fun _ => fun
  | [d1, d2, d3, d4] => { results := [.lit (.bool false)], args := [d1, d2, d3, d4] }
  | _ => none }
def OpChecksWrongFalsely : Prop := opChecksRow.holds Tryz.pinned (OpenSpec.ofChange opChecksWrong)

/-- 'hearsaylaw8.OpEncodes': WHATEVER THE INPUT: true; the input reads as it did. -/
def opEncodesSpec : ChangeSpec := { name := "opEncodes", fn := fun _ => fun
  | [d1, d2] => { results := [.lit (.bool true)], args := [d1, d2] }
  | _ => none }
def opEncodesRow : OpenClaim := { program := "ytfkdpkckbmbmdaagreat", sum := "8d60a6ecc22b0fff842c4b61cf38d690fbf69cea23232cf6508a7ca68a71e5b3", func := "hearsay/hearsaylaw8.OpEncodes", spec := "opEncodes", unfollowed := true, recurses := true, apart := false }
def OpEncodesSaid : Prop := opEncodesRow.holds Tryz.pinned (OpenSpec.ofChange opEncodesSpec)

/-- ITS FALSE NEIGHBOUR: 'it returns false'. Refute it at one input. -/
def opEncodesWrong : ChangeSpec := { name := "opEncodes", fn := fun _ => fun
  | [d1, d2] => { results := [.lit (.bool false)], args := [d1, d2] }
  | _ => none }
def OpEncodesWrongFalsely : Prop := opEncodesRow.holds Tryz.pinned (OpenSpec.ofChange opEncodesWrong)

/-- 'hearsaylaw8.OpDecodes': WHATEVER THE INPUT: true; the input reads as it did. -/
def opDecodesSpec : ChangeSpec := { name := "opDecodes", fn := fun _ => fun
  | [d1, d2, d3] => { results := [.lit (.bool true)], args := [d1, d2, d3] }
  | _ => none }
def opDecodesRow : OpenClaim := { program := "ytfkdpkckbmbmdaagreat", sum := "8d60a6ecc22b0fff842c4b61cf38d690fbf69cea23232cf6508a7ca68a71e5b3", func := "hearsay/hearsaylaw8.OpDecodes", spec := "opDecodes", unfollowed := true, recurses := true, apart := false }
def OpDecodesSaid : Prop := opDecodesRow.holds Tryz.pinned (OpenSpec.ofChange opDecodesSpec)

/-- ITS FALSE NEIGHBOUR: 'it returns false'. Refute it at one input. -/
def opDecodesWrong : ChangeSpec := { name := "opDecodes", fn := fun _ => fun
  | [d1, d2, d3] => { results := [.lit (.bool false)], args := [d1, d2, d3] }
  | _ => none }
def OpDecodesWrongFalsely : Prop := opDecodesRow.holds Tryz.pinned (OpenSpec.ofChange opDecodesWrong)

/- THE SECOND FORM. 'bulk': how many values and letters a reading holds, each counted each time it is reached (what is shared counts as often as it is met; a slice's spare places count too). A statement '..UptoSaid' is the law's where the arguments, and the package variables that the reading takes, are together of bulk at most 1048576: NARROWER than '..Said'. Prove '..Said' where nothing that the law and all that it calls make is longer than what came in: it says more and counts as full. Else prove '..UptoSaid'. A law counts once. -/
mutual
def uptoBulk {H : Type} : DataW H → Nat
  | .lit (.string bytes) => bytes.length + 1
  | .lit _ => 1
  | .nil => 1
  | .ptr d => uptoBulk d + 1
  | .slice elems spare => uptoBulkAll elems + uptoBulkAll spare + 1
  | .agg parts => uptoBulkAll parts + 1
  | .iface _ d => uptoBulk d + 1
  | .map entries => uptoBulkEntries entries + 1
  | .held _ => 1
def uptoBulkAll {H : Type} : List (DataW H) → Nat
  | [] => 0
  | d :: r => uptoBulk d + uptoBulkAll r
def uptoBulkEntries {H : Type} : List (Lit × DataW H) → Nat
  | [] => 0
  | x :: r => uptoBulkEntry x + uptoBulkEntries r
def uptoBulkEntry {H : Type} : Lit × DataW H → Nat
  | (.string bytes, d) => bytes.length + uptoBulk d + 1
  | (_, d) => uptoBulk d + 1
 end
def uptoSmall : (H : Type) → List (DataW H) → Bool := fun _ ds => decide (uptoBulkAll ds ≤ 1048576)
def OpenSpec.upto (s : _root_.Go.ChangeSpec) : _root_.Go.OpenSpec := { _root_.Go.OpenSpec.ofChange s with cond := some uptoSmall }

/-- 'hearsaylaw8.OpChecks', WHERE WHAT IT READS IS OF BULK AT MOST 1048576: true; the input reads as it did. -/
def opChecksUptoRow : OpenClaim := { program := "ytfkdpkckbmbmdaagreat", sum := "8d60a6ecc22b0fff842c4b61cf38d690fbf69cea23232cf6508a7ca68a71e5b3", func := "hearsay/hearsaylaw8.OpChecks", spec := "opChecks", unfollowed := true, recurses := true, apart := false, narrowed := true }
def OpChecksUptoSaid : Prop := opChecksUptoRow.holds Tryz.pinned (OpenSpec.upto opChecksSpec)

/-- 'hearsaylaw8.OpEncodes', WHERE WHAT IT READS IS OF BULK AT MOST 1048576: true; the input reads as it did. -/
def opEncodesUptoRow : OpenClaim := { program := "ytfkdpkckbmbmdaagreat", sum := "8d60a6ecc22b0fff842c4b61cf38d690fbf69cea23232cf6508a7ca68a71e5b3", func := "hearsay/hearsaylaw8.OpEncodes", spec := "opEncodes", unfollowed := true, recurses := true, apart := false, narrowed := true }
def OpEncodesUptoSaid : Prop := opEncodesUptoRow.holds Tryz.pinned (OpenSpec.upto opEncodesSpec)

/-- 'hearsaylaw8.OpDecodes', WHERE WHAT IT READS IS OF BULK AT MOST 1048576: true; the input reads as it did. -/
def opDecodesUptoRow : OpenClaim := { program := "ytfkdpkckbmbmdaagreat", sum := "8d60a6ecc22b0fff842c4b61cf38d690fbf69cea23232cf6508a7ca68a71e5b3", func := "hearsay/hearsaylaw8.OpDecodes", spec := "opDecodes", unfollowed := true, recurses := true, apart := false, narrowed := true }
def OpDecodesUptoSaid : Prop := opDecodesUptoRow.holds Tryz.pinned (OpenSpec.upto opDecodesSpec)

end Rows
end Go.Proofs.YtfkdpkckbmbmdaaGreat
