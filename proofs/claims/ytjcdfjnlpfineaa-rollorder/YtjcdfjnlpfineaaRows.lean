/-
  No cell of these rows narrows 'for every input' (looked for: loops, veiled, ifaces, maps, wideKeys, modest, calm, conditions, laid).
  DERIVED. THE GIVEN ROWS OF THIS SEAT. 6 by the template 'for every input the law returns true; each argument reads behind the call as it read before'; 0 by the template 'total and deterministic' (their statements: YtjcdfjnlpfineaaTotals.lean).
  GIVEN WITH THE SEED: the statements are not yours to turn. If you find one false, say at which input.
  Laid BY PROGRAM, IN A SANDBOX (cutbox-rows.mjs): the forced cells as the released guide's own fill.sh prints them over the translation 78d746f660f3ea5b… (all of the seat's roots in one cut). By AI agents, Wed Nov 11 2026. No macro, syntax, notation, axiom, sorry.
-/
import Derived.Test.YtjcdfjnlpfineaaChecked
import GoSem.Claim
import GoSem.ClaimJoined
import GoSem.ClaimMapViews
import Derived.JoinedTies
import Derived.KernelRfl
namespace Go.Proofs.Ytjcdfjnlpfineaa
/- THE CELL 'sum', in the pinned program and in every row, IS THE sha256 OF THE DUMP (.gsa) THAT YtjcdfjnlpfineaaProg.lean LOADS. Nothing in Lean hashes anything: it is a label: what it is worth is what the hold of that sum in a sandbox is worth. -/
noncomputable def Try.pinned : Pinned := { name := "ytjcdfjnlpfineaa", sum := "78d746f660f3ea5bd4a25c33c345e9369e4e17f9747f7ae6cdd6e293e84aa906", checked := Try.checked }
namespace Rows
def none {H : Type} : Left H := { results := [], args := [] }

/-- 'hearsaylaw16.RollPlays': WHATEVER THE INPUT: true; the input reads as it did. -/
def rollPlaysSpec : ChangeSpec := { name := "rollPlays", fn := fun _ => fun
  | [d1, d2] => { results := [.lit (.bool true)], args := [d1, d2] }
  | _ => none }
def rollPlaysRow : OpenClaim := { program := "ytjcdfjnlpfineaa", sum := "78d746f660f3ea5bd4a25c33c345e9369e4e17f9747f7ae6cdd6e293e84aa906", func := "hearsay/hearsaylaw16.RollPlays", spec := "rollPlays", unfollowed := true, recurses := true, apart := false }
def RollPlaysSaid : Prop := rollPlaysRow.holds Try.pinned (OpenSpec.ofChange rollPlaysSpec)

/-- ITS FALSE NEIGHBOUR: 'it returns false'. Refute it at one input. -/
def rollPlaysWrong : ChangeSpec := { name := "rollPlays", fn := fun _ => fun
  | [d1, d2] => { results := [.lit (.bool false)], args := [d1, d2] }
  | _ => none }
def RollPlaysWrongFalsely : Prop := rollPlaysRow.holds Try.pinned (OpenSpec.ofChange rollPlaysWrong)

/-- 'hearsaylaw16.RollLoads': WHATEVER THE INPUT: true; the input reads as it did. -/
def rollLoadsSpec : ChangeSpec := { name := "rollLoads", fn := fun _ => fun
  | [d1, d2, d3, d4] => { results := [.lit (.bool true)], args := [d1, d2, d3, d4] }
  | _ => none }
def rollLoadsRow : OpenClaim := { program := "ytjcdfjnlpfineaa", sum := "78d746f660f3ea5bd4a25c33c345e9369e4e17f9747f7ae6cdd6e293e84aa906", func := "hearsay/hearsaylaw16.RollLoads", spec := "rollLoads", unfollowed := true, recurses := true, apart := false }
def RollLoadsSaid : Prop := rollLoadsRow.holds Try.pinned (OpenSpec.ofChange rollLoadsSpec)

/-- ITS FALSE NEIGHBOUR: 'it returns false'. Refute it at one input. -/
def rollLoadsWrong : ChangeSpec := { name := "rollLoads", fn := fun _ => fun
  | [d1, d2, d3, d4] => { results := [.lit (.bool false)], args := [d1, d2, d3, d4] }
  | _ => none }
def RollLoadsWrongFalsely : Prop := rollLoadsRow.holds Try.pinned (OpenSpec.ofChange rollLoadsWrong)

/-- 'hearsaylaw16.RollTwo': WHATEVER THE INPUT: true; the input reads as it did. -/
def rollTwoSpec : ChangeSpec := { name := "rollTwo", fn := fun _ => fun
  | [d1, d2] => { results := [.lit (.bool true)], args := [d1, d2] }
  | _ => none }
def rollTwoRow : OpenClaim := { program := "ytjcdfjnlpfineaa", sum := "78d746f660f3ea5bd4a25c33c345e9369e4e17f9747f7ae6cdd6e293e84aa906", func := "hearsay/hearsaylaw16.RollTwo", spec := "rollTwo", unfollowed := true, recurses := true, apart := false }
def RollTwoSaid : Prop := rollTwoRow.holds Try.pinned (OpenSpec.ofChange rollTwoSpec)

/-- ITS FALSE NEIGHBOUR: 'it returns false'. Refute it at one input. -/
def rollTwoWrong : ChangeSpec := { name := "rollTwo", fn := fun _ => fun
  | [d1, d2] => { results := [.lit (.bool false)], args := [d1, d2] }
  | _ => none }
def RollTwoWrongFalsely : Prop := rollTwoRow.holds Try.pinned (OpenSpec.ofChange rollTwoWrong)

/-- 'hearsaylaw16.RollNothing': WHATEVER THE INPUT: true; the input reads as it did. -/
def rollNothingSpec : ChangeSpec := { name := "rollNothing", fn := fun _ => fun
  | [d] => { results := [.lit (.bool true)], args := [d] }
  | _ => none }
def rollNothingRow : OpenClaim := { program := "ytjcdfjnlpfineaa", sum := "78d746f660f3ea5bd4a25c33c345e9369e4e17f9747f7ae6cdd6e293e84aa906", func := "hearsay/hearsaylaw16.RollNothing", spec := "rollNothing", unfollowed := true, recurses := true, apart := false }
def RollNothingSaid : Prop := rollNothingRow.holds Try.pinned (OpenSpec.ofChange rollNothingSpec)

/-- ITS FALSE NEIGHBOUR: 'it returns false'. Refute it at one input. -/
def rollNothingWrong : ChangeSpec := { name := "rollNothing", fn := fun _ => fun
  | [d] => { results := [.lit (.bool false)], args := [d] }
  | _ => none }
def RollNothingWrongFalsely : Prop := rollNothingRow.holds Try.pinned (OpenSpec.ofChange rollNothingWrong)

/-- 'hearsaylaw16.RollOrder': WHATEVER THE INPUT: true; the input reads as it did. -/
def rollOrderSpec : ChangeSpec := { name := "rollOrder", fn := fun _ => fun
  | [d1, d2] => { results := [.lit (.bool true)], args := [d1, d2] }
  | _ => none }
def rollOrderRow : OpenClaim := { program := "ytjcdfjnlpfineaa", sum := "78d746f660f3ea5bd4a25c33c345e9369e4e17f9747f7ae6cdd6e293e84aa906", func := "hearsay/hearsaylaw16.RollOrder", spec := "rollOrder", unfollowed := true, recurses := true, apart := false }
def RollOrderSaid : Prop := rollOrderRow.holds Try.pinned (OpenSpec.ofChange rollOrderSpec)

/-- ITS FALSE NEIGHBOUR: 'it returns false'. Refute it at one input. -/
def rollOrderWrong : ChangeSpec := { name := "rollOrder", fn := fun _ => fun
  | [d1, d2] => { results := [.lit (.bool false)], args := [d1, d2] }
  | _ => none }
def RollOrderWrongFalsely : Prop := rollOrderRow.holds Try.pinned (OpenSpec.ofChange rollOrderWrong)

/-- 'hearsaylaw16.RollBack': WHATEVER THE INPUT: true; the input reads as it did. -/
def rollBackSpec : ChangeSpec := { name := "rollBack", fn := fun _ => fun
  | [d1, d2] => { results := [.lit (.bool true)], args := [d1, d2] }
  | _ => none }
def rollBackRow : OpenClaim := { program := "ytjcdfjnlpfineaa", sum := "78d746f660f3ea5bd4a25c33c345e9369e4e17f9747f7ae6cdd6e293e84aa906", func := "hearsay/hearsaylaw16.RollBack", spec := "rollBack", unfollowed := true, recurses := true, apart := false }
def RollBackSaid : Prop := rollBackRow.holds Try.pinned (OpenSpec.ofChange rollBackSpec)

/-- ITS FALSE NEIGHBOUR: 'it returns false'. Refute it at one input. -/
def rollBackWrong : ChangeSpec := { name := "rollBack", fn := fun _ => fun
  | [d1, d2] => { results := [.lit (.bool false)], args := [d1, d2] }
  | _ => none }
def RollBackWrongFalsely : Prop := rollBackRow.holds Try.pinned (OpenSpec.ofChange rollBackWrong)

/- THE SECOND FORM. 'bulk': how many values and letters a reading holds, each counted each time it is reached (what is shared counts as often as it is met; a slice's spare places count too). A statement '..UptoSaid' is the law's where the arguments, and the package variables that the reading takes, are together of bulk at most 1048576: NARROWER than '..Said'. Prove '..Said' where nothing that the law and all that it calls make is longer than what came in: it says more and counts as full. Else prove '..UptoSaid'. A law counts once. -/
mutual
def uptoBulk {H : Type} : DataW H → Nat
  | .lit (.string bytes) => bytes.length + 1
  | .lit _ => 1
  | .nil => 1
  | .ptr d => uptoBulk d + 1
  | .slice elems spare => uptoBulkAll elems + uptoBulkAll spare + 1
  | .agg parts => uptoBulkAll parts + 1
  | .iface _ d => uptoBulk d + 1
  | .map entries => uptoBulkEntries entries + 1
  | .held _ => 1
def uptoBulkAll {H : Type} : List (DataW H) → Nat
  | [] => 0
  | d :: r => uptoBulk d + uptoBulkAll r
def uptoBulkEntries {H : Type} : List (Lit × DataW H) → Nat
  | [] => 0
  | x :: r => uptoBulkEntry x + uptoBulkEntries r
def uptoBulkEntry {H : Type} : Lit × DataW H → Nat
  | (.string bytes, d) => bytes.length + uptoBulk d + 1
  | (_, d) => uptoBulk d + 1
 end
def uptoSmall : (H : Type) → List (DataW H) → Bool := fun _ ds => decide (uptoBulkAll ds ≤ 1048576)
def OpenSpec.upto (s : _root_.Go.ChangeSpec) : _root_.Go.OpenSpec := { _root_.Go.OpenSpec.ofChange s with cond := some uptoSmall }

/-- 'hearsaylaw16.RollPlays', WHERE WHAT IT READS IS OF BULK AT MOST 1048576: true; the input reads as it did. -/
def rollPlaysUptoRow : OpenClaim := { program := "ytjcdfjnlpfineaa", sum := "78d746f660f3ea5bd4a25c33c345e9369e4e17f9747f7ae6cdd6e293e84aa906", func := "hearsay/hearsaylaw16.RollPlays", spec := "rollPlays", unfollowed := true, recurses := true, apart := false, narrowed := true }
def RollPlaysUptoSaid : Prop := rollPlaysUptoRow.holds Try.pinned (OpenSpec.upto rollPlaysSpec)

/-- 'hearsaylaw16.RollLoads', WHERE WHAT IT READS IS OF BULK AT MOST 1048576: true; the input reads as it did. -/
def rollLoadsUptoRow : OpenClaim := { program := "ytjcdfjnlpfineaa", sum := "78d746f660f3ea5bd4a25c33c345e9369e4e17f9747f7ae6cdd6e293e84aa906", func := "hearsay/hearsaylaw16.RollLoads", spec := "rollLoads", unfollowed := true, recurses := true, apart := false, narrowed := true }
def RollLoadsUptoSaid : Prop := rollLoadsUptoRow.holds Try.pinned (OpenSpec.upto rollLoadsSpec)

/-- 'hearsaylaw16.RollTwo', WHERE WHAT IT READS IS OF BULK AT MOST 1048576: true; the input reads as it did. -/
def rollTwoUptoRow : OpenClaim := { program := "ytjcdfjnlpfineaa", sum := "78d746f660f3ea5bd4a25c33c345e9369e4e17f9747f7ae6cdd6e293e84aa906", func := "hearsay/hearsaylaw16.RollTwo", spec := "rollTwo", unfollowed := true, recurses := true, apart := false, narrowed := true }
def RollTwoUptoSaid : Prop := rollTwoUptoRow.holds Try.pinned (OpenSpec.upto rollTwoSpec)

/-- 'hearsaylaw16.RollNothing', WHERE WHAT IT READS IS OF BULK AT MOST 1048576: true; the input reads as it did. -/
def rollNothingUptoRow : OpenClaim := { program := "ytjcdfjnlpfineaa", sum := "78d746f660f3ea5bd4a25c33c345e9369e4e17f9747f7ae6cdd6e293e84aa906", func := "hearsay/hearsaylaw16.RollNothing", spec := "rollNothing", unfollowed := true, recurses := true, apart := false, narrowed := true }
def RollNothingUptoSaid : Prop := rollNothingUptoRow.holds Try.pinned (OpenSpec.upto rollNothingSpec)

/-- 'hearsaylaw16.RollOrder', WHERE WHAT IT READS IS OF BULK AT MOST 1048576: true; the input reads as it did. -/
def rollOrderUptoRow : OpenClaim := { program := "ytjcdfjnlpfineaa", sum := "78d746f660f3ea5bd4a25c33c345e9369e4e17f9747f7ae6cdd6e293e84aa906", func := "hearsay/hearsaylaw16.RollOrder", spec := "rollOrder", unfollowed := true, recurses := true, apart := false, narrowed := true }
def RollOrderUptoSaid : Prop := rollOrderUptoRow.holds Try.pinned (OpenSpec.upto rollOrderSpec)

/-- 'hearsaylaw16.RollBack', WHERE WHAT IT READS IS OF BULK AT MOST 1048576: true; the input reads as it did. -/
def rollBackUptoRow : OpenClaim := { program := "ytjcdfjnlpfineaa", sum := "78d746f660f3ea5bd4a25c33c345e9369e4e17f9747f7ae6cdd6e293e84aa906", func := "hearsay/hearsaylaw16.RollBack", spec := "rollBack", unfollowed := true, recurses := true, apart := false, narrowed := true }
def RollBackUptoSaid : Prop := rollBackUptoRow.holds Try.pinned (OpenSpec.upto rollBackSpec)

end Rows
end Go.Proofs.Ytjcdfjnlpfineaa
