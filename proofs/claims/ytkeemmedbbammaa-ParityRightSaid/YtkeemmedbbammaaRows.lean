/-
  No cell of these rows narrows 'for every input' (looked for: loops, veiled, ifaces, maps, wideKeys, modest, calm, conditions, laid).
  DERIVED. THE GIVEN ROWS OF THIS SEAT. 3 by the template 'for every input the law returns true; each argument reads behind the call as it read before'; 0 by the template 'total and deterministic' (their statements: YtkeemmedbbammaaTotals.lean).
  GIVEN WITH THE SEED: the statements are not yours to turn. If you find one false, say at which input.
  Laid BY PROGRAM, IN A SANDBOX (cutbox-rows.mjs): the forced cells as the released guide's own fill.sh prints them over the translation fdc9f2e7d4ae279d… (all of the seat's roots in one cut). By AI agents, Wed Nov 11 2026. No macro, syntax, notation, axiom, sorry.
-/
import Derived.Test.YtkeemmedbbammaaChecked
import GoSem.Claim
import GoSem.ClaimJoined
import GoSem.ClaimMapViews
import Derived.JoinedTies
import Derived.KernelRfl
namespace Go.Proofs.Ytkeemmedbbammaa
/- THE CELL 'sum', in the pinned program and in every row, IS THE sha256 OF THE DUMP (.gsa) THAT YtkeemmedbbammaaProg.lean LOADS. Nothing in Lean hashes anything: it is a label: what it is worth is what the hold of that sum in a sandbox is worth. -/
noncomputable def Try.pinned : Pinned := { name := "ytkeemmedbbammaa", sum := "fdc9f2e7d4ae279da72679e4244c21657d318a34de064318b8a97ed6f04558a6", checked := Try.checked }
namespace Rows
def none {H : Type} : Left H := { results := [], args := [] }

/-- 'backstaylaw07.ParityRight': WHATEVER THE INPUT: true; the input reads as it did. -/
def parityRightSpec : ChangeSpec := { name := "parityRight", fn := fun _ => fun
  | [d1, d2, d3, d4, d5, d6] => { results := [.lit (.bool true)], args := [d1, d2, d3, d4, d5, d6] }
  | _ => none }
def parityRightRow : OpenClaim := { program := "ytkeemmedbbammaa", sum := "fdc9f2e7d4ae279da72679e4244c21657d318a34de064318b8a97ed6f04558a6", func := "backstay/backstaylaw07.ParityRight", spec := "parityRight", unfollowed := true, recurses := true, apart := false }
def ParityRightSaid : Prop := parityRightRow.holds Try.pinned (OpenSpec.ofChange parityRightSpec)

/-- ITS FALSE NEIGHBOUR: 'it returns false'. Refute it at one input. -/
def parityRightWrong : ChangeSpec := { name := "parityRight", fn := fun _ => fun
  | [d1, d2, d3, d4, d5, d6] => { results := [.lit (.bool false)], args := [d1, d2, d3, d4, d5, d6] }
  | _ => none }
def ParityRightWrongFalsely : Prop := parityRightRow.holds Try.pinned (OpenSpec.ofChange parityRightWrong)

/-- 'backstaylaw07.ParityRebuilds': WHATEVER THE INPUT: true; the input reads as it did. -/
def parityRebuildsSpec : ChangeSpec := { name := "parityRebuilds", fn := fun _ => fun
  | [d1, d2, d3, d4] => { results := [.lit (.bool true)], args := [d1, d2, d3, d4] }
  | _ => none }
def parityRebuildsRow : OpenClaim := { program := "ytkeemmedbbammaa", sum := "fdc9f2e7d4ae279da72679e4244c21657d318a34de064318b8a97ed6f04558a6", func := "backstay/backstaylaw07.ParityRebuilds", spec := "parityRebuilds", unfollowed := true, recurses := true, apart := false }
def ParityRebuildsSaid : Prop := parityRebuildsRow.holds Try.pinned (OpenSpec.ofChange parityRebuildsSpec)

/-- ITS FALSE NEIGHBOUR: 'it returns false'. Refute it at one input. -/
def parityRebuildsWrong : ChangeSpec := { name := "parityRebuilds", fn := fun _ => fun
  | [d1, d2, d3, d4] => { results := [.lit (.bool false)], args := [d1, d2, d3, d4] }
  | _ => none }
def ParityRebuildsWrongFalsely : Prop := parityRebuildsRow.holds Try.pinned (OpenSpec.ofChange parityRebuildsWrong)

/-- 'backstaylaw07.ParityTurns': WHATEVER THE INPUT: true; the input reads as it did. -/
def parityTurnsSpec : ChangeSpec := { name := "parityTurns", fn := fun _ => fun
  | [d1, d2, d3, d4] => { results := [.lit (.bool true)], args := [d1, d2, d3, d4] }
  | _ => none }
def parityTurnsRow : OpenClaim := { program := "ytkeemmedbbammaa", sum := "fdc9f2e7d4ae279da72679e4244c21657d318a34de064318b8a97ed6f04558a6", func := "backstay/backstaylaw07.ParityTurns", spec := "parityTurns", unfollowed := true, recurses := true, apart := false }
def ParityTurnsSaid : Prop := parityTurnsRow.holds Try.pinned (OpenSpec.ofChange parityTurnsSpec)

/-- ITS FALSE NEIGHBOUR: 'it returns false'. Refute it at one input. -/
def parityTurnsWrong : ChangeSpec := { name := "parityTurns", fn := fun _ => fun
  | [d1, d2, d3, d4] => { results := [.lit (.bool false)], args := [d1, d2, d3, d4] }
  | _ => none }
def ParityTurnsWrongFalsely : Prop := parityTurnsRow.holds Try.pinned (OpenSpec.ofChange parityTurnsWrong)

/- THE SECOND FORM. 'bulk': how many values and letters a reading holds, each counted each time it is reached (what is shared counts as often as it is met; a slice's spare places count too). A statement '..UptoSaid' is the law's where the arguments, and the package variables that the reading takes, are together of bulk at most 1048576: NARROWER than '..Said'. Prove '..Said' where nothing that the law and all that it calls make is longer than what came in: it says more and counts as full. Else prove '..UptoSaid'. A law counts once. -/
mutual
def uptoBulk {H : Type} : DataW H → Nat
  | .lit (.string bytes) => bytes.length + 1
  | .lit _ => 1
  | .nil => 1
  | .ptr d => uptoBulk d + 1
  | .slice elems spare => uptoBulkAll elems + uptoBulkAll spare + 1
  | .agg parts => uptoBulkAll parts + 1
  | .iface _ d => uptoBulk d + 1
  | .map entries => uptoBulkEntries entries + 1
  | .held _ => 1
def uptoBulkAll {H : Type} : List (DataW H) → Nat
  | [] => 0
  | d :: r => uptoBulk d + uptoBulkAll r
def uptoBulkEntries {H : Type} : List (Lit × DataW H) → Nat
  | [] => 0
  | x :: r => uptoBulkEntry x + uptoBulkEntries r
def uptoBulkEntry {H : Type} : Lit × DataW H → Nat
  | (.string bytes, d) => bytes.length + uptoBulk d + 1
  | (_, d) => uptoBulk d + 1
 end
def uptoSmall : (H : Type) → List (DataW H) → Bool := fun _ ds => decide (uptoBulkAll ds ≤ 1048576)
def OpenSpec.upto (s : _root_.Go.ChangeSpec) : _root_.Go.OpenSpec := { _root_.Go.OpenSpec.ofChange s with cond := some uptoSmall }

/-- 'backstaylaw07.ParityRight', WHERE WHAT IT READS IS OF BULK AT MOST 1048576: true; the input reads as it did. -/
def parityRightUptoRow : OpenClaim := { program := "ytkeemmedbbammaa", sum := "fdc9f2e7d4ae279da72679e4244c21657d318a34de064318b8a97ed6f04558a6", func := "backstay/backstaylaw07.ParityRight", spec := "parityRight", unfollowed := true, recurses := true, apart := false, narrowed := true }
def ParityRightUptoSaid : Prop := parityRightUptoRow.holds Try.pinned (OpenSpec.upto parityRightSpec)

/-- 'backstaylaw07.ParityRebuilds', WHERE WHAT IT READS IS OF BULK AT MOST 1048576: true; the input reads as it did. -/
def parityRebuildsUptoRow : OpenClaim := { program := "ytkeemmedbbammaa", sum := "fdc9f2e7d4ae279da72679e4244c21657d318a34de064318b8a97ed6f04558a6", func := "backstay/backstaylaw07.ParityRebuilds", spec := "parityRebuilds", unfollowed := true, recurses := true, apart := false, narrowed := true }
def ParityRebuildsUptoSaid : Prop := parityRebuildsUptoRow.holds Try.pinned (OpenSpec.upto parityRebuildsSpec)

/-- 'backstaylaw07.ParityTurns', WHERE WHAT IT READS IS OF BULK AT MOST 1048576: true; the input reads as it did. -/
def parityTurnsUptoRow : OpenClaim := { program := "ytkeemmedbbammaa", sum := "fdc9f2e7d4ae279da72679e4244c21657d318a34de064318b8a97ed6f04558a6", func := "backstay/backstaylaw07.ParityTurns", spec := "parityTurns", unfollowed := true, recurses := true, apart := false, narrowed := true }
def ParityTurnsUptoSaid : Prop := parityTurnsUptoRow.holds Try.pinned (OpenSpec.upto parityTurnsSpec)

end Rows
end Go.Proofs.Ytkeemmedbbammaa
