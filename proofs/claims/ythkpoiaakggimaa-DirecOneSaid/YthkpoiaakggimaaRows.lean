/-
  No cell of these rows narrows 'for every input' (looked for: loops, veiled, ifaces, maps, wideKeys, modest, calm, conditions, laid).
  DERIVED. THE GIVEN ROWS OF THIS SEAT. 3 by the template 'for every input the law returns true; each argument reads behind the call as it read before'; 0 by the template 'total and deterministic' (their statements: YthkpoiaakggimaaTotals.lean).
  GIVEN WITH THE SEED: the statements are not yours to turn. If you find one false, say at which input.
  Laid BY PROGRAM, IN A SANDBOX (cutbox-rows.mjs): the forced cells as the released guide's own fill.sh prints them over the translation a4ca660cdd6fdc08… (all of the seat's roots in one cut). By AI agents, Wed Nov 11 2026. No macro, syntax, notation, axiom, sorry.
-/
import Derived.Test.YthkpoiaakggimaaChecked
import GoSem.Claim
import GoSem.ClaimJoined
import GoSem.ClaimMapViews
import Derived.JoinedTies
import Derived.KernelRfl
namespace Go.Proofs.Ythkpoiaakggimaa
/- THE CELL 'sum', in the pinned program and in every row, IS THE sha256 OF THE DUMP (.gsa) THAT YthkpoiaakggimaaProg.lean LOADS. Nothing in Lean hashes anything: it is a label: what it is worth is what the hold of that sum in a sandbox is worth. -/
noncomputable def Try.pinned : Pinned := { name := "ythkpoiaakggimaa", sum := "a4ca660cdd6fdc08251a0508aac334b260447e8899e366aaa178e9eb22c5bc08", checked := Try.checked }
namespace Rows
def none {H : Type} : Left H := { results := [], args := [] }

/-- 'backstaylaw09.DirecRight': WHATEVER THE INPUT: true; the input reads as it did. -/
def direcRightSpec : ChangeSpec := { name := "direcRight", fn := fun _ => fun
  | [d1, d2, d3] => { results := [.lit (.bool true)], args := [d1, d2, d3] }
  | _ => none }
def direcRightRow : OpenClaim := { program := "ythkpoiaakggimaa", sum := "a4ca660cdd6fdc08251a0508aac334b260447e8899e366aaa178e9eb22c5bc08", func := "backstay/backstaylaw09.DirecRight", spec := "direcRight", apart := false }
def DirecRightSaid : Prop := direcRightRow.holds Try.pinned (OpenSpec.ofChange direcRightSpec)

/-- ITS FALSE NEIGHBOUR: 'it returns false'. Refute it at one input. -/
def direcRightWrong : ChangeSpec := { name := "direcRight", fn := fun _ => fun
  | [d1, d2, d3] => { results := [.lit (.bool false)], args := [d1, d2, d3] }
  | _ => none }
def DirecRightWrongFalsely : Prop := direcRightRow.holds Try.pinned (OpenSpec.ofChange direcRightWrong)

/-- 'backstaylaw09.DirecOne': WHATEVER THE INPUT: true; the input reads as it did. -/
def direcOneSpec : ChangeSpec := { name := "direcOne", fn := fun _ => fun
  | [d1, d2] => { results := [.lit (.bool true)], args := [d1, d2] }
  | _ => none }
def direcOneRow : OpenClaim := { program := "ythkpoiaakggimaa", sum := "a4ca660cdd6fdc08251a0508aac334b260447e8899e366aaa178e9eb22c5bc08", func := "backstay/backstaylaw09.DirecOne", spec := "direcOne", apart := false }
def DirecOneSaid : Prop := direcOneRow.holds Try.pinned (OpenSpec.ofChange direcOneSpec)

/-- ITS FALSE NEIGHBOUR: 'it returns false'. Refute it at one input. -/
def direcOneWrong : ChangeSpec := { name := "direcOne", fn := fun _ => fun
  | [d1, d2] => { results := [.lit (.bool false)], args := [d1, d2] }
  | _ => none }
def DirecOneWrongFalsely : Prop := direcOneRow.holds Try.pinned (OpenSpec.ofChange direcOneWrong)

/-- 'backstaylaw09.DirecAll': WHATEVER THE INPUT: true; the input reads as it did. -/
def direcAllSpec : ChangeSpec := { name := "direcAll", fn := fun _ => fun
  | [d1, d2, d3] => { results := [.lit (.bool true)], args := [d1, d2, d3] }
  | _ => none }
def direcAllRow : OpenClaim := { program := "ythkpoiaakggimaa", sum := "a4ca660cdd6fdc08251a0508aac334b260447e8899e366aaa178e9eb22c5bc08", func := "backstay/backstaylaw09.DirecAll", spec := "direcAll", apart := false }
def DirecAllSaid : Prop := direcAllRow.holds Try.pinned (OpenSpec.ofChange direcAllSpec)

/-- ITS FALSE NEIGHBOUR: 'it returns false'. Refute it at one input. -/
def direcAllWrong : ChangeSpec := { name := "direcAll", fn := fun _ => fun
  | [d1, d2, d3] => { results := [.lit (.bool false)], args := [d1, d2, d3] }
  | _ => none }
def DirecAllWrongFalsely : Prop := direcAllRow.holds Try.pinned (OpenSpec.ofChange direcAllWrong)

/- THE SECOND FORM. 'bulk': how many values and letters a reading holds, each counted each time it is reached (what is shared counts as often as it is met; a slice's spare places count too). A statement '..UptoSaid' is the law's where the arguments, and the package variables that the reading takes, are together of bulk at most 1048576: NARROWER than '..Said'. Prove '..Said' where nothing that the law and all that it calls make is longer than what came in: it says more and counts as full. Else prove '..UptoSaid'. A law counts once. -/
mutual
def uptoBulk {H : Type} : DataW H → Nat
  | .lit (.string bytes) => bytes.length + 1
  | .lit _ => 1
  | .nil => 1
  | .ptr d => uptoBulk d + 1
  | .slice elems spare => uptoBulkAll elems + uptoBulkAll spare + 1
  | .agg parts => uptoBulkAll parts + 1
  | .iface _ d => uptoBulk d + 1
  | .map entries => uptoBulkEntries entries + 1
  | .held _ => 1
def uptoBulkAll {H : Type} : List (DataW H) → Nat
  | [] => 0
  | d :: r => uptoBulk d + uptoBulkAll r
def uptoBulkEntries {H : Type} : List (Lit × DataW H) → Nat
  | [] => 0
  | x :: r => uptoBulkEntry x + uptoBulkEntries r
def uptoBulkEntry {H : Type} : Lit × DataW H → Nat
  | (.string bytes, d) => bytes.length + uptoBulk d + 1
  | (_, d) => uptoBulk d + 1
 end
def uptoSmall : (H : Type) → List (DataW H) → Bool := fun _ ds => decide (uptoBulkAll ds ≤ 1048576)
def OpenSpec.upto (s : _root_.Go.ChangeSpec) : _root_.Go.OpenSpec := { _root_.Go.OpenSpec.ofChange s with cond := some uptoSmall }

/-- 'backstaylaw09.DirecRight', WHERE WHAT IT READS IS OF BULK AT MOST 1048576: true; the input reads as it did. -/
def direcRightUptoRow : OpenClaim := { program := "ythkpoiaakggimaa", sum := "a4ca660cdd6fdc08251a0508aac334b260447e8899e366aaa178e9eb22c5bc08", func := "backstay/backstaylaw09.DirecRight", spec := "direcRight", apart := false, narrowed := true }
def DirecRightUptoSaid : Prop := direcRightUptoRow.holds Try.pinned (OpenSpec.upto direcRightSpec)

/-- 'backstaylaw09.DirecOne', WHERE WHAT IT READS IS OF BULK AT MOST 1048576: true; the input reads as it did. -/
def direcOneUptoRow : OpenClaim := { program := "ythkpoiaakggimaa", sum := "a4ca660cdd6fdc08251a0508aac334b260447e8899e366aaa178e9eb22c5bc08", func := "backstay/backstaylaw09.DirecOne", spec := "direcOne", apart := false, narrowed := true }
def DirecOneUptoSaid : Prop := direcOneUptoRow.holds Try.pinned (OpenSpec.upto direcOneSpec)

/-- 'backstaylaw09.DirecAll', WHERE WHAT IT READS IS OF BULK AT MOST 1048576: true; the input reads as it did. -/
def direcAllUptoRow : OpenClaim := { program := "ythkpoiaakggimaa", sum := "a4ca660cdd6fdc08251a0508aac334b260447e8899e366aaa178e9eb22c5bc08", func := "backstay/backstaylaw09.DirecAll", spec := "direcAll", apart := false, narrowed := true }
def DirecAllUptoSaid : Prop := direcAllUptoRow.holds Try.pinned (OpenSpec.upto direcAllSpec)

end Rows
end Go.Proofs.Ythkpoiaakggimaa
