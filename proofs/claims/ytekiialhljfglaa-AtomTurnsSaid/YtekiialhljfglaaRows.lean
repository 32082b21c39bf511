/-
  No cell of these rows narrows 'for every input' (looked for: loops, veiled, ifaces, maps, wideKeys, modest, calm, conditions, laid).
  DERIVED. THE GIVEN ROWS OF THIS SEAT. 4 by the template 'for every input the law returns true; each argument reads behind the call as it read before'; 0 by the template 'total and deterministic' (their statements: YtekiialhljfglaaTotals.lean).
  GIVEN WITH THE SEED: the statements are not yours to turn. If you find one false, say at which input.
  Laid BY PROGRAM, IN A SANDBOX (cutbox-rows.mjs): the forced cells as the released guide's own fill.sh prints them over the translation e31f890bfc472187… (all of the seat's roots in one cut). By AI agents, Wed Nov 11 2026. No macro, syntax, notation, axiom, sorry.
-/
import Derived.Test.YtekiialhljfglaaChecked
import GoSem.Claim
import GoSem.ClaimJoined
import GoSem.ClaimMapViews
import Derived.JoinedTies
import Derived.KernelRfl
namespace Go.Proofs.Ytekiialhljfglaa
/- THE CELL 'sum', in the pinned program and in every row, IS THE sha256 OF THE DUMP (.gsa) THAT YtekiialhljfglaaProg.lean LOADS. Nothing in Lean hashes anything: it is a label: what it is worth is what the hold of that sum in a sandbox is worth. -/
noncomputable def Try.pinned : Pinned := { name := "ytekiialhljfglaa", sum := "e31f890bfc47218781c49c5e4c414705779d06c61b62f8b188caa9e446067342", checked := Try.checked }
namespace Rows
def none {H : Type} : Left H := { results := [], args := [] }

/-- 'backstaylaw04.AtomRight': WHATEVER THE INPUT: true; the input reads as it did. -/
def atomRightSpec : ChangeSpec := { name := "atomRight", fn := fun _ => fun
  | [d1, d2, d3, d4, d5] => { results := [.lit (.bool true)], args := [d1, d2, d3, d4, d5] }
  | _ => none }
def atomRightRow : OpenClaim := { program := "ytekiialhljfglaa", sum := "e31f890bfc47218781c49c5e4c414705779d06c61b62f8b188caa9e446067342", func := "backstay/backstaylaw04.AtomRight", spec := "atomRight", apart := false }
def AtomRightSaid : Prop := atomRightRow.holds Try.pinned (OpenSpec.ofChange atomRightSpec)

/-- ITS FALSE NEIGHBOUR: 'it returns false'. Refute it at one input. -/
def atomRightWrong : ChangeSpec := { name := "atomRight", fn := fun _ => fun
  | [d1, d2, d3, d4, d5] => { results := [.lit (.bool false)], args := [d1, d2, d3, d4, d5] }
  | _ => none }
def AtomRightWrongFalsely : Prop := atomRightRow.holds Try.pinned (OpenSpec.ofChange atomRightWrong)

/-- 'backstaylaw04.AtomRuns': WHATEVER THE INPUT: true; the input reads as it did. -/
def atomRunsSpec : ChangeSpec := { name := "atomRuns", fn := fun _ => fun
  | [d1, d2, d3] => { results := [.lit (.bool true)], args := [d1, d2, d3] }
  | _ => none }
def atomRunsRow : OpenClaim := { program := "ytekiialhljfglaa", sum := "e31f890bfc47218781c49c5e4c414705779d06c61b62f8b188caa9e446067342", func := "backstay/backstaylaw04.AtomRuns", spec := "atomRuns", apart := false }
def AtomRunsSaid : Prop := atomRunsRow.holds Try.pinned (OpenSpec.ofChange atomRunsSpec)

/-- ITS FALSE NEIGHBOUR: 'it returns false'. Refute it at one input. -/
def atomRunsWrong : ChangeSpec := { name := "atomRuns", fn := fun _ => fun
  | [d1, d2, d3] => { results := [.lit (.bool false)], args := [d1, d2, d3] }
  | _ => none }
def AtomRunsWrongFalsely : Prop := atomRunsRow.holds Try.pinned (OpenSpec.ofChange atomRunsWrong)

/-- 'backstaylaw04.AtomReplays': WHATEVER THE INPUT: true; the input reads as it did. -/
def atomReplaysSpec : ChangeSpec := { name := "atomReplays", fn := fun _ => fun
  | [d1, d2, d3] => { results := [.lit (.bool true)], args := [d1, d2, d3] }
  | _ => none }
def atomReplaysRow : OpenClaim := { program := "ytekiialhljfglaa", sum := "e31f890bfc47218781c49c5e4c414705779d06c61b62f8b188caa9e446067342", func := "backstay/backstaylaw04.AtomReplays", spec := "atomReplays", apart := false }
def AtomReplaysSaid : Prop := atomReplaysRow.holds Try.pinned (OpenSpec.ofChange atomReplaysSpec)

/-- ITS FALSE NEIGHBOUR: 'it returns false'. Refute it at one input. -/
def atomReplaysWrong : ChangeSpec := { name := "atomReplays", fn := fun _ => fun
  | [d1, d2, d3] => { results := [.lit (.bool false)], args := [d1, d2, d3] }
  | _ => none }
def AtomReplaysWrongFalsely : Prop := atomReplaysRow.holds Try.pinned (OpenSpec.ofChange atomReplaysWrong)

/-- 'backstaylaw04.AtomTurns': WHATEVER THE INPUT: true; the input reads as it did. -/
def atomTurnsSpec : ChangeSpec := { name := "atomTurns", fn := fun _ => fun
  | [d1, d2, d3, d4, d5] => { results := [.lit (.bool true)], args := [d1, d2, d3, d4, d5] }
  | _ => none }
def atomTurnsRow : OpenClaim := { program := "ytekiialhljfglaa", sum := "e31f890bfc47218781c49c5e4c414705779d06c61b62f8b188caa9e446067342", func := "backstay/backstaylaw04.AtomTurns", spec := "atomTurns", apart := false }
def AtomTurnsSaid : Prop := atomTurnsRow.holds Try.pinned (OpenSpec.ofChange atomTurnsSpec)

/-- ITS FALSE NEIGHBOUR: 'it returns false'. Refute it at one input. -/
def atomTurnsWrong : ChangeSpec := { name := "atomTurns", fn := fun _ => fun
  | [d1, d2, d3, d4, d5] => { results := [.lit (.bool false)], args := [d1, d2, d3, d4, d5] }
  | _ => none }
def AtomTurnsWrongFalsely : Prop := atomTurnsRow.holds Try.pinned (OpenSpec.ofChange atomTurnsWrong)

/- THE SECOND FORM. 'bulk': how many values and letters a reading holds, each counted each time it is reached (what is shared counts as often as it is met; a slice's spare places count too). A statement '..UptoSaid' is the law's where the arguments, and the package variables that the reading takes, are together of bulk at most 1048576: NARROWER than '..Said'. Prove '..Said' where nothing that the law and all that it calls make is longer than what came in: it says more and counts as full. Else prove '..UptoSaid'. A law counts once. -/
mutual
def uptoBulk {H : Type} : DataW H → Nat
  | .lit (.string bytes) => bytes.length + 1
  | .lit _ => 1
  | .nil => 1
  | .ptr d => uptoBulk d + 1
  | .slice elems spare => uptoBulkAll elems + uptoBulkAll spare + 1
  | .agg parts => uptoBulkAll parts + 1
  | .iface _ d => uptoBulk d + 1
  | .map entries => uptoBulkEntries entries + 1
  | .held _ => 1
def uptoBulkAll {H : Type} : List (DataW H) → Nat
  | [] => 0
  | d :: r => uptoBulk d + uptoBulkAll r
def uptoBulkEntries {H : Type} : List (Lit × DataW H) → Nat
  | [] => 0
  | x :: r => uptoBulkEntry x + uptoBulkEntries r
def uptoBulkEntry {H : Type} : Lit × DataW H → Nat
  | (.string bytes, d) => bytes.length + uptoBulk d + 1
  | (_, d) => uptoBulk d + 1
 end
def uptoSmall : (H : Type) → List (DataW H) → Bool := fun _ ds => decide (uptoBulkAll ds ≤ 1048576)
def OpenSpec.upto (s : _root_.Go.ChangeSpec) : _root_.Go.OpenSpec := { _root_.Go.OpenSpec.ofChange s with cond := some uptoSmall }

/-- 'backstaylaw04.AtomRight', WHERE WHAT IT READS IS OF BULK AT MOST 1048576: true; the input reads as it did. -/
def atomRightUptoRow : OpenClaim := { program := "ytekiialhljfglaa", sum := "e31f890bfc47218781c49c5e4c414705779d06c61b62f8b188caa9e446067342", func := "backstay/backstaylaw04.AtomRight", spec := "atomRight", apart := false, narrowed := true }
def AtomRightUptoSaid : Prop := atomRightUptoRow.holds Try.pinned (OpenSpec.upto atomRightSpec)

/-- 'backstaylaw04.AtomRuns', WHERE WHAT IT READS IS OF BULK AT MOST 1048576: true; the input reads as it did. -/
def atomRunsUptoRow : OpenClaim := { program := "ytekiialhljfglaa", sum := "e31f890bfc47218781c49c5e4c414705779d06c61b62f8b188caa9e446067342", func := "backstay/backstaylaw04.AtomRuns", spec := "atomRuns", apart := false, narrowed := true }
def AtomRunsUptoSaid : Prop := atomRunsUptoRow.holds Try.pinned (OpenSpec.upto atomRunsSpec)

/-- 'backstaylaw04.AtomReplays', WHERE WHAT IT READS IS OF BULK AT MOST 1048576: true; the input reads as it did. -/
def atomReplaysUptoRow : OpenClaim := { program := "ytekiialhljfglaa", sum := "e31f890bfc47218781c49c5e4c414705779d06c61b62f8b188caa9e446067342", func := "backstay/backstaylaw04.AtomReplays", spec := "atomReplays", apart := false, narrowed := true }
def AtomReplaysUptoSaid : Prop := atomReplaysUptoRow.holds Try.pinned (OpenSpec.upto atomReplaysSpec)

/-- 'backstaylaw04.AtomTurns', WHERE WHAT IT READS IS OF BULK AT MOST 1048576: true; the input reads as it did. -/
def atomTurnsUptoRow : OpenClaim := { program := "ytekiialhljfglaa", sum := "e31f890bfc47218781c49c5e4c414705779d06c61b62f8b188caa9e446067342", func := "backstay/backstaylaw04.AtomTurns", spec := "atomTurns", apart := false, narrowed := true }
def AtomTurnsUptoSaid : Prop := atomTurnsUptoRow.holds Try.pinned (OpenSpec.upto atomTurnsSpec)

end Rows
end Go.Proofs.Ytekiialhljfglaa
