/-
  No cell of these rows narrows 'for every input' (looked for: loops, veiled, ifaces, maps, wideKeys, modest, calm, conditions, laid).
  DERIVED. THE GIVEN ROWS OF THIS SEAT. 3 by the template 'for every input the law returns true; each argument reads behind the call as it read before'; 0 by the template 'total and deterministic' (their statements: YtafilmbldgimmaaTotals.lean).
  GIVEN WITH THE SEED: the statements are not yours to turn. If you find one false, say at which input.
  Laid BY PROGRAM, IN A SANDBOX (cutbox-rows.mjs): the forced cells as the released guide's own fill.sh prints them over the translation a7d5393cd28fb74c… (all of the seat's roots in one cut). By AI agents, Wed Nov 11 2026. No macro, syntax, notation, axiom, sorry.
-/
import Derived.Test.YtafilmbldgimmaaChecked
import GoSem.Claim
import GoSem.ClaimJoined
import GoSem.ClaimMapViews
import Derived.JoinedTies
import Derived.KernelRfl
namespace Go.Proofs.Ytafilmbldgimmaa
/- THE CELL 'sum', in the pinned program and in every row, IS THE sha256 OF THE DUMP (.gsa) THAT YtafilmbldgimmaaProg.lean LOADS. Nothing in Lean hashes anything: it is a label: what it is worth is what the hold of that sum in a sandbox is worth. -/
noncomputable def Try.pinned : Pinned := { name := "ytafilmbldgimmaa", sum := "a7d5393cd28fb74c3b614f6a7b5f71b1e42ab9afab5972aec059409ed31967d5", checked := Try.checked }
namespace Rows
def none {H : Type} : Left H := { results := [], args := [] }

/-- 'backstaylaw02.IsaRight': WHATEVER THE INPUT: true; the input reads as it did. -/
def isaRightSpec : ChangeSpec := { name := "isaRight", fn := fun _ => fun
  | [d1, d2, d3] => { results := [.lit (.bool true)], args := [d1, d2, d3] }
  | _ => none }
def isaRightRow : OpenClaim := { program := "ytafilmbldgimmaa", sum := "a7d5393cd28fb74c3b614f6a7b5f71b1e42ab9afab5972aec059409ed31967d5", func := "backstay/backstaylaw02.IsaRight", spec := "isaRight", apart := false }
def IsaRightSaid : Prop := isaRightRow.holds Try.pinned (OpenSpec.ofChange isaRightSpec)

/-- ITS FALSE NEIGHBOUR: 'it returns false'. Refute it at one input. -/
def isaRightWrong : ChangeSpec := { name := "isaRight", fn := fun _ => fun
  | [d1, d2, d3] => { results := [.lit (.bool false)], args := [d1, d2, d3] }
  | _ => none }
def IsaRightWrongFalsely : Prop := isaRightRow.holds Try.pinned (OpenSpec.ofChange isaRightWrong)

/-- 'backstaylaw02.IsaUses': WHATEVER THE INPUT: true; the input reads as it did. -/
def isaUsesSpec : ChangeSpec := { name := "isaUses", fn := fun _ => fun
  | [d1, d2, d3, d4, d5, d6] => { results := [.lit (.bool true)], args := [d1, d2, d3, d4, d5, d6] }
  | _ => none }
def isaUsesRow : OpenClaim := { program := "ytafilmbldgimmaa", sum := "a7d5393cd28fb74c3b614f6a7b5f71b1e42ab9afab5972aec059409ed31967d5", func := "backstay/backstaylaw02.IsaUses", spec := "isaUses", apart := false }
def IsaUsesSaid : Prop := isaUsesRow.holds Try.pinned (OpenSpec.ofChange isaUsesSpec)

/-- ITS FALSE NEIGHBOUR: 'it returns false'. Refute it at one input. -/
def isaUsesWrong : ChangeSpec := { name := "isaUses", fn := fun _ => fun
  | [d1, d2, d3, d4, d5, d6] => { results := [.lit (.bool false)], args := [d1, d2, d3, d4, d5, d6] }
  | _ => none }
def IsaUsesWrongFalsely : Prop := isaUsesRow.holds Try.pinned (OpenSpec.ofChange isaUsesWrong)

/-- 'backstaylaw02.IsaStays': WHATEVER THE INPUT: true; the input reads as it did. -/
def isaStaysSpec : ChangeSpec := { name := "isaStays", fn := fun _ => fun
  | [d] => { results := [.lit (.bool true)], args := [d] }
  | _ => none }
def isaStaysRow : OpenClaim := { program := "ytafilmbldgimmaa", sum := "a7d5393cd28fb74c3b614f6a7b5f71b1e42ab9afab5972aec059409ed31967d5", func := "backstay/backstaylaw02.IsaStays", spec := "isaStays", apart := false }
def IsaStaysSaid : Prop := isaStaysRow.holds Try.pinned (OpenSpec.ofChange isaStaysSpec)

/-- ITS FALSE NEIGHBOUR: 'it returns false'. Refute it at one input. -/
def isaStaysWrong : ChangeSpec := { name := "isaStays", fn := fun _ => fun
  | [d] => { results := [.lit (.bool false)], args := [d] }
  | _ => none }
def IsaStaysWrongFalsely : Prop := isaStaysRow.holds Try.pinned (OpenSpec.ofChange isaStaysWrong)

/- THE SECOND FORM. 'bulk': how many values and letters a reading holds, each counted each time it is reached (what is shared counts as often as it is met; a slice's spare places count too). A statement '..UptoSaid' is the law's where the arguments, and the package variables that the reading takes, are together of bulk at most 1048576: NARROWER than '..Said'. Prove '..Said' where nothing that the law and all that it calls make is longer than what came in: it says more and counts as full. Else prove '..UptoSaid'. A law counts once. -/
mutual
def uptoBulk {H : Type} : DataW H → Nat
  | .lit (.string bytes) => bytes.length + 1
  | .lit _ => 1
  | .nil => 1
  | .ptr d => uptoBulk d + 1
  | .slice elems spare => uptoBulkAll elems + uptoBulkAll spare + 1
  | .agg parts => uptoBulkAll parts + 1
  | .iface _ d => uptoBulk d + 1
  | .map entries => uptoBulkEntries entries + 1
  | .held _ => 1
def uptoBulkAll {H : Type} : List (DataW H) → Nat
  | [] => 0
  | d :: r => uptoBulk d + uptoBulkAll r
def uptoBulkEntries {H : Type} : List (Lit × DataW H) → Nat
  | [] => 0
  | x :: r => uptoBulkEntry x + uptoBulkEntries r
def uptoBulkEntry {H : Type} : Lit × DataW H → Nat
  | (.string bytes, d) => bytes.length + uptoBulk d + 1
  | (_, d) => uptoBulk d + 1
 end
def uptoSmall : (H : Type) → List (DataW H) → Bool := fun _ ds => decide (uptoBulkAll ds ≤ 1048576)
def OpenSpec.upto (s : _root_.Go.ChangeSpec) : _root_.Go.OpenSpec := { _root_.Go.OpenSpec.ofChange s with cond := some uptoSmall }

/-- 'backstaylaw02.IsaRight', WHERE WHAT IT READS IS OF BULK AT MOST 1048576: true; the input reads as it did. -/
def isaRightUptoRow : OpenClaim := { program := "ytafilmbldgimmaa", sum := "a7d5393cd28fb74c3b614f6a7b5f71b1e42ab9afab5972aec059409ed31967d5", func := "backstay/backstaylaw02.IsaRight", spec := "isaRight", apart := false, narrowed := true }
def IsaRightUptoSaid : Prop := isaRightUptoRow.holds Try.pinned (OpenSpec.upto isaRightSpec)

/-- 'backstaylaw02.IsaUses', WHERE WHAT IT READS IS OF BULK AT MOST 1048576: true; the input reads as it did. -/
def isaUsesUptoRow : OpenClaim := { program := "ytafilmbldgimmaa", sum := "a7d5393cd28fb74c3b614f6a7b5f71b1e42ab9afab5972aec059409ed31967d5", func := "backstay/backstaylaw02.IsaUses", spec := "isaUses", apart := false, narrowed := true }
def IsaUsesUptoSaid : Prop := isaUsesUptoRow.holds Try.pinned (OpenSpec.upto isaUsesSpec)

/-- 'backstaylaw02.IsaStays', WHERE WHAT IT READS IS OF BULK AT MOST 1048576: true; the input reads as it did. -/
def isaStaysUptoRow : OpenClaim := { program := "ytafilmbldgimmaa", sum := "a7d5393cd28fb74c3b614f6a7b5f71b1e42ab9afab5972aec059409ed31967d5", func := "backstay/backstaylaw02.IsaStays", spec := "isaStays", apart := false, narrowed := true }
def IsaStaysUptoSaid : Prop := isaStaysUptoRow.holds Try.pinned (OpenSpec.upto isaStaysSpec)

end Rows
end Go.Proofs.Ytafilmbldgimmaa
