/-
  No cell of these rows narrows 'for every input' (looked for: loops, veiled, ifaces, maps, wideKeys, modest, calm, conditions, laid).
  DERIVED. THE GIVEN ROWS OF THIS SEAT. 3 by the template 'for every input the law returns true; each argument reads behind the call as it read before'; 0 by the template 'total and deterministic' (their statements: YteffmidpinlpjaaTotals.lean).
  GIVEN WITH THE SEED: the statements are not yours to turn. If you find one false, say at which input.
  Laid BY PROGRAM, IN A SANDBOX (cutbox-rows.mjs): the forced cells as the released guide's own fill.sh prints them over the translation d461fb9d530867bb… (all of the seat's roots in one cut). By AI agents, Wed Nov 11 2026. No macro, syntax, notation, axiom, sorry.
-/
import Derived.Test.YteffmidpinlpjaaChecked
import GoSem.Claim
import GoSem.ClaimJoined
import GoSem.ClaimMapViews
import Derived.JoinedTies
import Derived.KernelRfl
namespace Go.Proofs.Yteffmidpinlpjaa
/- THE CELL 'sum', in the pinned program and in every row, IS THE sha256 OF THE DUMP (.gsa) THAT YteffmidpinlpjaaProg.lean LOADS. Nothing in Lean hashes anything: it is a label: what it is worth is what the hold of that sum in a sandbox is worth. -/
noncomputable def Try.pinned : Pinned := { name := "yteffmidpinlpjaa", sum := "d461fb9d530867bb799b53c779c86f900244dae5911cfe5dfcb1dc7b57cce260", checked := Try.checked }
namespace Rows
def none {H : Type} : Left H := { results := [], args := [] }

/-- 'backstaylaw13.CommitRight': WHATEVER THE INPUT: true; the input reads as it did. -/
def commitRightSpec : ChangeSpec := { name := "commitRight", fn := fun _ => fun
  | [d1, d2, d3] => { results := [.lit (.bool true)], args := [d1, d2, d3] }
  | _ => none }
def commitRightRow : OpenClaim := { program := "yteffmidpinlpjaa", sum := "d461fb9d530867bb799b53c779c86f900244dae5911cfe5dfcb1dc7b57cce260", func := "backstay/backstaylaw13.CommitRight", spec := "commitRight", unfollowed := true, recurses := true, apart := false }
def CommitRightSaid : Prop := commitRightRow.holds Try.pinned (OpenSpec.ofChange commitRightSpec)

/-- ITS FALSE NEIGHBOUR: 'it returns false'. Refute it at one input. -/
def commitRightWrong : ChangeSpec := { name := "commitRight", fn := fun _ => fun
  | [d1, d2, d3] => { results := [.lit (.bool false)], args := [d1, d2, d3] }
  | _ => none }
def CommitRightWrongFalsely : Prop := commitRightRow.holds Try.pinned (OpenSpec.ofChange commitRightWrong)

/-- 'backstaylaw13.CommitSure': WHATEVER THE INPUT: true; the input reads as it did. -/
def commitSureSpec : ChangeSpec := { name := "commitSure", fn := fun _ => fun
  | [d] => { results := [.lit (.bool true)], args := [d] }
  | _ => none }
def commitSureRow : OpenClaim := { program := "yteffmidpinlpjaa", sum := "d461fb9d530867bb799b53c779c86f900244dae5911cfe5dfcb1dc7b57cce260", func := "backstay/backstaylaw13.CommitSure", spec := "commitSure", unfollowed := true, recurses := true, apart := false }
def CommitSureSaid : Prop := commitSureRow.holds Try.pinned (OpenSpec.ofChange commitSureSpec)

/-- ITS FALSE NEIGHBOUR: 'it returns false'. Refute it at one input. -/
def commitSureWrong : ChangeSpec := { name := "commitSure", fn := fun _ => fun
  | [d] => { results := [.lit (.bool false)], args := [d] }
  | _ => none }
def CommitSureWrongFalsely : Prop := commitSureRow.holds Try.pinned (OpenSpec.ofChange commitSureWrong)

/-- 'backstaylaw13.CommitOnce': WHATEVER THE INPUT: true; the input reads as it did. -/
def commitOnceSpec : ChangeSpec := { name := "commitOnce", fn := fun _ => fun
  | [d1, d2, d3] => { results := [.lit (.bool true)], args := [d1, d2, d3] }
  | _ => none }
def commitOnceRow : OpenClaim := { program := "yteffmidpinlpjaa", sum := "d461fb9d530867bb799b53c779c86f900244dae5911cfe5dfcb1dc7b57cce260", func := "backstay/backstaylaw13.CommitOnce", spec := "commitOnce", unfollowed := true, recurses := true, apart := false }
def CommitOnceSaid : Prop := commitOnceRow.holds Try.pinned (OpenSpec.ofChange commitOnceSpec)

/-- ITS FALSE NEIGHBOUR: 'it returns false'. Refute it at one input. -/
def commitOnceWrong : ChangeSpec := { name := "commitOnce", fn := fun _ => fun
  | [d1, d2, d3] => { results := [.lit (.bool false)], args := [d1, d2, d3] }
  | _ => none }
def CommitOnceWrongFalsely : Prop := commitOnceRow.holds Try.pinned (OpenSpec.ofChange commitOnceWrong)

/- THE SECOND FORM. 'bulk': how many values and letters a reading holds, each counted each time it is reached (what is shared counts as often as it is met; a slice's spare places count too). A statement '..UptoSaid' is the law's where the arguments, and the package variables that the reading takes, are together of bulk at most 1048576: NARROWER than '..Said'. Prove '..Said' where nothing that the law and all that it calls make is longer than what came in: it says more and counts as full. Else prove '..UptoSaid'. A law counts once. -/
mutual
def uptoBulk {H : Type} : DataW H → Nat
  | .lit (.string bytes) => bytes.length + 1
  | .lit _ => 1
  | .nil => 1
  | .ptr d => uptoBulk d + 1
  | .slice elems spare => uptoBulkAll elems + uptoBulkAll spare + 1
  | .agg parts => uptoBulkAll parts + 1
  | .iface _ d => uptoBulk d + 1
  | .map entries => uptoBulkEntries entries + 1
  | .held _ => 1
def uptoBulkAll {H : Type} : List (DataW H) → Nat
  | [] => 0
  | d :: r => uptoBulk d + uptoBulkAll r
def uptoBulkEntries {H : Type} : List (Lit × DataW H) → Nat
  | [] => 0
  | x :: r => uptoBulkEntry x + uptoBulkEntries r
def uptoBulkEntry {H : Type} : Lit × DataW H → Nat
  | (.string bytes, d) => bytes.length + uptoBulk d + 1
  | (_, d) => uptoBulk d + 1
 end
def uptoSmall : (H : Type) → List (DataW H) → Bool := fun _ ds => decide (uptoBulkAll ds ≤ 1048576)
def OpenSpec.upto (s : _root_.Go.ChangeSpec) : _root_.Go.OpenSpec := { _root_.Go.OpenSpec.ofChange s with cond := some uptoSmall }

/-- 'backstaylaw13.CommitRight', WHERE WHAT IT READS IS OF BULK AT MOST 1048576: true; the input reads as it did. -/
def commitRightUptoRow : OpenClaim := { program := "yteffmidpinlpjaa", sum := "d461fb9d530867bb799b53c779c86f900244dae5911cfe5dfcb1dc7b57cce260", func := "backstay/backstaylaw13.CommitRight", spec := "commitRight", unfollowed := true, recurses := true, apart := false, narrowed := true }
def CommitRightUptoSaid : Prop := commitRightUptoRow.holds Try.pinned (OpenSpec.upto commitRightSpec)

/-- 'backstaylaw13.CommitSure', WHERE WHAT IT READS IS OF BULK AT MOST 1048576: true; the input reads as it did. -/
def commitSureUptoRow : OpenClaim := { program := "yteffmidpinlpjaa", sum := "d461fb9d530867bb799b53c779c86f900244dae5911cfe5dfcb1dc7b57cce260", func := "backstay/backstaylaw13.CommitSure", spec := "commitSure", unfollowed := true, recurses := true, apart := false, narrowed := true }
def CommitSureUptoSaid : Prop := commitSureUptoRow.holds Try.pinned (OpenSpec.upto commitSureSpec)

/-- 'backstaylaw13.CommitOnce', WHERE WHAT IT READS IS OF BULK AT MOST 1048576: true; the input reads as it did. -/
def commitOnceUptoRow : OpenClaim := { program := "yteffmidpinlpjaa", sum := "d461fb9d530867bb799b53c779c86f900244dae5911cfe5dfcb1dc7b57cce260", func := "backstay/backstaylaw13.CommitOnce", spec := "commitOnce", unfollowed := true, recurses := true, apart := false, narrowed := true }
def CommitOnceUptoSaid : Prop := commitOnceUptoRow.holds Try.pinned (OpenSpec.upto commitOnceSpec)

end Rows
end Go.Proofs.Yteffmidpinlpjaa
