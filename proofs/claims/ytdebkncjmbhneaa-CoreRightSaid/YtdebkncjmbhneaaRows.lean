/-
  No cell of these rows narrows 'for every input' (looked for: loops, veiled, ifaces, maps, wideKeys, modest, calm, conditions, laid).
  DERIVED. THE GIVEN ROWS OF THIS SEAT. 3 by the template 'for every input the law returns true; each argument reads behind the call as it read before'; 0 by the template 'total and deterministic' (their statements: YtdebkncjmbhneaaTotals.lean).
  GIVEN WITH THE SEED: the statements are not yours to turn. If you find one false, say at which input.
  Laid BY PROGRAM, IN A SANDBOX (cutbox-rows.mjs): the forced cells as the released guide's own fill.sh prints them over the translation e565abb15863d2ef… (all of the seat's roots in one cut). By AI agents, Wed Nov 11 2026. No macro, syntax, notation, axiom, sorry.
-/
import Derived.Test.YtdebkncjmbhneaaChecked
import GoSem.Claim
import GoSem.ClaimJoined
import GoSem.ClaimMapViews
import Derived.JoinedTies
import Derived.KernelRfl
namespace Go.Proofs.Ytdebkncjmbhneaa
/- THE CELL 'sum', in the pinned program and in every row, IS THE sha256 OF THE DUMP (.gsa) THAT YtdebkncjmbhneaaProg.lean LOADS. Nothing in Lean hashes anything: it is a label: what it is worth is what the hold of that sum in a sandbox is worth. -/
noncomputable def Try.pinned : Pinned := { name := "ytdebkncjmbhneaa", sum := "e565abb15863d2ef3a1bda264a0c2f726b2773c1a448c69489564bab24b26608", checked := Try.checked }
namespace Rows
def none {H : Type} : Left H := { results := [], args := [] }

/-- 'backstaylaw03.CoreRight': WHATEVER THE INPUT: true; the input reads as it did. -/
def coreRightSpec : ChangeSpec := { name := "coreRight", fn := fun _ => fun
  | [d1, d2, d3, d4] => { results := [.lit (.bool true)], args := [d1, d2, d3, d4] }
  | _ => none }
def coreRightRow : OpenClaim := { program := "ytdebkncjmbhneaa", sum := "e565abb15863d2ef3a1bda264a0c2f726b2773c1a448c69489564bab24b26608", func := "backstay/backstaylaw03.CoreRight", spec := "coreRight", apart := false }
def CoreRightSaid : Prop := coreRightRow.holds Try.pinned (OpenSpec.ofChange coreRightSpec)

/-- ITS FALSE NEIGHBOUR: 'it returns false'. Refute it at one input. -/
def coreRightWrong : ChangeSpec := { name := "coreRight", fn := fun _ => fun
  | [d1, d2, d3, d4] => { results := [.lit (.bool false)], args := [d1, d2, d3, d4] }
  | _ => none }
def CoreRightWrongFalsely : Prop := coreRightRow.holds Try.pinned (OpenSpec.ofChange coreRightWrong)

/-- 'backstaylaw03.CoreOrder': WHATEVER THE INPUT: true; the input reads as it did. -/
def coreOrderSpec : ChangeSpec := { name := "coreOrder", fn := fun _ => fun
  | [d1, d2, d3, d4] => { results := [.lit (.bool true)], args := [d1, d2, d3, d4] }
  | _ => none }
def coreOrderRow : OpenClaim := { program := "ytdebkncjmbhneaa", sum := "e565abb15863d2ef3a1bda264a0c2f726b2773c1a448c69489564bab24b26608", func := "backstay/backstaylaw03.CoreOrder", spec := "coreOrder", apart := false }
def CoreOrderSaid : Prop := coreOrderRow.holds Try.pinned (OpenSpec.ofChange coreOrderSpec)

/-- ITS FALSE NEIGHBOUR: 'it returns false'. Refute it at one input. -/
def coreOrderWrong : ChangeSpec := { name := "coreOrder", fn := fun _ => fun
  | [d1, d2, d3, d4] => { results := [.lit (.bool false)], args := [d1, d2, d3, d4] }
  | _ => none }
def CoreOrderWrongFalsely : Prop := coreOrderRow.holds Try.pinned (OpenSpec.ofChange coreOrderWrong)

/-- 'backstaylaw03.CoreAnswers': WHATEVER THE INPUT: true; the input reads as it did. -/
def coreAnswersSpec : ChangeSpec := { name := "coreAnswers", fn := fun _ => fun
  | [d1, d2, d3, d4, d5] => { results := [.lit (.bool true)], args := [d1, d2, d3, d4, d5] }
  | _ => none }
def coreAnswersRow : OpenClaim := { program := "ytdebkncjmbhneaa", sum := "e565abb15863d2ef3a1bda264a0c2f726b2773c1a448c69489564bab24b26608", func := "backstay/backstaylaw03.CoreAnswers", spec := "coreAnswers", apart := false }
def CoreAnswersSaid : Prop := coreAnswersRow.holds Try.pinned (OpenSpec.ofChange coreAnswersSpec)

/-- ITS FALSE NEIGHBOUR: 'it returns false'. Refute it at one input. -/
def coreAnswersWrong : ChangeSpec := { name := "coreAnswers", fn := fun _ => fun
  | [d1, d2, d3, d4, d5] => { results := [.lit (.bool false)], args := [d1, d2, d3, d4, d5] }
  | _ => none }
def CoreAnswersWrongFalsely : Prop := coreAnswersRow.holds Try.pinned (OpenSpec.ofChange coreAnswersWrong)

/- THE SECOND FORM. 'bulk': how many values and letters a reading holds, each counted each time it is reached (what is shared counts as often as it is met; a slice's spare places count too). A statement '..UptoSaid' is the law's where the arguments, and the package variables that the reading takes, are together of bulk at most 1048576: NARROWER than '..Said'. Prove '..Said' where nothing that the law and all that it calls make is longer than what came in: it says more and counts as full. Else prove '..UptoSaid'. A law counts once. -/
mutual
def uptoBulk {H : Type} : DataW H → Nat
  | .lit (.string bytes) => bytes.length + 1
  | .lit _ => 1
  | .nil => 1
  | .ptr d => uptoBulk d + 1
  | .slice elems spare => uptoBulkAll elems + uptoBulkAll spare + 1
  | .agg parts => uptoBulkAll parts + 1
  | .iface _ d => uptoBulk d + 1
  | .map entries => uptoBulkEntries entries + 1
  | .held _ => 1
def uptoBulkAll {H : Type} : List (DataW H) → Nat
  | [] => 0
  | d :: r => uptoBulk d + uptoBulkAll r
def uptoBulkEntries {H : Type} : List (Lit × DataW H) → Nat
  | [] => 0
  | x :: r => uptoBulkEntry x + uptoBulkEntries r
def uptoBulkEntry {H : Type} : Lit × DataW H → Nat
  | (.string bytes, d) => bytes.length + uptoBulk d + 1
  | (_, d) => uptoBulk d + 1
 end
def uptoSmall : (H : Type) → List (DataW H) → Bool := fun _ ds => decide (uptoBulkAll ds ≤ 1048576)
def OpenSpec.upto (s : _root_.Go.ChangeSpec) : _root_.Go.OpenSpec := { _root_.Go.OpenSpec.ofChange s with cond := some uptoSmall }

/-- 'backstaylaw03.CoreRight', WHERE WHAT IT READS IS OF BULK AT MOST 1048576: true; the input reads as it did. -/
def coreRightUptoRow : OpenClaim := { program := "ytdebkncjmbhneaa", sum := "e565abb15863d2ef3a1bda264a0c2f726b2773c1a448c69489564bab24b26608", func := "backstay/backstaylaw03.CoreRight", spec := "coreRight", apart := false, narrowed := true }
def CoreRightUptoSaid : Prop := coreRightUptoRow.holds Try.pinned (OpenSpec.upto coreRightSpec)

/-- 'backstaylaw03.CoreOrder', WHERE WHAT IT READS IS OF BULK AT MOST 1048576: true; the input reads as it did. -/
def coreOrderUptoRow : OpenClaim := { program := "ytdebkncjmbhneaa", sum := "e565abb15863d2ef3a1bda264a0c2f726b2773c1a448c69489564bab24b26608", func := "backstay/backstaylaw03.CoreOrder", spec := "coreOrder", apart := false, narrowed := true }
def CoreOrderUptoSaid : Prop := coreOrderUptoRow.holds Try.pinned (OpenSpec.upto coreOrderSpec)

/-- 'backstaylaw03.CoreAnswers', WHERE WHAT IT READS IS OF BULK AT MOST 1048576: true; the input reads as it did. -/
def coreAnswersUptoRow : OpenClaim := { program := "ytdebkncjmbhneaa", sum := "e565abb15863d2ef3a1bda264a0c2f726b2773c1a448c69489564bab24b26608", func := "backstay/backstaylaw03.CoreAnswers", spec := "coreAnswers", apart := false, narrowed := true }
def CoreAnswersUptoSaid : Prop := coreAnswersUptoRow.holds Try.pinned (OpenSpec.upto coreAnswersSpec)

end Rows
end Go.Proofs.Ytdebkncjmbhneaa
