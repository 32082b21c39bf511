/-
  No cell of these rows narrows 'for every input' (looked for: loops, veiled, ifaces, maps, wideKeys, modest, calm, conditions, laid).
  DERIVED. THE GIVEN ROWS OF THIS SEAT. 4 by the template 'for every input the law returns true; each argument reads behind the call as it read before'; 0 by the template 'total and deterministic' (their statements: YtmeomdfmljanhaaGreatTotals.lean).
  GIVEN WITH THE SEED: the statements are not yours to turn. If you find one false, say at which input.
  Laid BY PROGRAM, IN A SANDBOX (cutbox-rows.mjs): the forced cells as the released guide's own fill.sh prints them over the translation dad9ec0ab5eac0f9… (all of the seat's roots in one cut). By AI agents, Wed Nov 11 2026. No macro, syntax, notation, axiom, sorry.
-/
import Derived.Test.YtmeomdfmljanhaaGreatChecked
import GoSem.Claim
import GoSem.ClaimJoined
import GoSem.ClaimMapViews
import Derived.JoinedTies
import Derived.KernelRfl
namespace Go.Proofs.YtmeomdfmljanhaaGreat
/- THE CELL 'sum', in the pinned program and in every row, IS THE sha256 OF THE DUMP (.gsa) THAT YtmeomdfmljanhaaGreatProg.lean LOADS. Nothing in Lean hashes anything: it is a label: what it is worth is what the hold of that sum in a sandbox is worth. -/
noncomputable def Tryz.pinned : Pinned := { name := "ytmeomdfmljanhaagreat", sum := "dad9ec0ab5eac0f979e7904355062d761bff9ab36ddb503e84aedc9112b283ab", checked := Tryz.checked }
namespace Rows
def none {H : Type} : Left H := { results := [], args := [] }

/-- 'backstaylaw10.ProtoRight': WHATEVER THE INPUT: true; the input reads as it did. -/
def protoRightSpec : ChangeSpec := { name := "protoRight", fn := fun _ => fun
  | [d1, d2, d3, d4, d5, d6] => { results := [.lit (.bool true)], args := [d1, d2, d3, d4, d5, d6] }
  | _ => none }
def protoRightRow : OpenClaim := { program := "ytmeomdfmljanhaagreat", sum := "dad9ec0ab5eac0f979e7904355062d761bff9ab36ddb503e84aedc9112b283ab", func := "backstay/backstaylaw10.ProtoRight", spec := "protoRight", unfollowed := true, recurses := true, apart := false }
def ProtoRightSaid : Prop := protoRightRow.holds Tryz.pinned (OpenSpec.ofChange protoRightSpec)

/-- ITS FALSE NEIGHBOUR: 'it returns false'. Refute it at one input. -/
def protoRightWrong : ChangeSpec := { name := "protoRight", fn := fun _ => fun
  | [d1, d2, d3, d4, d5, d6] => { results := [.lit (.bool false)], args := [d1, d2, d3, d4, d5, d6] }
  | _ => none }
def ProtoRightWrongFalsely : Prop := protoRightRow.holds Tryz.pinned (OpenSpec.ofChange protoRightWrong)

/-- 'backstaylaw10.ProtoPlays': WHATEVER THE INPUT: true; the input reads as it did. -/
def protoPlaysSpec : ChangeSpec := { name := "protoPlays", fn := fun _ => fun
  | [d1, d2, d3] => { results := [.lit (.bool true)], args := [d1, d2, d3] }
  | _ => none }
def protoPlaysRow : OpenClaim := { program := "ytmeomdfmljanhaagreat", sum := "dad9ec0ab5eac0f979e7904355062d761bff9ab36ddb503e84aedc9112b283ab", func := "backstay/backstaylaw10.ProtoPlays", spec := "protoPlays", unfollowed := true, recurses := true, apart := false }
def ProtoPlaysSaid : Prop := protoPlaysRow.holds Tryz.pinned (OpenSpec.ofChange protoPlaysSpec)

/-- ITS FALSE NEIGHBOUR: 'it returns false'. Refute it at one input. -/
def protoPlaysWrong : ChangeSpec := { name := "protoPlays", fn := fun _ => fun
  | [d1, d2, d3] => { results := [.lit (.bool false)], args := [d1, d2, d3] }
  | _ => none }
def ProtoPlaysWrongFalsely : Prop := protoPlaysRow.holds Tryz.pinned (OpenSpec.ofChange protoPlaysWrong)

/-- 'backstaylaw10.ProtoComes': WHATEVER THE INPUT: true; the input reads as it did. -/
def protoComesSpec : ChangeSpec := { name := "protoComes", fn := fun _ => fun
  | [d1, d2, d3, d4, d5, d6] => { results := [.lit (.bool true)], args := [d1, d2, d3, d4, d5, d6] }
  | _ => none }
def protoComesRow : OpenClaim := { program := "ytmeomdfmljanhaagreat", sum := "dad9ec0ab5eac0f979e7904355062d761bff9ab36ddb503e84aedc9112b283ab", func := "backstay/backstaylaw10.ProtoComes", spec := "protoComes", unfollowed := true, recurses := true, apart := false }
def ProtoComesSaid : Prop := protoComesRow.holds Tryz.pinned (OpenSpec.ofChange protoComesSpec)

/-- ITS FALSE NEIGHBOUR: 'it returns false'. Refute it at one input. -/
def protoComesWrong : ChangeSpec := { name := "protoComes", fn := fun _ => fun
  | [d1, d2, d3, d4, d5, d6] => { results := [.lit (.bool false)], args := [d1, d2, d3, d4, d5, d6] }
  | _ => none }
def ProtoComesWrongFalsely : Prop := protoComesRow.holds Tryz.pinned (OpenSpec.ofChange protoComesWrong)

/-- 'backstaylaw10.ProtoHome': WHATEVER THE INPUT: true; the input reads as it did. -/
def protoHomeSpec : ChangeSpec := { name := "protoHome", fn := fun _ => fun
  | [d1, d2, d3, d4, d5] => { results := [.lit (.bool true)], args := [d1, d2, d3, d4, d5] }
  | _ => none }
def protoHomeRow : OpenClaim := { program := "ytmeomdfmljanhaagreat", sum := "dad9ec0ab5eac0f979e7904355062d761bff9ab36ddb503e84aedc9112b283ab", func := "backstay/backstaylaw10.ProtoHome", spec := "protoHome", unfollowed := true, recurses := true, apart := false }
def ProtoHomeSaid : Prop := protoHomeRow.holds Tryz.pinned (OpenSpec.ofChange protoHomeSpec)

/-- ITS FALSE NEIGHBOUR: 'it returns false'. Refute it at one input. -/
def protoHomeWrong : ChangeSpec := { name := "protoHome", fn := fun _ => fun
  | [d1, d2, d3, d4, d5] => { results := [.lit (.bool false)], args := [d1, d2, d3, d4, d5] }
  | _ => none }
def ProtoHomeWrongFalsely : Prop := protoHomeRow.holds Tryz.pinned (OpenSpec.ofChange protoHomeWrong)

/- THE SECOND FORM. 'bulk': how many values and letters a reading holds, each counted each time it is reached (what is shared counts as often as it is met; a slice's spare places count too). A statement '..UptoSaid' is the law's where the arguments, and the package variables that the reading takes, are together of bulk at most 1048576: NARROWER than '..Said'. Prove '..Said' where nothing that the law and all that it calls make is longer than what came in: it says more and counts as full. Else prove '..UptoSaid'. A law counts once. -/
mutual
def uptoBulk {H : Type} : DataW H → Nat
  | .lit (.string bytes) => bytes.length + 1
  | .lit _ => 1
  | .nil => 1
  | .ptr d => uptoBulk d + 1
  | .slice elems spare => uptoBulkAll elems + uptoBulkAll spare + 1
  | .agg parts => uptoBulkAll parts + 1
  | .iface _ d => uptoBulk d + 1
  | .map entries => uptoBulkEntries entries + 1
  | .held _ => 1
def uptoBulkAll {H : Type} : List (DataW H) → Nat
  | [] => 0
  | d :: r => uptoBulk d + uptoBulkAll r
def uptoBulkEntries {H : Type} : List (Lit × DataW H) → Nat
  | [] => 0
  | x :: r => uptoBulkEntry x + uptoBulkEntries r
def uptoBulkEntry {H : Type} : Lit × DataW H → Nat
  | (.string bytes, d) => bytes.length + uptoBulk d + 1
  | (_, d) => uptoBulk d + 1
 end
def uptoSmall : (H : Type) → List (DataW H) → Bool := fun _ ds => decide (uptoBulkAll ds ≤ 1048576)
def OpenSpec.upto (s : _root_.Go.ChangeSpec) : _root_.Go.OpenSpec := { _root_.Go.OpenSpec.ofChange s with cond := some uptoSmall }

/-- 'backstaylaw10.ProtoRight', WHERE WHAT IT READS IS OF BULK AT MOST 1048576: true; the input reads as it did. -/
def protoRightUptoRow : OpenClaim := { program := "ytmeomdfmljanhaagreat", sum := "dad9ec0ab5eac0f979e7904355062d761bff9ab36ddb503e84aedc9112b283ab", func := "backstay/backstaylaw10.ProtoRight", spec := "protoRight", unfollowed := true, recurses := true, apart := false, narrowed := true }
def ProtoRightUptoSaid : Prop := protoRightUptoRow.holds Tryz.pinned (OpenSpec.upto protoRightSpec)

/-- 'backstaylaw10.ProtoPlays', WHERE WHAT IT READS IS OF BULK AT MOST 1048576: true; the input reads as it did. -/
def protoPlaysUptoRow : OpenClaim := { program := "ytmeomdfmljanhaagreat", sum := "dad9ec0ab5eac0f979e7904355062d761bff9ab36ddb503e84aedc9112b283ab", func := "backstay/backstaylaw10.ProtoPlays", spec := "protoPlays", unfollowed := true, recurses := true, apart := false, narrowed := true }
def ProtoPlaysUptoSaid : Prop := protoPlaysUptoRow.holds Tryz.pinned (OpenSpec.upto protoPlaysSpec)

/-- 'backstaylaw10.ProtoComes', WHERE WHAT IT READS IS OF BULK AT MOST 1048576: true; the input reads as it did. -/
def protoComesUptoRow : OpenClaim := { program := "ytmeomdfmljanhaagreat", sum := "dad9ec0ab5eac0f979e7904355062d761bff9ab36ddb503e84aedc9112b283ab", func := "backstay/backstaylaw10.ProtoComes", spec := "protoComes", unfollowed := true, recurses := true, apart := false, narrowed := true }
def ProtoComesUptoSaid : Prop := protoComesUptoRow.holds Tryz.pinned (OpenSpec.upto protoComesSpec)

/-- 'backstaylaw10.ProtoHome', WHERE WHAT IT READS IS OF BULK AT MOST 1048576: true; the input reads as it did. -/
def protoHomeUptoRow : OpenClaim := { program := "ytmeomdfmljanhaagreat", sum := "dad9ec0ab5eac0f979e7904355062d761bff9ab36ddb503e84aedc9112b283ab", func := "backstay/backstaylaw10.ProtoHome", spec := "protoHome", unfollowed := true, recurses := true, apart := false, narrowed := true }
def ProtoHomeUptoSaid : Prop := protoHomeUptoRow.holds Tryz.pinned (OpenSpec.upto protoHomeSpec)

end Rows
end Go.Proofs.YtmeomdfmljanhaaGreat
