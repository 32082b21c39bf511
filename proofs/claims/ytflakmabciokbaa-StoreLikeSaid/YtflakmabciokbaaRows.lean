/-
  No cell of these rows narrows 'for every input' (looked for: loops, veiled, ifaces, maps, wideKeys, modest, calm, conditions, laid).
  DERIVED. THE GIVEN ROWS OF THIS SEAT. 3 by the template 'for every input the law returns true; each argument reads behind the call as it read before'; 0 by the template 'total and deterministic' (their statements: YtflakmabciokbaaTotals.lean).
  GIVEN WITH THE SEED: the statements are not yours to turn. If you find one false, say at which input.
  Laid BY PROGRAM, IN A SANDBOX (cutbox-rows.mjs): the forced cells as the released guide's own fill.sh prints them over the translation efc2ec0d714508e4… (all of the seat's roots in one cut). By AI agents, Wed Nov 11 2026. No macro, syntax, notation, axiom, sorry.
-/
import Derived.Test.YtflakmabciokbaaChecked
import GoSem.Claim
import GoSem.ClaimJoined
import GoSem.ClaimMapViews
import Derived.JoinedTies
import Derived.KernelRfl
namespace Go.Proofs.Ytflakmabciokbaa
/- THE CELL 'sum', in the pinned program and in every row, IS THE sha256 OF THE DUMP (.gsa) THAT YtflakmabciokbaaProg.lean LOADS. Nothing in Lean hashes anything: it is a label: what it is worth is what the hold of that sum in a sandbox is worth. -/
noncomputable def Try.pinned : Pinned := { name := "ytflakmabciokbaa", sum := "efc2ec0d714508e4864c6f712b6c71e3dc371b53053ae9b0b4c25227bd139188", checked := Try.checked }
namespace Rows
def none {H : Type} : Left H := { results := [], args := [] }

/-- 'backstaylaw14.StoreRight': WHATEVER THE INPUT: true; the input reads as it did. -/
def storeRightSpec : ChangeSpec := { name := "storeRight", fn := fun _ => fun
  | [d1, d2, d3, d4, d5, d6, d7] => { results := [.lit (.bool true)], args := [d1, d2, d3, d4, d5, d6, d7] }
  | _ => none }
def storeRightRow : OpenClaim := { program := "ytflakmabciokbaa", sum := "efc2ec0d714508e4864c6f712b6c71e3dc371b53053ae9b0b4c25227bd139188", func := "backstay/backstaylaw14.StoreRight", spec := "storeRight", unfollowed := true, recurses := true, plainKeys := false, apart := false }
def StoreRightSaid : Prop := storeRightRow.holds Try.pinned (OpenSpec.ofChange storeRightSpec)

/-- ITS FALSE NEIGHBOUR: 'it returns false'. Refute it at one input. -/
def storeRightWrong : ChangeSpec := { name := "storeRight", fn := fun _ => fun
  | [d1, d2, d3, d4, d5, d6, d7] => { results := [.lit (.bool false)], args := [d1, d2, d3, d4, d5, d6, d7] }
  | _ => none }
def StoreRightWrongFalsely : Prop := storeRightRow.holds Try.pinned (OpenSpec.ofChange storeRightWrong)

/-- 'backstaylaw14.StoreSurvives': WHATEVER THE INPUT: true; the input reads as it did. -/
def storeSurvivesSpec : ChangeSpec := { name := "storeSurvives", fn := fun _ => fun
  | [d1, d2, d3] => { results := [.lit (.bool true)], args := [d1, d2, d3] }
  | _ => none }
def storeSurvivesRow : OpenClaim := { program := "ytflakmabciokbaa", sum := "efc2ec0d714508e4864c6f712b6c71e3dc371b53053ae9b0b4c25227bd139188", func := "backstay/backstaylaw14.StoreSurvives", spec := "storeSurvives", unfollowed := true, recurses := true, plainKeys := false, apart := false }
def StoreSurvivesSaid : Prop := storeSurvivesRow.holds Try.pinned (OpenSpec.ofChange storeSurvivesSpec)

/-- ITS FALSE NEIGHBOUR: 'it returns false'. Refute it at one input. -/
def storeSurvivesWrong : ChangeSpec := { name := "storeSurvives", fn := fun _ => fun
  | [d1, d2, d3] => { results := [.lit (.bool false)], args := [d1, d2, d3] }
  | _ => none }
def StoreSurvivesWrongFalsely : Prop := storeSurvivesRow.holds Try.pinned (OpenSpec.ofChange storeSurvivesWrong)

/-- 'backstaylaw14.StoreLike': WHATEVER THE INPUT: true; the input reads as it did. -/
def storeLikeSpec : ChangeSpec := { name := "storeLike", fn := fun _ => fun
  | [d1, d2, d3] => { results := [.lit (.bool true)], args := [d1, d2, d3] }
  | _ => none }
def storeLikeRow : OpenClaim := { program := "ytflakmabciokbaa", sum := "efc2ec0d714508e4864c6f712b6c71e3dc371b53053ae9b0b4c25227bd139188", func := "backstay/backstaylaw14.StoreLike", spec := "storeLike", unfollowed := true, recurses := true, plainKeys := false, apart := false }
def StoreLikeSaid : Prop := storeLikeRow.holds Try.pinned (OpenSpec.ofChange storeLikeSpec)

/-- ITS FALSE NEIGHBOUR: 'it returns false'. Refute it at one input. -/
def storeLikeWrong : ChangeSpec := { name := "storeLike", fn := fun _ => fun
  | [d1, d2, d3] => { results := [.lit (.bool false)], args := [d1, d2, d3] }
  | _ => none }
def StoreLikeWrongFalsely : Prop := storeLikeRow.holds Try.pinned (OpenSpec.ofChange storeLikeWrong)

/- THE SECOND FORM. 'bulk': how many values and letters a reading holds, each counted each time it is reached (what is shared counts as often as it is met; a slice's spare places count too). A statement '..UptoSaid' is the law's where the arguments, and the package variables that the reading takes, are together of bulk at most 1048576: NARROWER than '..Said'. Prove '..Said' where nothing that the law and all that it calls make is longer than what came in: it says more and counts as full. Else prove '..UptoSaid'. A law counts once. -/
mutual
def uptoBulk {H : Type} : DataW H → Nat
  | .lit (.string bytes) => bytes.length + 1
  | .lit _ => 1
  | .nil => 1
  | .ptr d => uptoBulk d + 1
  | .slice elems spare => uptoBulkAll elems + uptoBulkAll spare + 1
  | .agg parts => uptoBulkAll parts + 1
  | .iface _ d => uptoBulk d + 1
  | .map entries => uptoBulkEntries entries + 1
  | .held _ => 1
def uptoBulkAll {H : Type} : List (DataW H) → Nat
  | [] => 0
  | d :: r => uptoBulk d + uptoBulkAll r
def uptoBulkEntries {H : Type} : List (Lit × DataW H) → Nat
  | [] => 0
  | x :: r => uptoBulkEntry x + uptoBulkEntries r
def uptoBulkEntry {H : Type} : Lit × DataW H → Nat
  | (.string bytes, d) => bytes.length + uptoBulk d + 1
  | (_, d) => uptoBulk d + 1
 end
def uptoSmall : (H : Type) → List (DataW H) → Bool := fun _ ds => decide (uptoBulkAll ds ≤ 1048576)
def OpenSpec.upto (s : _root_.Go.ChangeSpec) : _root_.Go.OpenSpec := { _root_.Go.OpenSpec.ofChange s with cond := some uptoSmall }

/-- 'backstaylaw14.StoreRight', WHERE WHAT IT READS IS OF BULK AT MOST 1048576: true; the input reads as it did. -/
def storeRightUptoRow : OpenClaim := { program := "ytflakmabciokbaa", sum := "efc2ec0d714508e4864c6f712b6c71e3dc371b53053ae9b0b4c25227bd139188", func := "backstay/backstaylaw14.StoreRight", spec := "storeRight", unfollowed := true, recurses := true, plainKeys := false, apart := false, narrowed := true }
def StoreRightUptoSaid : Prop := storeRightUptoRow.holds Try.pinned (OpenSpec.upto storeRightSpec)

/-- 'backstaylaw14.StoreSurvives', WHERE WHAT IT READS IS OF BULK AT MOST 1048576: true; the input reads as it did. -/
def storeSurvivesUptoRow : OpenClaim := { program := "ytflakmabciokbaa", sum := "efc2ec0d714508e4864c6f712b6c71e3dc371b53053ae9b0b4c25227bd139188", func := "backstay/backstaylaw14.StoreSurvives", spec := "storeSurvives", unfollowed := true, recurses := true, plainKeys := false, apart := false, narrowed := true }
def StoreSurvivesUptoSaid : Prop := storeSurvivesUptoRow.holds Try.pinned (OpenSpec.upto storeSurvivesSpec)

/-- 'backstaylaw14.StoreLike', WHERE WHAT IT READS IS OF BULK AT MOST 1048576: true; the input reads as it did. -/
def storeLikeUptoRow : OpenClaim := { program := "ytflakmabciokbaa", sum := "efc2ec0d714508e4864c6f712b6c71e3dc371b53053ae9b0b4c25227bd139188", func := "backstay/backstaylaw14.StoreLike", spec := "storeLike", unfollowed := true, recurses := true, plainKeys := false, apart := false, narrowed := true }
def StoreLikeUptoSaid : Prop := storeLikeUptoRow.holds Try.pinned (OpenSpec.upto storeLikeSpec)

end Rows
end Go.Proofs.Ytflakmabciokbaa
