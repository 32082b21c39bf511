/- What the document's own answers of layer 1 (backstayref01) are, one contract each: bits, Do by operation, Bytes, Of; and word.Do for whatever operation; no condition but that the numbers fit their kinds. -/
import Derived.Test.YtpmheaeiemnjeaaBase
import Derived.Test.YtpmheaeiemnjeaaRefNum
import Derived.BigGuardPart
namespace Go.Proofs.Ytpmheaeiemnjeaa
set_option linter.unusedVariables false
open Go.ChangeShapes Go.WideShapes Go.ChangeAt Go.RowKit

theorem ret_int {k : IntKind} {a b : Int} (h : a = b) : Ending.returned (.int k a) = .returned (.int k b) := by rw [h]

theorem bool_of {n : Nat} (h : n % 2 = 1) : ((n : Int) % 2 == 1) = true := by simp; omega
theorem bool_no {n : Nat} (h : ¬ n % 2 = 1) : ((n : Int) % 2 == 1) = false := by simp; omega

theorem val_half (B b k : Nat) (h : B / 2 = b / 2 ^ (k + 1)) : Value.int .u32 ((B : Int) / 2) = .int .u32 (b / 2 ^ (k + 1) : Nat) := by
  rw [← h]; congr 1
theorem val_eq {x y : Int} (h : x = y) : Value.int .u32 x = .int .u32 y := by rw [h]

end Go.Proofs.Ytpmheaeiemnjeaa
