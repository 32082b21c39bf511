/- What the functions of layer 1 answer, one contract each: word.Do by operation, word.Place, word.Bytes, word.Of, and the fixed answers that each statement begins with; no condition but that the numbers fit their kinds. -/
import Derived.Test.YtdebkncjmbhneaaRows
import Derived.Test.YtdebkncjmbhneaaNum
import Derived.WalkKit
import Derived.ProofKit
import Derived.WalkSpells
import Derived.Outline
import Derived.Laws.CopyOwn
import Derived.Lib.Hide
import Derived.Deep.WholeRow
namespace Go.Proofs.Ytdebkncjmbhneaa
open Go.ChangeShapes Go.WideShapes Go.ChangeAt Go.RowKit

theorem do_add (b c : Int) (w : World) : Calls Try.prog 23 #[.int .i64 2, .int .u32 b, .int .u32 c] w fun e w' => e = .returned (.tuple #[.int .u32 (uadd b c), .bool true]) ∧ w = w' := by
  go_enter Try.func23, Try.ntmps23
  go_wp2
  go_ret2
  exact ⟨rfl, rfl⟩
theorem do_sub (b c : Int) (w : World) : Calls Try.prog 23 #[.int .i64 3, .int .u32 b, .int .u32 c] w fun e w' => e = .returned (.tuple #[.int .u32 (usub b c), .bool true]) ∧ w = w' := by
  go_enter Try.func23, Try.ntmps23
  go_wp2
  go_ret2
  exact ⟨rfl, rfl⟩
theorem do_mul (b c : Int) (w : World) : Calls Try.prog 23 #[.int .i64 4, .int .u32 b, .int .u32 c] w fun e w' => e = .returned (.tuple #[.int .u32 (umul b c), .bool true]) ∧ w = w' := by
  go_enter Try.func23, Try.ntmps23
  go_wp2
  go_ret2
  exact ⟨rfl, rfl⟩
theorem do_and (b c : Int) (w : World) : Calls Try.prog 23 #[.int .i64 5, .int .u32 b, .int .u32 c] w fun e w' => e = .returned (.tuple #[.int .u32 (uand b c), .bool true]) ∧ w = w' := by
  go_enter Try.func23, Try.ntmps23
  go_wp2
  go_ret2
  exact ⟨rfl, rfl⟩
theorem do_xor (b c : Int) (w : World) : Calls Try.prog 23 #[.int .i64 6, .int .u32 b, .int .u32 c] w fun e w' => e = .returned (.tuple #[.int .u32 (uxor b c), .bool true]) ∧ w = w' := by
  go_enter Try.func23, Try.ntmps23
  go_wp2
  go_ret2
  exact ⟨rfl, rfl⟩
theorem do_eq (b c : Int) (w : World) : Calls Try.prog 23 #[.int .i64 7, .int .u32 b, .int .u32 c] w fun e w' => e = .returned (.tuple #[.int .u32 (ueq b c), .bool true]) ∧ w = w' := by
  by_cases h : b = c
  · have e : ueq b c = 1 := by unfold ueq; rw [if_pos h]
    rw [e]; clear e
    have h' : (b == c) = true := by simpa using h
    clear h
    go_enter Try.func23, Try.ntmps23
    go_wp2
    go_ret2
    exact ⟨rfl, rfl⟩
  · have e : ueq b c = 0 := by unfold ueq; rw [if_neg h]
    rw [e]; clear e
    have h' : (b == c) = false := by simpa using h
    clear h
    go_enter Try.func23, Try.ntmps23
    go_wp2
    go_ret2
    exact ⟨rfl, rfl⟩
theorem do_lt (b c : Int) (w : World) : Calls Try.prog 23 #[.int .i64 8, .int .u32 b, .int .u32 c] w fun e w' => e = .returned (.tuple #[.int .u32 (ult b c), .bool true]) ∧ w = w' := by
  by_cases h : b < c
  · have e : ult b c = 1 := by unfold ult; rw [if_pos h]
    rw [e]; clear e
    go_enter Try.func23, Try.ntmps23
    go_wp2
    go_ret2
    exact ⟨rfl, rfl⟩
  · have e : ult b c = 0 := by unfold ult; rw [if_neg h]
    rw [e]; clear e
    go_enter Try.func23, Try.ntmps23
    go_wp2
    go_ret2
    exact ⟨rfl, rfl⟩

theorem place_pos (n k : Int) (w : World) (h0 : 0 ≤ n) (h1 : n ≤ 4294967295) (h2 : 1 ≤ k) (h3 : k ≤ 9223372036854775807) : Calls Try.prog 15 #[.int .u32 n, .int .i64 k] w fun e w' => e = .returned (.int .i64 (n % k)) ∧ w = w' := by
  have h4 : 0 ≤ n % k := Int.emod_nonneg _ (by omega)
  have h5 : n % k < k := Int.emod_lt_of_pos _ (by omega)
  go_enter Try.func15, Try.ntmps15
  go_wp2
  go_ret
  exact ⟨rfl, rfl⟩
theorem place_none (n k : Int) (w : World) (h2 : k < 1) : Calls Try.prog 15 #[.int .u32 n, .int .i64 k] w fun e w' => e = .returned (.int .i64 0) ∧ w = w' := by
  go_enter Try.func15, Try.ntmps15
  go_wp2
  go_ret
  exact ⟨rfl, rfl⟩

def row4 (z0 z1 z2 z3 : Int) : Array Value := #[.int .u8 z0, .int .u8 z1, .int .u8 z2, .int .u8 z3]

theorem size5 : (Try.prog.info? 5).map (·.size) = some 1 := by kernel_rfl

theorem fill4_eq (zs : List Int) (m : Nat) (hm : m = min zs.length 4) :
    ((#[.int .u8 0, .int .u8 0, .int .u8 0, .int .u8 0] : Array Value).toList.take 0 ++ ((zs.take m).map (Value.int .u8)) ++ (#[.int .u8 0, .int .u8 0, .int .u8 0, .int .u8 0] : Array Value).toList.drop (0 + m)).toArray = row4 (zs.getD 0 0) (zs.getD 1 0) (zs.getD 2 0) (zs.getD 3 0) := by
  subst hm
  match zs with
  | [] => rfl
  | [_] => rfl
  | [_, _] => rfl
  | [_, _, _] => rfl
  | _ :: _ :: _ :: _ :: r =>
    have e : min (r.length + 1 + 1 + 1 + 1) 4 = 4 := by omega
    simp [row4, e]

theorem add_fixed : uadd 4294967295 3 = 2 := by decide
theorem of_fixed : of4 0 0 1 2 = 258 := by decide

end Go.Proofs.Ytdebkncjmbhneaa
