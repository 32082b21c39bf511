/- What isa.used and isa.Uses answer, for every operation's number; no condition. -/
import Derived.Test.YtdebkncjmbhneaaRows
import Derived.Test.YtdebkncjmbhneaaIsaNum
import Derived.WalkKit
import Derived.ProofKit
import Derived.WalkSpells
import Derived.Outline
import Derived.Lib.Hide
import Derived.Deep.WholeRow
namespace Go.Proofs.Ytdebkncjmbhneaa
open Go.ChangeShapes Go.WideShapes Go.ChangeAt Go.RowKit

theorem neq_out {op : Int} (h : op < 1 ∨ 16 < op) (k : Int) (h1 : 1 ≤ k) (h2 : k ≤ 16) : (op == k) = false := by simp; omega

theorem used_any (op : Int) (w : World) : Calls Try.prog 25 #[.int .i64 op] w fun e w' => e = .returned (.tuple #[.int .i64 (usum op), .bool (isOp op)]) ∧ w = w' := by
  rcases op_cases op with rfl | rfl | rfl | rfl | rfl | rfl | rfl | rfl | rfl | rfl | rfl | rfl | rfl | rfl | rfl | rfl | h
  case inr.inr.inr.inr.inr.inr.inr.inr.inr.inr.inr.inr.inr.inr.inr.inr =>
    rw [isOp_out h, usum_out h]
    have e1 := neq_out h 1 (by omega) (by omega)
    have e2 := neq_out h 2 (by omega) (by omega)
    have e3 := neq_out h 3 (by omega) (by omega)
    have e4 := neq_out h 4 (by omega) (by omega)
    have e5 := neq_out h 5 (by omega) (by omega)
    have e6 := neq_out h 6 (by omega) (by omega)
    have e7 := neq_out h 7 (by omega) (by omega)
    have e8 := neq_out h 8 (by omega) (by omega)
    have e9 := neq_out h 9 (by omega) (by omega)
    have e10 := neq_out h 10 (by omega) (by omega)
    have e11 := neq_out h 11 (by omega) (by omega)
    have e12 := neq_out h 12 (by omega) (by omega)
    have e13 := neq_out h 13 (by omega) (by omega)
    have e14 := neq_out h 14 (by omega) (by omega)
    have e15 := neq_out h 15 (by omega) (by omega)
    have e16 := neq_out h 16 (by omega) (by omega)
    clear h
    go_enter Try.func25, Try.ntmps25
    go_wp2
    go_ret2
    exact ⟨rfl, rfl⟩
  all_goals
    go_enter Try.func25, Try.ntmps25
    go_wp2
    go_ret2
    exact ⟨rfl, rfl⟩
end Go.Proofs.Ytdebkncjmbhneaa
