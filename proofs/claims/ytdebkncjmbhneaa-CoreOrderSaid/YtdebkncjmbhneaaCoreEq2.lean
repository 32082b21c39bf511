/- How Go says that two cores aren't the same; no condition. -/
import Derived.Test.YtdebkncjmbhneaaCoreEq
namespace Go.Proofs.Ytdebkncjmbhneaa
set_option linter.unusedVariables false
open Go.ChangeShapes Go.WideShapes Go.ChangeAt Go.RowKit

theorem neq_core (w : World) (c d : Cor) : (binOp .neq 26 (.agg c.row) (.agg d.row)).run Try.prog w = .ok (.bool (!eqC c d)) w := by
  have h := eq_core w c d
  rw [run_eql_struct] at h
  rw [run_neq_struct]
  generalize (Op.equalIn 10000 26 (Value.agg c.row) (Value.agg d.row)).run Try.prog w = r at h ⊢
  cases r with
  | ok b w' =>
    simp only [Result.andThen_ok, Result.ok.injEq, Value.bool.injEq] at h ⊢
    exact ⟨by rw [h.1], h.2⟩
  | halt x w' => simp [Result.andThen] at h
end Go.Proofs.Ytdebkncjmbhneaa
