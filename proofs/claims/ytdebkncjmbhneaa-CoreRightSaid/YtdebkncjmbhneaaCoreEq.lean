/- How Go holds two cores against each other: number by number; no condition. -/
import Derived.Test.YtdebkncjmbhneaaCoreA
import Derived.DeepKeys
namespace Go.Proofs.Ytdebkncjmbhneaa
set_option linter.unusedVariables false
open Go.ChangeShapes Go.WideShapes Go.ChangeAt Go.RowKit
theorem cells_u32 : Try.prog.cellsOf 23 = 1 := by kernel_rfl

/-- The tests one behind the other, as Go holds arrays and structs against each other. -/
def eqC (c d : Cor) : Bool := (c.r 0 == d.r 0) && (c.r 1 == d.r 1) && (c.r 2 == d.r 2) && (c.r 3 == d.r 3) && (c.r 4 == d.r 4) && (c.r 5 == d.r 5) && (c.r 6 == d.r 6) && (c.r 7 == d.r 7) && (c.pc == d.pc) && (c.h == d.h)

theorem eq_step (w : World) (d : Nat) (xs ys : Array Value) (i : Nat) (is : List Nat) (a b : Int) (hx : xs[i]? = some (.int .u32 a)) (hy : ys[i]? = some (.int .u32 b)) (r : Bool) (h : (Op.eqItems (d + 1) 23 1 xs ys is).run Try.prog w = .ok r w) :
    (Op.eqItems (d + 1) 23 1 xs ys (i :: is)).run Try.prog w = .ok (a == b && r) w := by
  have p1 : ∀ (zs : Array Value) (v : Int), zs[i]? = some (.int .u32 v) → (part 23 zs (i * 1)).run Try.prog w = .ok (.int .u32 v) w := fun zs v hz => by
    simp [part, go_sem, hz]
  simp only [Op.eqItems, Sem.run_bind, p1 xs a hx, p1 ys b hy, Result.andThen_ok, run_equalIn_int w d 23 .u32 .u32 a b Try.underlying23]
  cases hab : (a == b) with
  | true => simpa using h
  | false => simp

theorem eq_regs (w : World) (d : Nat) (a0 a1 a2 a3 a4 a5 a6 a7 b0 b1 b2 b3 b4 b5 b6 b7 : Int) :
   (Op.equalIn (d + 2) 24 (.agg #[.int .u32 a0, .int .u32 a1, .int .u32 a2, .int .u32 a3, .int .u32 a4, .int .u32 a5, .int .u32 a6, .int .u32 a7]) (.agg #[.int .u32 b0, .int .u32 b1, .int .u32 b2, .int .u32 b3, .int .u32 b4, .int .u32 b5, .int .u32 b6, .int .u32 b7])).run Try.prog w = .ok (a0 == b0 && (a1 == b1 && (a2 == b2 && (a3 == b3 && (a4 == b4 && (a5 == b5 && (a6 == b6 && (a7 == b7 && true)))))))) w := by
  obtain ⟨i, hi⟩ := info_of_underlying Try.underlying23
  rw [run_equalIn_array w (d + 1) _ _ Try.underlying24 hi, cells_u32]
  show (Op.eqItems (d + 1) 23 1 _ _ [0, 1, 2, 3, 4, 5, 6, 7]).run Try.prog w = _
  exact eq_step w d _ _ 0 _ a0 b0 rfl rfl _ (eq_step w d _ _ 1 _ a1 b1 rfl rfl _ (eq_step w d _ _ 2 _ a2 b2 rfl rfl _ (eq_step w d _ _ 3 _ a3 b3 rfl rfl _ (eq_step w d _ _ 4 _ a4 b4 rfl rfl _ (eq_step w d _ _ 5 _ a5 b5 rfl rfl _ (eq_step w d _ _ 6 _ a6 b6 rfl rfl _ (eq_step w d _ _ 7 _ a7 b7 rfl rfl _ (by simp [Op.eqItems]))))))))

theorem eq_core (w : World) (c d : Cor) : (binOp .eql 26 (.agg c.row) (.agg d.row)).run Try.prog w = .ok (.bool (eqC c d)) w := by
  have e1 : ∀ c : Cor, (part 24 c.row 0).run Try.prog w = .ok (.agg #[.int .u32 (c.r 0), .int .u32 (c.r 1), .int .u32 (c.r 2), .int .u32 (c.r 3), .int .u32 (c.r 4), .int .u32 (c.r 5), .int .u32 (c.r 6), .int .u32 (c.r 7)]) w := fun c => by
    simp [part, go_sem, Cor.row]
  have e2 : ∀ c : Cor, (part 3 c.row 8).run Try.prog w = .ok (.int .i64 c.pc) w := fun c => by
    simp [part, go_sem, Cor.row]
  have e3 : ∀ c : Cor, (part 4 c.row 9).run Try.prog w = .ok (.bool c.h) w := fun c => by
    simp [part, go_sem, Cor.row]
  rw [run_eql_struct, show (10000 : Nat) = 9999 + 1 from rfl, run_equalIn_agg w 9999 26 _ _ (by simp [Program.fieldsOf, Try.underlying26]) Try.stoodInHeld26]
  have n1 : ("Regs" ≠ "_") = True := by simp
  have n2 : ("PC" ≠ "_") = True := by simp
  have n3 : ("Halted" ≠ "_") = True := by simp
  have q1 := eq_regs w 9997 (c.r 0) (c.r 1) (c.r 2) (c.r 3) (c.r 4) (c.r 5) (c.r 6) (c.r 7) (d.r 0) (d.r 1) (d.r 2) (d.r 3) (d.r 4) (d.r 5) (d.r 6) (d.r 7)
  have q2 := run_equalIn_int w 9998 3 .i64 .i64 c.pc d.pc Try.underlying3
  have q3 := run_equalIn_bool' w 9998 4 c.h d.h Try.underlying4
  have e : eqC c d = ((c.r 0 == d.r 0 && (c.r 1 == d.r 1 && (c.r 2 == d.r 2 && (c.r 3 == d.r 3 && (c.r 4 == d.r 4 && (c.r 5 == d.r 5 && (c.r 6 == d.r 6 && (c.r 7 == d.r 7 && true)))))))) && ((c.pc == d.pc) && (c.h == d.h))) := by
    unfold eqC; simp only [Bool.and_assoc, Bool.true_and]
  rw [e]
  revert q1 q2 q3
  generalize (c.r 0 == d.r 0 && (c.r 1 == d.r 1 && (c.r 2 == d.r 2 && (c.r 3 == d.r 3 && (c.r 4 == d.r 4 && (c.r 5 == d.r 5 && (c.r 6 == d.r 6 && (c.r 7 == d.r 7 && true)))))))) = b1
  generalize (c.pc == d.pc) = b2
  generalize (c.h == d.h) = b3
  intro q1 q2 q3
  simp only [Program.fieldsOf, Try.underlying26, Op.eqFields, n1, n2, n3, if_true, Sem.run_bind, e1, e2, e3, Result.andThen_ok, q1, q2, q3, Sem.run_ite]
  cases b1 <;> cases b2 <;> cases b3 <;> simp
theorem eqC_refl (c : Cor) : eqC c c = true := by unfold eqC; simp
theorem eqC_false {c d : Cor} (i : Nat) (hi : i < 8) (h : c.r i ≠ d.r i) : eqC c d = false := by
  unfold eqC
  match i, hi with
  | 0, _ | 1, _ | 2, _ | 3, _ | 4, _ | 5, _ | 6, _ | 7, _ => simp [h]
end Go.Proofs.Ytdebkncjmbhneaa
