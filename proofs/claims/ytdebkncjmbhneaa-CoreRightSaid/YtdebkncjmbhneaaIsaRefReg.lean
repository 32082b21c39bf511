/- What the reference's reg and goal answer. -/
import Derived.Test.YtdebkncjmbhneaaIsaAll
namespace Go.Proofs.Ytdebkncjmbhneaa
open Go.ChangeShapes Go.WideShapes Go.ChangeAt Go.RowKit

theorem regR_any (r : Int) (v : Bool) (w : World) (hv : regB r true = v) : Calls Try.prog 28 #[.int .i64 r] w fun e w' => e = .returned (.bool v) ∧ w = w' := by
  subst hv
  by_cases h : 0 ≤ r
  · have e : regB r true = decide (r < 8) := by
      unfold regB; rw [if_pos rfl]; rw [Bool.eq_iff_iff]; simp; omega
    rw [e]
    clear e
    have h' : decide (0 ≤ r) = true := decide_eq_true h
    go_enter Try.func28, Try.ntmps28
    go_wp2
    go_ret
    exact ⟨rfl, rfl⟩
  · have e : regB r true = false := by
      unfold regB; rw [if_pos rfl]; exact decide_eq_false (by omega)
    rw [e]
    clear e
    have h' : decide (0 ≤ r) = false := decide_eq_false h
    go_enter Try.func28, Try.ntmps28
    go_wp2
    go_ret
    exact ⟨rfl, rfl⟩

theorem goalR_any (k n : Int) (v : Bool) (w : World) (h0 : 0 ≤ k) (h1 : k ≤ 4294967295) (hv : decide (k < n) = v) : Calls Try.prog 29 #[.int .u32 k, .int .i64 n] w fun e w' => e = .returned (.bool v) ∧ w = w' := by
  subst hv
  by_cases h : 0 < n
  · have h' : decide (0 < n) = true := decide_eq_true h
    go_enter Try.func29, Try.ntmps29
    go_wp2
    go_ret
    exact ⟨rfl, rfl⟩
  · have e : decide (k < n) = false := decide_eq_false (by omega)
    rw [e]
    clear e
    have h' : decide (0 < n) = false := decide_eq_false h
    go_enter Try.func29, Try.ntmps29
    go_wp2
    go_ret
    exact ⟨rfl, rfl⟩

theorem reg_off (r : Int) : regB r false = (r == 0) := by
  unfold regB; rw [if_neg (by decide)]; rw [Bool.eq_iff_iff]; simp
theorem con_off (op k n : Int) : conB op k false n = (k == 0) := by
  unfold conB; rw [if_neg (by decide)]; rw [Bool.eq_iff_iff]; simp
end Go.Proofs.Ytdebkncjmbhneaa
