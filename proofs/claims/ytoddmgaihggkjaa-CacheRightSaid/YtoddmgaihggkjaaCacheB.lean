/- What the program says of numbers of sets, of a state, of a line: contracts; no condition. -/
import Derived.Test.YtoddmgaihggkjaaCacheA
namespace Go.Proofs.Ytoddmgaihggkjaa
set_option linter.unusedVariables false
open Go.ChangeShapes Go.WideShapes Go.ChangeAt Go.RowKit

theorem mayS_eq (n m : Int) : mayS n m = (decide (1 ≤ n) && (decide (n ≤ 8) && (decide (1 ≤ m) && decide (m ≤ 8)))) := by
  unfold mayS
  rw [Bool.eq_iff_iff]
  simp only [Bool.and_eq_true, decide_eq_true_eq]
set_option maxHeartbeats 1000000 in
theorem mayBe_any (n m : Int) (w : World) : Calls Try.prog 37 #[.int .i64 n, .int .i64 m] w fun e w' => e = .returned (.bool (mayS n m)) ∧ w = w' := by
  have HM := Lib.hid (mayS_eq n m)
  obtain ⟨r, hr⟩ : ∃ r, r = mayS n m := ⟨_, rfl⟩
  rw [← hr] at HM ⊢
  clear hr
  obtain ⟨b1, d1⟩ : ∃ b, decide (1 ≤ n) = b := ⟨_, rfl⟩
  obtain ⟨b2, d2⟩ : ∃ b, decide (n ≤ 8) = b := ⟨_, rfl⟩
  obtain ⟨b3, d3⟩ : ∃ b, decide (1 ≤ m) = b := ⟨_, rfl⟩
  obtain ⟨b4, d4⟩ : ∃ b, decide (m ≤ 8) = b := ⟨_, rfl⟩
  cases b1 <;> cases b2 <;> cases b3 <;> cases b4
  all_goals
    go_enter Try.func37, Try.ntmps37
    go_wp2_with fail
    go_ret
    exact ⟨by rw [HM.out, d1, d2, d3, d4]; rfl, rfl⟩

def stB (s : Int) : Bool := decide (1 ≤ s) && decide (s ≤ 4)
theorem stB_iff {s : Int} : stB s = true ↔ 1 ≤ s ∧ s ≤ 4 := by unfold stB; rw [Bool.and_eq_true, decide_eq_true_eq, decide_eq_true_eq]
set_option maxHeartbeats 1000000 in
theorem isState_any (s : Int) (r : Bool) (w : World) (h : stB s = r) : Calls Try.prog 35 #[.int .i64 s] w fun e w' => e = .returned (.bool r) ∧ w = w' := by
  unfold stB at h
  obtain ⟨b1, d1⟩ : ∃ b, decide (1 ≤ s) = b := ⟨_, rfl⟩
  obtain ⟨b2, d2⟩ : ∃ b, decide (s ≤ 4) = b := ⟨_, rfl⟩
  rw [d1, d2] at h
  have HM := Lib.hid h
  clear h
  cases b1 <;> cases b2
  all_goals
    go_enter Try.func35, Try.ntmps35
    go_wp2_with fail
    go_ret
    exact ⟨by rw [← HM.out]; rfl, rfl⟩

def lnB (k : Int) (a s u : Int) : Bool := decide (0 ≤ a) && (stB s && (decide (1 ≤ u) && decide (u ≤ k)))
set_option maxHeartbeats 2000000 in
theorem rightLine_any (a s u k v : Int) (r : Bool) (w : World) (h : lnB k a s u = r) : Calls Try.prog 50 #[.agg #[.int .i64 a, .int .i64 s, .int .u32 v, .int .i64 u], .int .i64 k] w fun e w' => e = .returned (.bool r) ∧ Below w.heap.size w w' := by
  unfold lnB at h
  obtain ⟨b1, d1⟩ : ∃ b, decide (0 ≤ a) = b := ⟨_, rfl⟩
  obtain ⟨b2, d2⟩ : ∃ b, stB s = b := ⟨_, rfl⟩
  obtain ⟨b3, d3⟩ : ∃ b, decide (1 ≤ u) = b := ⟨_, rfl⟩
  obtain ⟨b4, d4⟩ : ∃ b, decide (u ≤ k) = b := ⟨_, rfl⟩
  rw [d1, d2, d3, d4] at h
  have HM := Lib.hid h
  have HS := Lib.hid d2
  clear h d2
  cases b1 <;> cases b2 <;> cases b3 <;> cases b4
  all_goals
    go_enter Try.func50, Try.ntmps50
    go_wp2_with (go_at_call 35; refine (isState_any s _ _ HS.out).mono ?_; rintro e w' ⟨rfl, rfl⟩)
    go_ret
    exact ⟨by rw [← HM.out]; rfl, (Below.refl _ _).alloc (Nat.le_refl _) _⟩

/-- The function value that place hands over: is it this address? -/
theorem same_addr (a : Int) (B : Nat) (W : World) (x : Ln) (hB : W.cell? ⟨B, 0, none⟩ = some (.int .i64 a)) (hlt : B < W.heap.size) : Calls Try.prog 52 #[.agg #[.int .i64 x.addr, .int .i64 x.state, .int .u32 x.val, .int .i64 x.used], .pointer (some ⟨B, 0, none⟩)] W fun e w' => e = .returned (.bool (decide (x.addr = a))) ∧ Below W.heap.size W w' := by
  have hne : B ≠ W.heap.size := by omega
  obtain ⟨xa, xs, xv, xu⟩ := x
  have HE : Hid ((xa == a) = decide (xa = a)) := Lib.hid rfl
  go_enter Try.func52, Try.ntmps52
  go_wp2_with fail
  go_ret
  exact ⟨by first | rfl | simp, (Below.refl _ _).alloc (Nat.le_refl _) _⟩
end Go.Proofs.Ytoddmgaihggkjaa
