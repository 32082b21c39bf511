/- What core.next and core.made answer, for every core and instruction whose registers are there; they write nothing that was there. -/
import Derived.Test.YtdebkncjmbhneaaCoreA
import Derived.BigQuiet
import Derived.Deep.QuietTactic
namespace Go.Proofs.Ytdebkncjmbhneaa
set_option linter.unusedVariables false
open Go.ChangeShapes Go.WideShapes Go.ChangeAt Go.RowKit

theorem Cor.row_at (c : Cor) (n : Nat) (h : n < 8) : c.row[n]? = some (.int .u32 (c.r n)) := by
  match n, h with
  | 0, _ => rfl
  | 1, _ => rfl
  | 2, _ => rfl
  | 3, _ => rfl
  | 4, _ => rfl
  | 5, _ => rfl
  | 6, _ => rfl
  | 7, _ => rfl

/-- A register of a core that was just laid. -/
theorem cell_box2 (w : World) (o : Obj) (c : Cor) (t : TypeId) (n : Nat) (h : n < 8) : ((w.alloc o).alloc (.cells c.row t)).cell? ⟨w.heap.size + 1, n, none⟩ = some (.int .u32 (c.r n)) := by
  have e : (w.alloc o).heap.size = w.heap.size + 1 := World.size_alloc w o
  have := World.cell?_alloc_new (w.alloc o) c.row t n
  rw [e, c.row_at n h] at this
  exact this

theorem below_drewN {B : Nat} {a w : World} (h : Below B a w) (n : Nat) : Below B a (w.drewN n) := ⟨h.os, h.tape, h.output, h.size, h.block⟩

theorem next_zero (a : Nat) (b cc k : Int) (r0 r1 r2 r3 r4 r5 r6 r7 pc : Int) (h : Bool) (ra : Int) (z : Bool) (w : World) (ha : a < 8) (hz : (ra == 0) = z) (hk0 : 0 ≤ k) (hk1 : k ≤ 4294967295) (hpc : 0 ≤ pc) (hpc1 : pc ≤ 64)
    (hca : ((w.alloc (.cells #[.int .i64 14, .int .i64 a, .int .i64 b, .int .i64 cc, .int .u32 k] 38)).alloc (.cells #[.int .u32 r0, .int .u32 r1, .int .u32 r2, .int .u32 r3, .int .u32 r4, .int .u32 r5, .int .u32 r6, .int .u32 r7, .int .i64 pc, .bool h] 26)).cell? ⟨w.heap.size + 1, a, none⟩ = some (.int .u32 ra)) :
    Calls Try.prog 17 #[.agg #[.int .i64 14, .int .i64 a, .int .i64 b, .int .i64 cc, .int .u32 k], .agg #[.int .u32 r0, .int .u32 r1, .int .u32 r2, .int .u32 r3, .int .u32 r4, .int .u32 r5, .int .u32 r6, .int .u32 r7, .int .i64 pc, .bool h]] w fun e w' => e = .returned (.int .i64 (if z then k else pc + 1)) ∧ Below w.heap.size w w' := by
  have hw : wrap64 k = k := by unfold wrap64; omega
  cases z with
  | true =>
    go_enter Try.func17, Try.ntmps17
    go_wp2
    go_ret
    exact ⟨rfl, ((Below.refl _ _).alloc (Nat.le_refl _) _).alloc (by simp) _⟩
  | false =>
    go_enter Try.func17, Try.ntmps17
    go_wp2
    go_ret
    exact ⟨rfl, ((Below.refl _ _).alloc (Nat.le_refl _) _).alloc (by simp) _⟩

theorem next_other (op a b cc k : Int) (r0 r1 r2 r3 r4 r5 r6 r7 pc : Int) (h : Bool) (j : Bool) (w : World) (h13 : (op == 13) = j) (h14 : (op == 14) = false) (hk0 : 0 ≤ k) (hk1 : k ≤ 4294967295) (hpc : 0 ≤ pc) (hpc1 : pc ≤ 64) :
    Calls Try.prog 17 #[.agg #[.int .i64 op, .int .i64 a, .int .i64 b, .int .i64 cc, .int .u32 k], .agg #[.int .u32 r0, .int .u32 r1, .int .u32 r2, .int .u32 r3, .int .u32 r4, .int .u32 r5, .int .u32 r6, .int .u32 r7, .int .i64 pc, .bool h]] w fun e w' => e = .returned (.int .i64 (if j then k else pc + 1)) ∧ Below w.heap.size w w' := by
  have hw : wrap64 k = k := by unfold wrap64; omega
  cases j with
  | true =>
    go_enter Try.func17, Try.ntmps17
    go_wp2
    go_ret
    exact ⟨rfl, ((Below.refl _ _).alloc (Nat.le_refl _) _).alloc (by simp) _⟩
  | false =>
    go_enter Try.func17, Try.ntmps17
    go_wp2
    go_ret
    exact ⟨rfl, ((Below.refl _ _).alloc (Nat.le_refl _) _).alloc (by simp) _⟩

theorem next_any (x : I5) (c : Cor) (w : World) (ha0 : 0 ≤ x.a) (ha1 : x.a < 8) (hk0 : 0 ≤ x.k) (hk1 : x.k ≤ 4294967295) (hpc : 0 ≤ c.pc) (hpc1 : c.pc ≤ 64) :
    Calls Try.prog 17 #[.agg x.row, .agg c.row] w fun e w' => e = .returned (.int .i64 (nextX x c)) ∧ Below w.heap.size w w' := by
  by_cases h14 : x.op = 14
  · obtain ⟨op, a, b, cc, k⟩ := x
    simp only at h14 ha0 ha1 hk0 hk1
    subst h14
    obtain ⟨n, rfl⟩ := Int.eq_ofNat_of_zero_le ha0
    have e : nextX ⟨14, n, b, cc, k⟩ c = if (c.r n == 0) then k else c.pc + 1 := by
      unfold nextX
      by_cases hz : c.r n = 0
      · rw [if_pos (Or.inr ⟨rfl, hz⟩), if_pos (by simpa using hz)]
      · rw [if_neg (by simp; exact hz), if_neg (by simpa using hz)]
    rw [e]
    exact next_zero n b cc k _ _ _ _ _ _ _ _ _ _ (c.r n) _ w (by omega) rfl hk0 hk1 hpc hpc1 (cell_box2 w _ c 26 n (by omega))
  · have e : nextX x c = if (x.op == 13) then x.k else c.pc + 1 := by
      unfold nextX
      by_cases hz : x.op = 13
      · rw [if_pos (Or.inl hz), if_pos (by simpa using hz)]
      · rw [if_neg (by omega), if_neg (by simpa using hz)]
    rw [e]
    exact next_other _ _ _ _ _ _ _ _ _ _ _ _ _ _ _ _ w rfl (by simpa using h14) hk0 hk1 hpc hpc1

theorem made_set (a b cc k : Int) (r0 r1 r2 r3 r4 r5 r6 r7 pc : Int) (h : Bool) (was : Int) (w : World) :
    Calls Try.prog 18 #[.agg #[.int .i64 1, .int .i64 a, .int .i64 b, .int .i64 cc, .int .u32 k], .agg #[.int .u32 r0, .int .u32 r1, .int .u32 r2, .int .u32 r3, .int .u32 r4, .int .u32 r5, .int .u32 r6, .int .u32 r7, .int .i64 pc, .bool h], .int .u32 was] w fun e w' => e = .returned (.tuple #[.int .u32 k, .bool true]) ∧ Below w.heap.size w w' := by
  go_enter Try.func18, Try.ntmps18
  go_wp2
  go_ret2
  exact ⟨rfl, ((Below.refl _ _).alloc (Nat.le_refl _) _).alloc (by simp) _⟩

theorem made_read (op a b cc k : Int) (r0 r1 r2 r3 r4 r5 r6 r7 pc : Int) (h : Bool) (was : Int) (w : World) (ho : op = 9 ∨ op = 11) :
    Calls Try.prog 18 #[.agg #[.int .i64 op, .int .i64 a, .int .i64 b, .int .i64 cc, .int .u32 k], .agg #[.int .u32 r0, .int .u32 r1, .int .u32 r2, .int .u32 r3, .int .u32 r4, .int .u32 r5, .int .u32 r6, .int .u32 r7, .int .i64 pc, .bool h], .int .u32 was] w fun e w' => e = .returned (.tuple #[.int .u32 was, .bool true]) ∧ Below w.heap.size w w' := by
  rcases ho with rfl | rfl
  all_goals
    go_enter Try.func18, Try.ntmps18
    go_wp2
    go_ret2
    exact ⟨rfl, ((Below.refl _ _).alloc (Nat.le_refl _) _).alloc (by simp) _⟩

theorem do_quiet (op b c : Int) (w : World) (n : Nat) : Calls Try.prog 23 #[.int .i64 op, .int .u32 b, .int .u32 c] (w.drewN n) fun e w' => e = .returned (.tuple #[.int .u32 (doV op b c), .bool (doOk op)]) ∧ w' = w.drewN n :=
  (do_any op b c _).mono fun e w' h => ⟨h.1, h.2.symm⟩

set_option maxHeartbeats 1000000 in
theorem made_do (op a k : Int) (b cc : Nat) (r0 r1 r2 r3 r4 r5 r6 r7 pc : Int) (h : Bool) (was rb rc : Int) (w : World) (hb : b < 8) (hc : cc < 8) (h1 : (op == 1) = false) (h9 : (op == 9) = false) (h11 : (op == 11) = false)
    (hcb : ((w.alloc (.cells #[.int .i64 op, .int .i64 a, .int .i64 b, .int .i64 cc, .int .u32 k] 38)).alloc (.cells #[.int .u32 r0, .int .u32 r1, .int .u32 r2, .int .u32 r3, .int .u32 r4, .int .u32 r5, .int .u32 r6, .int .u32 r7, .int .i64 pc, .bool h] 26)).cell? ⟨w.heap.size + 1, b, none⟩ = some (.int .u32 rb))
    (hcc : ((w.alloc (.cells #[.int .i64 op, .int .i64 a, .int .i64 b, .int .i64 cc, .int .u32 k] 38)).alloc (.cells #[.int .u32 r0, .int .u32 r1, .int .u32 r2, .int .u32 r3, .int .u32 r4, .int .u32 r5, .int .u32 r6, .int .u32 r7, .int .i64 pc, .bool h] 26)).cell? ⟨w.heap.size + 1, cc, none⟩ = some (.int .u32 rc)) :
    Calls Try.prog 18 #[.agg #[.int .i64 op, .int .i64 a, .int .i64 b, .int .i64 cc, .int .u32 k], .agg #[.int .u32 r0, .int .u32 r1, .int .u32 r2, .int .u32 r3, .int .u32 r4, .int .u32 r5, .int .u32 r6, .int .u32 r7, .int .i64 pc, .bool h], .int .u32 was] w fun e w' => e = .returned (.tuple #[.int .u32 (doV op rb rc), .bool (doOk op)]) ∧ Below w.heap.size w w' := by
  have hbb : Below w.heap.size w ((w.alloc (.cells #[.int .i64 op, .int .i64 a, .int .i64 b, .int .i64 cc, .int .u32 k] 38)).alloc (.cells #[.int .u32 r0, .int .u32 r1, .int .u32 r2, .int .u32 r3, .int .u32 r4, .int .u32 r5, .int .u32 r6, .int .u32 r7, .int .i64 pc, .bool h] 26)) := ((Below.refl _ _).alloc (Nat.le_refl _) _).alloc (by simp) _
  have HB := Lib.hid hbb
  clear hbb
  go_enter Try.func18, Try.ntmps18
  go_wp2
  go_quiet ((go_at_call 23; exact Calls.quiet_of_same (do_quiet _ _ _ _ _)))
  go_wp2
  go_ret2
  exact ⟨rfl, below_drewN HB.out _⟩

theorem made_any (x : I5) (c : Cor) (was : Int) (w : World) (hr : 0 ≤ x.a ∧ x.a < 8 ∧ 0 ≤ x.b ∧ x.b < 8 ∧ 0 ≤ x.c ∧ x.c < 8) :
    Calls Try.prog 18 #[.agg x.row, .agg c.row, .int .u32 was] w fun e w' => e = .returned (.tuple #[.int .u32 (madeV x c was), .bool (madeOk x)]) ∧ Below w.heap.size w w' := by
  obtain ⟨op, a, b, cc, k⟩ := x
  by_cases h1 : op = 1
  · subst h1
    exact (made_set a b cc k _ _ _ _ _ _ _ _ _ _ was w).mono fun e w' h => ⟨h.1.trans (ret_pair rfl rfl), h.2⟩
  · by_cases h2 : op = 9 ∨ op = 11
    · refine (made_read op a b cc k _ _ _ _ _ _ _ _ _ _ was w h2).mono fun e w' h => ⟨h.1.trans (ret_pair ?_ ?_), h.2⟩
      · unfold madeV; rw [if_neg h1, if_pos h2]
      · unfold madeOk; symm; exact decide_eq_true (by simp only; omega)
    · simp only at hr
      obtain ⟨n, rfl⟩ := Int.eq_ofNat_of_zero_le hr.2.2.1
      obtain ⟨m, rfl⟩ := Int.eq_ofNat_of_zero_le hr.2.2.2.2.1
      refine (made_do op a k n m _ _ _ _ _ _ _ _ _ _ was (c.r n) (c.r m) w (by omega) (by omega) (by simp; omega) (by simp; omega) (by simp; omega) (cell_box2 w _ c 26 n (by omega)) (cell_box2 w _ c 26 m (by omega))).mono fun e w' h => ⟨h.1.trans (ret_pair ?_ ?_), h.2⟩
      · unfold madeV; rw [if_neg h1, if_neg h2]; rfl
      · unfold doOk madeOk; rw [Bool.eq_iff_iff]; simp; omega
end Go.Proofs.Ytdebkncjmbhneaa
