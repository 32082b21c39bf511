/- What the reference's May answers for the operations 13, 14, 15, 16; it writes nothing that was there. -/
import Derived.Test.YtdebkncjmbhneaaIsaRefReg
namespace Go.Proofs.Ytdebkncjmbhneaa
open Go.ChangeShapes Go.WideShapes Go.ChangeAt Go.RowKit

set_option maxRecDepth 100000 in
set_option maxHeartbeats 2000000 in
theorem mayR_13 (a b c k n : Int) (w : World) (k0 : 0 ≤ k) (k1 : k ≤ 4294967295) :
    Calls Try.prog 22 #[.agg #[.int .i64 13, .int .i64 a, .int .i64 b, .int .i64 c, .int .u32 k], .int .i64 n] w fun e w' => e = .returned (.bool (mayB ⟨13, a, b, c, k⟩ n)) ∧ Below w.heap.size w w' := by
  have e : mayB ⟨13, a, b, c, k⟩ n = ((a == 0) && ((b == 0) && ((c == 0) && decide (k < n)))) := by
    show (true && (regB a false && (regB b false && (regB c false && conB 13 k true n)))) = _
    rw [reg_off a, reg_off b, reg_off c]
    rw [show conB 13 k true n = decide (k < n) by unfold conB; rw [if_pos rfl, Bool.eq_iff_iff]; simp]
    rfl
  rw [e]
  clear e
  obtain ⟨vha, ha⟩ : ∃ v, v = (a == 0) := ⟨_, rfl⟩
  obtain ⟨vhb, hb⟩ : ∃ v, v = (b == 0) := ⟨_, rfl⟩
  obtain ⟨vhc, hc⟩ : ∃ v, v = (c == 0) := ⟨_, rfl⟩
  obtain ⟨vhk, hk⟩ : ∃ v, v = decide (k < n) := ⟨_, rfl⟩
  rw [← ha, ← hb, ← hc, ← hk]
  replace ha := ha.symm
  replace hb := hb.symm
  replace hc := hc.symm
  have Hhk := Lib.hid hk.symm
  clear hk
  cases vha with
  | false =>
    go_enter Try.func22, Try.ntmps22
    go_wp2
    go_ret
    exact ⟨rfl, (Below.refl _ _).alloc (Nat.le_refl _) _⟩
  | true =>
    cases vhb with
    | false =>
      go_enter Try.func22, Try.ntmps22
      go_wp2
      go_ret
      exact ⟨rfl, (Below.refl _ _).alloc (Nat.le_refl _) _⟩
    | true =>
      cases vhc with
      | false =>
        go_enter Try.func22, Try.ntmps22
        go_wp2
        go_ret
        exact ⟨rfl, (Below.refl _ _).alloc (Nat.le_refl _) _⟩
      | true =>
        cases vhk with
        | false =>
          go_enter Try.func22, Try.ntmps22
          go_wp2_with fail
          refine (goalR_any _ _ _ _ k0 k1 Hhk.out).mono ?_
          rintro e w' ⟨rfl, rfl⟩
          go_wp2
          go_ret
          exact ⟨rfl, (Below.refl _ _).alloc (Nat.le_refl _) _⟩
        | true =>
          go_enter Try.func22, Try.ntmps22
          go_wp2_with fail
          refine (goalR_any _ _ _ _ k0 k1 Hhk.out).mono ?_
          rintro e w' ⟨rfl, rfl⟩
          go_wp2
          go_ret
          exact ⟨rfl, (Below.refl _ _).alloc (Nat.le_refl _) _⟩

set_option maxRecDepth 100000 in
set_option maxHeartbeats 2000000 in
theorem mayR_14 (a b c k n : Int) (w : World) (k0 : 0 ≤ k) (k1 : k ≤ 4294967295) :
    Calls Try.prog 22 #[.agg #[.int .i64 14, .int .i64 a, .int .i64 b, .int .i64 c, .int .u32 k], .int .i64 n] w fun e w' => e = .returned (.bool (mayB ⟨14, a, b, c, k⟩ n)) ∧ Below w.heap.size w w' := by
  have e : mayB ⟨14, a, b, c, k⟩ n = (regB a true && ((b == 0) && ((c == 0) && decide (k < n)))) := by
    show (true && (regB a true && (regB b false && (regB c false && conB 14 k true n)))) = _
    rw [reg_off b, reg_off c]
    rw [show conB 14 k true n = decide (k < n) by unfold conB; rw [if_pos rfl, Bool.eq_iff_iff]; simp]
    rfl
  rw [e]
  clear e
  obtain ⟨vha, ha⟩ : ∃ v, v = regB a true := ⟨_, rfl⟩
  obtain ⟨vhb, hb⟩ : ∃ v, v = (b == 0) := ⟨_, rfl⟩
  obtain ⟨vhc, hc⟩ : ∃ v, v = (c == 0) := ⟨_, rfl⟩
  obtain ⟨vhk, hk⟩ : ∃ v, v = decide (k < n) := ⟨_, rfl⟩
  rw [← ha, ← hb, ← hc, ← hk]
  have Hha := Lib.hid ha.symm
  clear ha
  replace hb := hb.symm
  replace hc := hc.symm
  have Hhk := Lib.hid hk.symm
  clear hk
  cases vha with
  | false =>
    go_enter Try.func22, Try.ntmps22
    go_wp2_with fail
    refine (regR_any _ _ _ Hha.out).mono ?_
    rintro e w' ⟨rfl, rfl⟩
    go_wp2
    go_ret
    exact ⟨rfl, (Below.refl _ _).alloc (Nat.le_refl _) _⟩
  | true =>
    cases vhb with
    | false =>
      go_enter Try.func22, Try.ntmps22
      go_wp2_with fail
      refine (regR_any _ _ _ Hha.out).mono ?_
      rintro e w' ⟨rfl, rfl⟩
      go_wp2
      go_ret
      exact ⟨rfl, (Below.refl _ _).alloc (Nat.le_refl _) _⟩
    | true =>
      cases vhc with
      | false =>
        go_enter Try.func22, Try.ntmps22
        go_wp2_with fail
        refine (regR_any _ _ _ Hha.out).mono ?_
        rintro e w' ⟨rfl, rfl⟩
        go_wp2
        go_ret
        exact ⟨rfl, (Below.refl _ _).alloc (Nat.le_refl _) _⟩
      | true =>
        cases vhk with
        | false =>
          go_enter Try.func22, Try.ntmps22
          go_wp2_with fail
          refine (regR_any _ _ _ Hha.out).mono ?_
          rintro e w' ⟨rfl, rfl⟩
          go_wp2_with fail
          refine (goalR_any _ _ _ _ k0 k1 Hhk.out).mono ?_
          rintro e w' ⟨rfl, rfl⟩
          go_wp2
          go_ret
          exact ⟨rfl, (Below.refl _ _).alloc (Nat.le_refl _) _⟩
        | true =>
          go_enter Try.func22, Try.ntmps22
          go_wp2_with fail
          refine (regR_any _ _ _ Hha.out).mono ?_
          rintro e w' ⟨rfl, rfl⟩
          go_wp2_with fail
          refine (goalR_any _ _ _ _ k0 k1 Hhk.out).mono ?_
          rintro e w' ⟨rfl, rfl⟩
          go_wp2
          go_ret
          exact ⟨rfl, (Below.refl _ _).alloc (Nat.le_refl _) _⟩

set_option maxRecDepth 100000 in
set_option maxHeartbeats 2000000 in
theorem mayR_15 (a b c k n : Int) (w : World) (k0 : 0 ≤ k) (k1 : k ≤ 4294967295) :
    Calls Try.prog 22 #[.agg #[.int .i64 15, .int .i64 a, .int .i64 b, .int .i64 c, .int .u32 k], .int .i64 n] w fun e w' => e = .returned (.bool (mayB ⟨15, a, b, c, k⟩ n)) ∧ Below w.heap.size w w' := by
  have e : mayB ⟨15, a, b, c, k⟩ n = (regB a true && ((b == 0) && ((c == 0) && (k == 0)))) := by
    show (true && (regB a true && (regB b false && (regB c false && conB 15 k false n)))) = _
    rw [reg_off b, reg_off c, con_off]
    rfl
  rw [e]
  clear e
  obtain ⟨vha, ha⟩ : ∃ v, v = regB a true := ⟨_, rfl⟩
  obtain ⟨vhb, hb⟩ : ∃ v, v = (b == 0) := ⟨_, rfl⟩
  obtain ⟨vhc, hc⟩ : ∃ v, v = (c == 0) := ⟨_, rfl⟩
  obtain ⟨vhk, hk⟩ : ∃ v, v = (k == 0) := ⟨_, rfl⟩
  rw [← ha, ← hb, ← hc, ← hk]
  have Hha := Lib.hid ha.symm
  clear ha
  replace hb := hb.symm
  replace hc := hc.symm
  replace hk := hk.symm
  cases vha with
  | false =>
    go_enter Try.func22, Try.ntmps22
    go_wp2_with fail
    refine (regR_any _ _ _ Hha.out).mono ?_
    rintro e w' ⟨rfl, rfl⟩
    go_wp2
    go_ret
    exact ⟨rfl, (Below.refl _ _).alloc (Nat.le_refl _) _⟩
  | true =>
    cases vhb with
    | false =>
      go_enter Try.func22, Try.ntmps22
      go_wp2_with fail
      refine (regR_any _ _ _ Hha.out).mono ?_
      rintro e w' ⟨rfl, rfl⟩
      go_wp2
      go_ret
      exact ⟨rfl, (Below.refl _ _).alloc (Nat.le_refl _) _⟩
    | true =>
      cases vhc with
      | false =>
        go_enter Try.func22, Try.ntmps22
        go_wp2_with fail
        refine (regR_any _ _ _ Hha.out).mono ?_
        rintro e w' ⟨rfl, rfl⟩
        go_wp2
        go_ret
        exact ⟨rfl, (Below.refl _ _).alloc (Nat.le_refl _) _⟩
      | true =>
        cases vhk with
        | false =>
          go_enter Try.func22, Try.ntmps22
          go_wp2_with fail
          refine (regR_any _ _ _ Hha.out).mono ?_
          rintro e w' ⟨rfl, rfl⟩
          go_wp2
          go_ret
          exact ⟨rfl, (Below.refl _ _).alloc (Nat.le_refl _) _⟩
        | true =>
          go_enter Try.func22, Try.ntmps22
          go_wp2_with fail
          refine (regR_any _ _ _ Hha.out).mono ?_
          rintro e w' ⟨rfl, rfl⟩
          go_wp2
          go_ret
          exact ⟨rfl, (Below.refl _ _).alloc (Nat.le_refl _) _⟩

set_option maxRecDepth 100000 in
set_option maxHeartbeats 2000000 in
theorem mayR_16 (a b c k n : Int) (w : World) (k0 : 0 ≤ k) (k1 : k ≤ 4294967295) :
    Calls Try.prog 22 #[.agg #[.int .i64 16, .int .i64 a, .int .i64 b, .int .i64 c, .int .u32 k], .int .i64 n] w fun e w' => e = .returned (.bool (mayB ⟨16, a, b, c, k⟩ n)) ∧ Below w.heap.size w w' := by
  have e : mayB ⟨16, a, b, c, k⟩ n = ((a == 0) && ((b == 0) && ((c == 0) && (k == 0)))) := by
    show (true && (regB a false && (regB b false && (regB c false && conB 16 k false n)))) = _
    rw [reg_off a, reg_off b, reg_off c, con_off]
    rfl
  rw [e]
  clear e
  obtain ⟨vha, ha⟩ : ∃ v, v = (a == 0) := ⟨_, rfl⟩
  obtain ⟨vhb, hb⟩ : ∃ v, v = (b == 0) := ⟨_, rfl⟩
  obtain ⟨vhc, hc⟩ : ∃ v, v = (c == 0) := ⟨_, rfl⟩
  obtain ⟨vhk, hk⟩ : ∃ v, v = (k == 0) := ⟨_, rfl⟩
  rw [← ha, ← hb, ← hc, ← hk]
  replace ha := ha.symm
  replace hb := hb.symm
  replace hc := hc.symm
  replace hk := hk.symm
  cases vha with
  | false =>
    go_enter Try.func22, Try.ntmps22
    go_wp2
    go_ret
    exact ⟨rfl, (Below.refl _ _).alloc (Nat.le_refl _) _⟩
  | true =>
    cases vhb with
    | false =>
      go_enter Try.func22, Try.ntmps22
      go_wp2
      go_ret
      exact ⟨rfl, (Below.refl _ _).alloc (Nat.le_refl _) _⟩
    | true =>
      cases vhc with
      | false =>
        go_enter Try.func22, Try.ntmps22
        go_wp2
        go_ret
        exact ⟨rfl, (Below.refl _ _).alloc (Nat.le_refl _) _⟩
      | true =>
        cases vhk with
        | false =>
          go_enter Try.func22, Try.ntmps22
          go_wp2
          go_ret
          exact ⟨rfl, (Below.refl _ _).alloc (Nat.le_refl _) _⟩
        | true =>
          go_enter Try.func22, Try.ntmps22
          go_wp2
          go_ret
          exact ⟨rfl, (Below.refl _ _).alloc (Nat.le_refl _) _⟩

set_option maxRecDepth 100000 in
set_option maxHeartbeats 2000000 in
theorem mayR_out (op a b c k n : Int) (w : World) (h : op < 1 ∨ 16 < op) :
    Calls Try.prog 22 #[.agg #[.int .i64 op, .int .i64 a, .int .i64 b, .int .i64 c, .int .u32 k], .int .i64 n] w fun e w' => e = .returned (.bool (mayB ⟨op, a, b, c, k⟩ n)) ∧ Below w.heap.size w w' := by
  have e : mayB ⟨op, a, b, c, k⟩ n = false := by unfold mayB; rw [isOp_out h]; rfl
  rw [e]
  clear e
  have e1 := neq_out h 1 (by omega) (by omega)
  have e2 := neq_out h 2 (by omega) (by omega)
  have e3 := neq_out h 3 (by omega) (by omega)
  have e4 := neq_out h 4 (by omega) (by omega)
  have e5 := neq_out h 5 (by omega) (by omega)
  have e6 := neq_out h 6 (by omega) (by omega)
  have e7 := neq_out h 7 (by omega) (by omega)
  have e8 := neq_out h 8 (by omega) (by omega)
  have e9 := neq_out h 9 (by omega) (by omega)
  have e10 := neq_out h 10 (by omega) (by omega)
  have e11 := neq_out h 11 (by omega) (by omega)
  have e12 := neq_out h 12 (by omega) (by omega)
  have e13 := neq_out h 13 (by omega) (by omega)
  have e14 := neq_out h 14 (by omega) (by omega)
  have e15 := neq_out h 15 (by omega) (by omega)
  have e16 := neq_out h 16 (by omega) (by omega)
  clear h
  go_enter Try.func22, Try.ntmps22
  go_wp2
  go_ret
  exact ⟨rfl, (Below.refl _ _).alloc (Nat.le_refl _) _⟩
end Go.Proofs.Ytdebkncjmbhneaa
