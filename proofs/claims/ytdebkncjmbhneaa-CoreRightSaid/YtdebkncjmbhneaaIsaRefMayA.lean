/- What the reference's May answers for the operations 1, 2, 3, 4; it writes nothing that was there. -/
import Derived.Test.YtdebkncjmbhneaaIsaRefReg
namespace Go.Proofs.Ytdebkncjmbhneaa
open Go.ChangeShapes Go.WideShapes Go.ChangeAt Go.RowKit

set_option maxRecDepth 100000 in
set_option maxHeartbeats 2000000 in
theorem mayR_1 (a b c k n : Int) (w : World) (k0 : 0 ≤ k) (k1 : k ≤ 4294967295) :
    Calls Try.prog 22 #[.agg #[.int .i64 1, .int .i64 a, .int .i64 b, .int .i64 c, .int .u32 k], .int .i64 n] w fun e w' => e = .returned (.bool (mayB ⟨1, a, b, c, k⟩ n)) ∧ Below w.heap.size w w' := by
  have e : mayB ⟨1, a, b, c, k⟩ n = (regB a true && ((b == 0) && ((c == 0) && true))) := by
    show (true && (regB a true && (regB b false && (regB c false && conB 1 k true n)))) = _
    rw [reg_off b, reg_off c]
    rw [show conB 1 k true n = true by unfold conB; rw [if_pos rfl]; exact decide_eq_true (Or.inl rfl)]
    rfl
  rw [e]
  clear e
  obtain ⟨vha, ha⟩ : ∃ v, v = regB a true := ⟨_, rfl⟩
  obtain ⟨vhb, hb⟩ : ∃ v, v = (b == 0) := ⟨_, rfl⟩
  obtain ⟨vhc, hc⟩ : ∃ v, v = (c == 0) := ⟨_, rfl⟩
  rw [← ha, ← hb, ← hc]
  have Hha := Lib.hid ha.symm
  clear ha
  replace hb := hb.symm
  replace hc := hc.symm
  cases vha with
  | false =>
    go_enter Try.func22, Try.ntmps22
    go_wp2_with fail
    refine (regR_any _ _ _ Hha.out).mono ?_
    rintro e w' ⟨rfl, rfl⟩
    go_wp2
    go_ret
    exact ⟨rfl, (Below.refl _ _).alloc (Nat.le_refl _) _⟩
  | true =>
    cases vhb with
    | false =>
      go_enter Try.func22, Try.ntmps22
      go_wp2_with fail
      refine (regR_any _ _ _ Hha.out).mono ?_
      rintro e w' ⟨rfl, rfl⟩
      go_wp2
      go_ret
      exact ⟨rfl, (Below.refl _ _).alloc (Nat.le_refl _) _⟩
    | true =>
      cases vhc with
      | false =>
        go_enter Try.func22, Try.ntmps22
        go_wp2_with fail
        refine (regR_any _ _ _ Hha.out).mono ?_
        rintro e w' ⟨rfl, rfl⟩
        go_wp2
        go_ret
        exact ⟨rfl, (Below.refl _ _).alloc (Nat.le_refl _) _⟩
      | true =>
        go_enter Try.func22, Try.ntmps22
        go_wp2_with fail
        refine (regR_any _ _ _ Hha.out).mono ?_
        rintro e w' ⟨rfl, rfl⟩
        go_wp2
        go_ret
        exact ⟨rfl, (Below.refl _ _).alloc (Nat.le_refl _) _⟩

set_option maxRecDepth 100000 in
set_option maxHeartbeats 2000000 in
theorem mayR_2 (a b c k n : Int) (w : World) (k0 : 0 ≤ k) (k1 : k ≤ 4294967295) :
    Calls Try.prog 22 #[.agg #[.int .i64 2, .int .i64 a, .int .i64 b, .int .i64 c, .int .u32 k], .int .i64 n] w fun e w' => e = .returned (.bool (mayB ⟨2, a, b, c, k⟩ n)) ∧ Below w.heap.size w w' := by
  have e : mayB ⟨2, a, b, c, k⟩ n = (regB a true && (regB b true && (regB c true && (k == 0)))) := by
    show (true && (regB a true && (regB b true && (regB c true && conB 2 k false n)))) = _
    rw [con_off]
    rfl
  rw [e]
  clear e
  obtain ⟨vha, ha⟩ : ∃ v, v = regB a true := ⟨_, rfl⟩
  obtain ⟨vhb, hb⟩ : ∃ v, v = regB b true := ⟨_, rfl⟩
  obtain ⟨vhc, hc⟩ : ∃ v, v = regB c true := ⟨_, rfl⟩
  obtain ⟨vhk, hk⟩ : ∃ v, v = (k == 0) := ⟨_, rfl⟩
  rw [← ha, ← hb, ← hc, ← hk]
  have Hha := Lib.hid ha.symm
  clear ha
  have Hhb := Lib.hid hb.symm
  clear hb
  have Hhc := Lib.hid hc.symm
  clear hc
  replace hk := hk.symm
  cases vha with
  | false =>
    go_enter Try.func22, Try.ntmps22
    go_wp2_with fail
    refine (regR_any _ _ _ Hha.out).mono ?_
    rintro e w' ⟨rfl, rfl⟩
    go_wp2
    go_ret
    exact ⟨rfl, (Below.refl _ _).alloc (Nat.le_refl _) _⟩
  | true =>
    cases vhb with
    | false =>
      go_enter Try.func22, Try.ntmps22
      go_wp2_with fail
      refine (regR_any _ _ _ Hha.out).mono ?_
      rintro e w' ⟨rfl, rfl⟩
      go_wp2_with fail
      refine (regR_any _ _ _ Hhb.out).mono ?_
      rintro e w' ⟨rfl, rfl⟩
      go_wp2
      go_ret
      exact ⟨rfl, (Below.refl _ _).alloc (Nat.le_refl _) _⟩
    | true =>
      cases vhc with
      | false =>
        go_enter Try.func22, Try.ntmps22
        go_wp2_with fail
        refine (regR_any _ _ _ Hha.out).mono ?_
        rintro e w' ⟨rfl, rfl⟩
        go_wp2_with fail
        refine (regR_any _ _ _ Hhb.out).mono ?_
        rintro e w' ⟨rfl, rfl⟩
        go_wp2_with fail
        refine (regR_any _ _ _ Hhc.out).mono ?_
        rintro e w' ⟨rfl, rfl⟩
        go_wp2
        go_ret
        exact ⟨rfl, (Below.refl _ _).alloc (Nat.le_refl _) _⟩
      | true =>
        cases vhk with
        | false =>
          go_enter Try.func22, Try.ntmps22
          go_wp2_with fail
          refine (regR_any _ _ _ Hha.out).mono ?_
          rintro e w' ⟨rfl, rfl⟩
          go_wp2_with fail
          refine (regR_any _ _ _ Hhb.out).mono ?_
          rintro e w' ⟨rfl, rfl⟩
          go_wp2_with fail
          refine (regR_any _ _ _ Hhc.out).mono ?_
          rintro e w' ⟨rfl, rfl⟩
          go_wp2
          go_ret
          exact ⟨rfl, (Below.refl _ _).alloc (Nat.le_refl _) _⟩
        | true =>
          go_enter Try.func22, Try.ntmps22
          go_wp2_with fail
          refine (regR_any _ _ _ Hha.out).mono ?_
          rintro e w' ⟨rfl, rfl⟩
          go_wp2_with fail
          refine (regR_any _ _ _ Hhb.out).mono ?_
          rintro e w' ⟨rfl, rfl⟩
          go_wp2_with fail
          refine (regR_any _ _ _ Hhc.out).mono ?_
          rintro e w' ⟨rfl, rfl⟩
          go_wp2
          go_ret
          exact ⟨rfl, (Below.refl _ _).alloc (Nat.le_refl _) _⟩

set_option maxRecDepth 100000 in
set_option maxHeartbeats 2000000 in
theorem mayR_3 (a b c k n : Int) (w : World) (k0 : 0 ≤ k) (k1 : k ≤ 4294967295) :
    Calls Try.prog 22 #[.agg #[.int .i64 3, .int .i64 a, .int .i64 b, .int .i64 c, .int .u32 k], .int .i64 n] w fun e w' => e = .returned (.bool (mayB ⟨3, a, b, c, k⟩ n)) ∧ Below w.heap.size w w' := by
  have e : mayB ⟨3, a, b, c, k⟩ n = (regB a true && (regB b true && (regB c true && (k == 0)))) := by
    show (true && (regB a true && (regB b true && (regB c true && conB 3 k false n)))) = _
    rw [con_off]
    rfl
  rw [e]
  clear e
  obtain ⟨vha, ha⟩ : ∃ v, v = regB a true := ⟨_, rfl⟩
  obtain ⟨vhb, hb⟩ : ∃ v, v = regB b true := ⟨_, rfl⟩
  obtain ⟨vhc, hc⟩ : ∃ v, v = regB c true := ⟨_, rfl⟩
  obtain ⟨vhk, hk⟩ : ∃ v, v = (k == 0) := ⟨_, rfl⟩
  rw [← ha, ← hb, ← hc, ← hk]
  have Hha := Lib.hid ha.symm
  clear ha
  have Hhb := Lib.hid hb.symm
  clear hb
  have Hhc := Lib.hid hc.symm
  clear hc
  replace hk := hk.symm
  cases vha with
  | false =>
    go_enter Try.func22, Try.ntmps22
    go_wp2_with fail
    refine (regR_any _ _ _ Hha.out).mono ?_
    rintro e w' ⟨rfl, rfl⟩
    go_wp2
    go_ret
    exact ⟨rfl, (Below.refl _ _).alloc (Nat.le_refl _) _⟩
  | true =>
    cases vhb with
    | false =>
      go_enter Try.func22, Try.ntmps22
      go_wp2_with fail
      refine (regR_any _ _ _ Hha.out).mono ?_
      rintro e w' ⟨rfl, rfl⟩
      go_wp2_with fail
      refine (regR_any _ _ _ Hhb.out).mono ?_
      rintro e w' ⟨rfl, rfl⟩
      go_wp2
      go_ret
      exact ⟨rfl, (Below.refl _ _).alloc (Nat.le_refl _) _⟩
    | true =>
      cases vhc with
      | false =>
        go_enter Try.func22, Try.ntmps22
        go_wp2_with fail
        refine (regR_any _ _ _ Hha.out).mono ?_
        rintro e w' ⟨rfl, rfl⟩
        go_wp2_with fail
        refine (regR_any _ _ _ Hhb.out).mono ?_
        rintro e w' ⟨rfl, rfl⟩
        go_wp2_with fail
        refine (regR_any _ _ _ Hhc.out).mono ?_
        rintro e w' ⟨rfl, rfl⟩
        go_wp2
        go_ret
        exact ⟨rfl, (Below.refl _ _).alloc (Nat.le_refl _) _⟩
      | true =>
        cases vhk with
        | false =>
          go_enter Try.func22, Try.ntmps22
          go_wp2_with fail
          refine (regR_any _ _ _ Hha.out).mono ?_
          rintro e w' ⟨rfl, rfl⟩
          go_wp2_with fail
          refine (regR_any _ _ _ Hhb.out).mono ?_
          rintro e w' ⟨rfl, rfl⟩
          go_wp2_with fail
          refine (regR_any _ _ _ Hhc.out).mono ?_
          rintro e w' ⟨rfl, rfl⟩
          go_wp2
          go_ret
          exact ⟨rfl, (Below.refl _ _).alloc (Nat.le_refl _) _⟩
        | true =>
          go_enter Try.func22, Try.ntmps22
          go_wp2_with fail
          refine (regR_any _ _ _ Hha.out).mono ?_
          rintro e w' ⟨rfl, rfl⟩
          go_wp2_with fail
          refine (regR_any _ _ _ Hhb.out).mono ?_
          rintro e w' ⟨rfl, rfl⟩
          go_wp2_with fail
          refine (regR_any _ _ _ Hhc.out).mono ?_
          rintro e w' ⟨rfl, rfl⟩
          go_wp2
          go_ret
          exact ⟨rfl, (Below.refl _ _).alloc (Nat.le_refl _) _⟩

set_option maxRecDepth 100000 in
set_option maxHeartbeats 2000000 in
theorem mayR_4 (a b c k n : Int) (w : World) (k0 : 0 ≤ k) (k1 : k ≤ 4294967295) :
    Calls Try.prog 22 #[.agg #[.int .i64 4, .int .i64 a, .int .i64 b, .int .i64 c, .int .u32 k], .int .i64 n] w fun e w' => e = .returned (.bool (mayB ⟨4, a, b, c, k⟩ n)) ∧ Below w.heap.size w w' := by
  have e : mayB ⟨4, a, b, c, k⟩ n = (regB a true && (regB b true && (regB c true && (k == 0)))) := by
    show (true && (regB a true && (regB b true && (regB c true && conB 4 k false n)))) = _
    rw [con_off]
    rfl
  rw [e]
  clear e
  obtain ⟨vha, ha⟩ : ∃ v, v = regB a true := ⟨_, rfl⟩
  obtain ⟨vhb, hb⟩ : ∃ v, v = regB b true := ⟨_, rfl⟩
  obtain ⟨vhc, hc⟩ : ∃ v, v = regB c true := ⟨_, rfl⟩
  obtain ⟨vhk, hk⟩ : ∃ v, v = (k == 0) := ⟨_, rfl⟩
  rw [← ha, ← hb, ← hc, ← hk]
  have Hha := Lib.hid ha.symm
  clear ha
  have Hhb := Lib.hid hb.symm
  clear hb
  have Hhc := Lib.hid hc.symm
  clear hc
  replace hk := hk.symm
  cases vha with
  | false =>
    go_enter Try.func22, Try.ntmps22
    go_wp2_with fail
    refine (regR_any _ _ _ Hha.out).mono ?_
    rintro e w' ⟨rfl, rfl⟩
    go_wp2
    go_ret
    exact ⟨rfl, (Below.refl _ _).alloc (Nat.le_refl _) _⟩
  | true =>
    cases vhb with
    | false =>
      go_enter Try.func22, Try.ntmps22
      go_wp2_with fail
      refine (regR_any _ _ _ Hha.out).mono ?_
      rintro e w' ⟨rfl, rfl⟩
      go_wp2_with fail
      refine (regR_any _ _ _ Hhb.out).mono ?_
      rintro e w' ⟨rfl, rfl⟩
      go_wp2
      go_ret
      exact ⟨rfl, (Below.refl _ _).alloc (Nat.le_refl _) _⟩
    | true =>
      cases vhc with
      | false =>
        go_enter Try.func22, Try.ntmps22
        go_wp2_with fail
        refine (regR_any _ _ _ Hha.out).mono ?_
        rintro e w' ⟨rfl, rfl⟩
        go_wp2_with fail
        refine (regR_any _ _ _ Hhb.out).mono ?_
        rintro e w' ⟨rfl, rfl⟩
        go_wp2_with fail
        refine (regR_any _ _ _ Hhc.out).mono ?_
        rintro e w' ⟨rfl, rfl⟩
        go_wp2
        go_ret
        exact ⟨rfl, (Below.refl _ _).alloc (Nat.le_refl _) _⟩
      | true =>
        cases vhk with
        | false =>
          go_enter Try.func22, Try.ntmps22
          go_wp2_with fail
          refine (regR_any _ _ _ Hha.out).mono ?_
          rintro e w' ⟨rfl, rfl⟩
          go_wp2_with fail
          refine (regR_any _ _ _ Hhb.out).mono ?_
          rintro e w' ⟨rfl, rfl⟩
          go_wp2_with fail
          refine (regR_any _ _ _ Hhc.out).mono ?_
          rintro e w' ⟨rfl, rfl⟩
          go_wp2
          go_ret
          exact ⟨rfl, (Below.refl _ _).alloc (Nat.le_refl _) _⟩
        | true =>
          go_enter Try.func22, Try.ntmps22
          go_wp2_with fail
          refine (regR_any _ _ _ Hha.out).mono ?_
          rintro e w' ⟨rfl, rfl⟩
          go_wp2_with fail
          refine (regR_any _ _ _ Hhb.out).mono ?_
          rintro e w' ⟨rfl, rfl⟩
          go_wp2_with fail
          refine (regR_any _ _ _ Hhc.out).mono ?_
          rintro e w' ⟨rfl, rfl⟩
          go_wp2
          go_ret
          exact ⟨rfl, (Below.refl _ _).alloc (Nat.le_refl _) _⟩
end Go.Proofs.Ytdebkncjmbhneaa
