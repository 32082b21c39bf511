/- Laid together, in this order: IsaRefMayB, IsaRefMayC. -/
import Derived.Test.YtekiialhljfglaaZe
/- What the reference's May answers for the operations 5, 6, 7, 8; it writes nothing that was there. -/
namespace Go.Proofs.Ytekiialhljfglaa
open Go.ChangeShapes Go.WideShapes Go.ChangeAt Go.RowKit

set_option maxRecDepth 100000 in
set_option maxHeartbeats 2000000 in
theorem mayR_5 (a b c k n : Int) (w : World) (k0 : 0 ≤ k) (k1 : k ≤ 4294967295) :
    Calls Try.prog 47 #[.agg #[.int .i64 5, .int .i64 a, .int .i64 b, .int .i64 c, .int .u32 k], .int .i64 n] w fun e w' => e = .returned (.bool (mayB ⟨5, a, b, c, k⟩ n)) ∧ Below w.heap.size w w' := by
  have e : mayB ⟨5, a, b, c, k⟩ n = (regB a true && (regB b true && (regB c true && (k == 0)))) := by
    show (true && (regB a true && (regB b true && (regB c true && conB 5 k false n)))) = _
    rw [con_off]
    rfl
  rw [e]
  clear e
  obtain ⟨vha, ha⟩ : ∃ v, v = regB a true := ⟨_, rfl⟩
  obtain ⟨vhb, hb⟩ : ∃ v, v = regB b true := ⟨_, rfl⟩
  obtain ⟨vhc, hc⟩ : ∃ v, v = regB c true := ⟨_, rfl⟩
  obtain ⟨vhk, hk⟩ : ∃ v, v = (k == 0) := ⟨_, rfl⟩
  rw [← ha, ← hb, ← hc, ← hk]
  have Hha := Lib.hid ha.symm
  clear ha
  have Hhb := Lib.hid hb.symm
  clear hb
  have Hhc := Lib.hid hc.symm
  clear hc
  replace hk := hk.symm
  cases vha with
  | false =>
    go_enter Try.func47, Try.ntmps47
    go_wp2_with fail
    refine (regR_any _ _ _ Hha.out).mono ?_
    rintro e w' ⟨rfl, rfl⟩
    go_wp2
    go_ret
    exact ⟨rfl, (Below.refl _ _).alloc (Nat.le_refl _) _⟩
  | true =>
    cases vhb with
    | false =>
      go_enter Try.func47, Try.ntmps47
      go_wp2_with fail
      refine (regR_any _ _ _ Hha.out).mono ?_
      rintro e w' ⟨rfl, rfl⟩
      go_wp2_with fail
      refine (regR_any _ _ _ Hhb.out).mono ?_
      rintro e w' ⟨rfl, rfl⟩
      go_wp2
      go_ret
      exact ⟨rfl, (Below.refl _ _).alloc (Nat.le_refl _) _⟩
    | true =>
      cases vhc with
      | false =>
        go_enter Try.func47, Try.ntmps47
        go_wp2_with fail
        refine (regR_any _ _ _ Hha.out).mono ?_
        rintro e w' ⟨rfl, rfl⟩
        go_wp2_with fail
        refine (regR_any _ _ _ Hhb.out).mono ?_
        rintro e w' ⟨rfl, rfl⟩
        go_wp2_with fail
        refine (regR_any _ _ _ Hhc.out).mono ?_
        rintro e w' ⟨rfl, rfl⟩
        go_wp2
        go_ret
        exact ⟨rfl, (Below.refl _ _).alloc (Nat.le_refl _) _⟩
      | true =>
        cases vhk with
        | false =>
          go_enter Try.func47, Try.ntmps47
          go_wp2_with fail
          refine (regR_any _ _ _ Hha.out).mono ?_
          rintro e w' ⟨rfl, rfl⟩
          go_wp2_with fail
          refine (regR_any _ _ _ Hhb.out).mono ?_
          rintro e w' ⟨rfl, rfl⟩
          go_wp2_with fail
          refine (regR_any _ _ _ Hhc.out).mono ?_
          rintro e w' ⟨rfl, rfl⟩
          go_wp2
          go_ret
          exact ⟨rfl, (Below.refl _ _).alloc (Nat.le_refl _) _⟩
        | true =>
          go_enter Try.func47, Try.ntmps47
          go_wp2_with fail
          refine (regR_any _ _ _ Hha.out).mono ?_
          rintro e w' ⟨rfl, rfl⟩
          go_wp2_with fail
          refine (regR_any _ _ _ Hhb.out).mono ?_
          rintro e w' ⟨rfl, rfl⟩
          go_wp2_with fail
          refine (regR_any _ _ _ Hhc.out).mono ?_
          rintro e w' ⟨rfl, rfl⟩
          go_wp2
          go_ret
          exact ⟨rfl, (Below.refl _ _).alloc (Nat.le_refl _) _⟩

set_option maxRecDepth 100000 in
set_option maxHeartbeats 2000000 in
theorem mayR_6 (a b c k n : Int) (w : World) (k0 : 0 ≤ k) (k1 : k ≤ 4294967295) :
    Calls Try.prog 47 #[.agg #[.int .i64 6, .int .i64 a, .int .i64 b, .int .i64 c, .int .u32 k], .int .i64 n] w fun e w' => e = .returned (.bool (mayB ⟨6, a, b, c, k⟩ n)) ∧ Below w.heap.size w w' := by
  have e : mayB ⟨6, a, b, c, k⟩ n = (regB a true && (regB b true && (regB c true && (k == 0)))) := by
    show (true && (regB a true && (regB b true && (regB c true && conB 6 k false n)))) = _
    rw [con_off]
    rfl
  rw [e]
  clear e
  obtain ⟨vha, ha⟩ : ∃ v, v = regB a true := ⟨_, rfl⟩
  obtain ⟨vhb, hb⟩ : ∃ v, v = regB b true := ⟨_, rfl⟩
  obtain ⟨vhc, hc⟩ : ∃ v, v = regB c true := ⟨_, rfl⟩
  obtain ⟨vhk, hk⟩ : ∃ v, v = (k == 0) := ⟨_, rfl⟩
  rw [← ha, ← hb, ← hc, ← hk]
  have Hha := Lib.hid ha.symm
  clear ha
  have Hhb := Lib.hid hb.symm
  clear hb
  have Hhc := Lib.hid hc.symm
  clear hc
  replace hk := hk.symm
  cases vha with
  | false =>
    go_enter Try.func47, Try.ntmps47
    go_wp2_with fail
    refine (regR_any _ _ _ Hha.out).mono ?_
    rintro e w' ⟨rfl, rfl⟩
    go_wp2
    go_ret
    exact ⟨rfl, (Below.refl _ _).alloc (Nat.le_refl _) _⟩
  | true =>
    cases vhb with
    | false =>
      go_enter Try.func47, Try.ntmps47
      go_wp2_with fail
      refine (regR_any _ _ _ Hha.out).mono ?_
      rintro e w' ⟨rfl, rfl⟩
      go_wp2_with fail
      refine (regR_any _ _ _ Hhb.out).mono ?_
      rintro e w' ⟨rfl, rfl⟩
      go_wp2
      go_ret
      exact ⟨rfl, (Below.refl _ _).alloc (Nat.le_refl _) _⟩
    | true =>
      cases vhc with
      | false =>
        go_enter Try.func47, Try.ntmps47
        go_wp2_with fail
        refine (regR_any _ _ _ Hha.out).mono ?_
        rintro e w' ⟨rfl, rfl⟩
        go_wp2_with fail
        refine (regR_any _ _ _ Hhb.out).mono ?_
        rintro e w' ⟨rfl, rfl⟩
        go_wp2_with fail
        refine (regR_any _ _ _ Hhc.out).mono ?_
        rintro e w' ⟨rfl, rfl⟩
        go_wp2
        go_ret
        exact ⟨rfl, (Below.refl _ _).alloc (Nat.le_refl _) _⟩
      | true =>
        cases vhk with
        | false =>
          go_enter Try.func47, Try.ntmps47
          go_wp2_with fail
          refine (regR_any _ _ _ Hha.out).mono ?_
          rintro e w' ⟨rfl, rfl⟩
          go_wp2_with fail
          refine (regR_any _ _ _ Hhb.out).mono ?_
          rintro e w' ⟨rfl, rfl⟩
          go_wp2_with fail
          refine (regR_any _ _ _ Hhc.out).mono ?_
          rintro e w' ⟨rfl, rfl⟩
          go_wp2
          go_ret
          exact ⟨rfl, (Below.refl _ _).alloc (Nat.le_refl _) _⟩
        | true =>
          go_enter Try.func47, Try.ntmps47
          go_wp2_with fail
          refine (regR_any _ _ _ Hha.out).mono ?_
          rintro e w' ⟨rfl, rfl⟩
          go_wp2_with fail
          refine (regR_any _ _ _ Hhb.out).mono ?_
          rintro e w' ⟨rfl, rfl⟩
          go_wp2_with fail
          refine (regR_any _ _ _ Hhc.out).mono ?_
          rintro e w' ⟨rfl, rfl⟩
          go_wp2
          go_ret
          exact ⟨rfl, (Below.refl _ _).alloc (Nat.le_refl _) _⟩

set_option maxRecDepth 100000 in
set_option maxHeartbeats 2000000 in
theorem mayR_7 (a b c k n : Int) (w : World) (k0 : 0 ≤ k) (k1 : k ≤ 4294967295) :
    Calls Try.prog 47 #[.agg #[.int .i64 7, .int .i64 a, .int .i64 b, .int .i64 c, .int .u32 k], .int .i64 n] w fun e w' => e = .returned (.bool (mayB ⟨7, a, b, c, k⟩ n)) ∧ Below w.heap.size w w' := by
  have e : mayB ⟨7, a, b, c, k⟩ n = (regB a true && (regB b true && (regB c true && (k == 0)))) := by
    show (true && (regB a true && (regB b true && (regB c true && conB 7 k false n)))) = _
    rw [con_off]
    rfl
  rw [e]
  clear e
  obtain ⟨vha, ha⟩ : ∃ v, v = regB a true := ⟨_, rfl⟩
  obtain ⟨vhb, hb⟩ : ∃ v, v = regB b true := ⟨_, rfl⟩
  obtain ⟨vhc, hc⟩ : ∃ v, v = regB c true := ⟨_, rfl⟩
  obtain ⟨vhk, hk⟩ : ∃ v, v = (k == 0) := ⟨_, rfl⟩
  rw [← ha, ← hb, ← hc, ← hk]
  have Hha := Lib.hid ha.symm
  clear ha
  have Hhb := Lib.hid hb.symm
  clear hb
  have Hhc := Lib.hid hc.symm
  clear hc
  replace hk := hk.symm
  cases vha with
  | false =>
    go_enter Try.func47, Try.ntmps47
    go_wp2_with fail
    refine (regR_any _ _ _ Hha.out).mono ?_
    rintro e w' ⟨rfl, rfl⟩
    go_wp2
    go_ret
    exact ⟨rfl, (Below.refl _ _).alloc (Nat.le_refl _) _⟩
  | true =>
    cases vhb with
    | false =>
      go_enter Try.func47, Try.ntmps47
      go_wp2_with fail
      refine (regR_any _ _ _ Hha.out).mono ?_
      rintro e w' ⟨rfl, rfl⟩
      go_wp2_with fail
      refine (regR_any _ _ _ Hhb.out).mono ?_
      rintro e w' ⟨rfl, rfl⟩
      go_wp2
      go_ret
      exact ⟨rfl, (Below.refl _ _).alloc (Nat.le_refl _) _⟩
    | true =>
      cases vhc with
      | false =>
        go_enter Try.func47, Try.ntmps47
        go_wp2_with fail
        refine (regR_any _ _ _ Hha.out).mono ?_
        rintro e w' ⟨rfl, rfl⟩
        go_wp2_with fail
        refine (regR_any _ _ _ Hhb.out).mono ?_
        rintro e w' ⟨rfl, rfl⟩
        go_wp2_with fail
        refine (regR_any _ _ _ Hhc.out).mono ?_
        rintro e w' ⟨rfl, rfl⟩
        go_wp2
        go_ret
        exact ⟨rfl, (Below.refl _ _).alloc (Nat.le_refl _) _⟩
      | true =>
        cases vhk with
        | false =>
          go_enter Try.func47, Try.ntmps47
          go_wp2_with fail
          refine (regR_any _ _ _ Hha.out).mono ?_
          rintro e w' ⟨rfl, rfl⟩
          go_wp2_with fail
          refine (regR_any _ _ _ Hhb.out).mono ?_
          rintro e w' ⟨rfl, rfl⟩
          go_wp2_with fail
          refine (regR_any _ _ _ Hhc.out).mono ?_
          rintro e w' ⟨rfl, rfl⟩
          go_wp2
          go_ret
          exact ⟨rfl, (Below.refl _ _).alloc (Nat.le_refl _) _⟩
        | true =>
          go_enter Try.func47, Try.ntmps47
          go_wp2_with fail
          refine (regR_any _ _ _ Hha.out).mono ?_
          rintro e w' ⟨rfl, rfl⟩
          go_wp2_with fail
          refine (regR_any _ _ _ Hhb.out).mono ?_
          rintro e w' ⟨rfl, rfl⟩
          go_wp2_with fail
          refine (regR_any _ _ _ Hhc.out).mono ?_
          rintro e w' ⟨rfl, rfl⟩
          go_wp2
          go_ret
          exact ⟨rfl, (Below.refl _ _).alloc (Nat.le_refl _) _⟩

set_option maxRecDepth 100000 in
set_option maxHeartbeats 2000000 in
theorem mayR_8 (a b c k n : Int) (w : World) (k0 : 0 ≤ k) (k1 : k ≤ 4294967295) :
    Calls Try.prog 47 #[.agg #[.int .i64 8, .int .i64 a, .int .i64 b, .int .i64 c, .int .u32 k], .int .i64 n] w fun e w' => e = .returned (.bool (mayB ⟨8, a, b, c, k⟩ n)) ∧ Below w.heap.size w w' := by
  have e : mayB ⟨8, a, b, c, k⟩ n = (regB a true && (regB b true && (regB c true && (k == 0)))) := by
    show (true && (regB a true && (regB b true && (regB c true && conB 8 k false n)))) = _
    rw [con_off]
    rfl
  rw [e]
  clear e
  obtain ⟨vha, ha⟩ : ∃ v, v = regB a true := ⟨_, rfl⟩
  obtain ⟨vhb, hb⟩ : ∃ v, v = regB b true := ⟨_, rfl⟩
  obtain ⟨vhc, hc⟩ : ∃ v, v = regB c true := ⟨_, rfl⟩
  obtain ⟨vhk, hk⟩ : ∃ v, v = (k == 0) := ⟨_, rfl⟩
  rw [← ha, ← hb, ← hc, ← hk]
  have Hha := Lib.hid ha.symm
  clear ha
  have Hhb := Lib.hid hb.symm
  clear hb
  have Hhc := Lib.hid hc.symm
  clear hc
  replace hk := hk.symm
  cases vha with
  | false =>
    go_enter Try.func47, Try.ntmps47
    go_wp2_with fail
    refine (regR_any _ _ _ Hha.out).mono ?_
    rintro e w' ⟨rfl, rfl⟩
    go_wp2
    go_ret
    exact ⟨rfl, (Below.refl _ _).alloc (Nat.le_refl _) _⟩
  | true =>
    cases vhb with
    | false =>
      go_enter Try.func47, Try.ntmps47
      go_wp2_with fail
      refine (regR_any _ _ _ Hha.out).mono ?_
      rintro e w' ⟨rfl, rfl⟩
      go_wp2_with fail
      refine (regR_any _ _ _ Hhb.out).mono ?_
      rintro e w' ⟨rfl, rfl⟩
      go_wp2
      go_ret
      exact ⟨rfl, (Below.refl _ _).alloc (Nat.le_refl _) _⟩
    | true =>
      cases vhc with
      | false =>
        go_enter Try.func47, Try.ntmps47
        go_wp2_with fail
        refine (regR_any _ _ _ Hha.out).mono ?_
        rintro e w' ⟨rfl, rfl⟩
        go_wp2_with fail
        refine (regR_any _ _ _ Hhb.out).mono ?_
        rintro e w' ⟨rfl, rfl⟩
        go_wp2_with fail
        refine (regR_any _ _ _ Hhc.out).mono ?_
        rintro e w' ⟨rfl, rfl⟩
        go_wp2
        go_ret
        exact ⟨rfl, (Below.refl _ _).alloc (Nat.le_refl _) _⟩
      | true =>
        cases vhk with
        | false =>
          go_enter Try.func47, Try.ntmps47
          go_wp2_with fail
          refine (regR_any _ _ _ Hha.out).mono ?_
          rintro e w' ⟨rfl, rfl⟩
          go_wp2_with fail
          refine (regR_any _ _ _ Hhb.out).mono ?_
          rintro e w' ⟨rfl, rfl⟩
          go_wp2_with fail
          refine (regR_any _ _ _ Hhc.out).mono ?_
          rintro e w' ⟨rfl, rfl⟩
          go_wp2
          go_ret
          exact ⟨rfl, (Below.refl _ _).alloc (Nat.le_refl _) _⟩
        | true =>
          go_enter Try.func47, Try.ntmps47
          go_wp2_with fail
          refine (regR_any _ _ _ Hha.out).mono ?_
          rintro e w' ⟨rfl, rfl⟩
          go_wp2_with fail
          refine (regR_any _ _ _ Hhb.out).mono ?_
          rintro e w' ⟨rfl, rfl⟩
          go_wp2_with fail
          refine (regR_any _ _ _ Hhc.out).mono ?_
          rintro e w' ⟨rfl, rfl⟩
          go_wp2
          go_ret
          exact ⟨rfl, (Below.refl _ _).alloc (Nat.le_refl _) _⟩
end Go.Proofs.Ytekiialhljfglaa
/- What the reference's May answers for the operations 9, 10, 11, 12; it writes nothing that was there. -/
namespace Go.Proofs.Ytekiialhljfglaa
open Go.ChangeShapes Go.WideShapes Go.ChangeAt Go.RowKit

set_option maxRecDepth 100000 in
set_option maxHeartbeats 2000000 in
theorem mayR_9 (a b c k n : Int) (w : World) (k0 : 0 ≤ k) (k1 : k ≤ 4294967295) :
    Calls Try.prog 47 #[.agg #[.int .i64 9, .int .i64 a, .int .i64 b, .int .i64 c, .int .u32 k], .int .i64 n] w fun e w' => e = .returned (.bool (mayB ⟨9, a, b, c, k⟩ n)) ∧ Below w.heap.size w w' := by
  have e : mayB ⟨9, a, b, c, k⟩ n = (regB a true && (regB b true && ((c == 0) && (k == 0)))) := by
    show (true && (regB a true && (regB b true && (regB c false && conB 9 k false n)))) = _
    rw [reg_off c, con_off]
    rfl
  rw [e]
  clear e
  obtain ⟨vha, ha⟩ : ∃ v, v = regB a true := ⟨_, rfl⟩
  obtain ⟨vhb, hb⟩ : ∃ v, v = regB b true := ⟨_, rfl⟩
  obtain ⟨vhc, hc⟩ : ∃ v, v = (c == 0) := ⟨_, rfl⟩
  obtain ⟨vhk, hk⟩ : ∃ v, v = (k == 0) := ⟨_, rfl⟩
  rw [← ha, ← hb, ← hc, ← hk]
  have Hha := Lib.hid ha.symm
  clear ha
  have Hhb := Lib.hid hb.symm
  clear hb
  replace hc := hc.symm
  replace hk := hk.symm
  cases vha with
  | false =>
    go_enter Try.func47, Try.ntmps47
    go_wp2_with fail
    refine (regR_any _ _ _ Hha.out).mono ?_
    rintro e w' ⟨rfl, rfl⟩
    go_wp2
    go_ret
    exact ⟨rfl, (Below.refl _ _).alloc (Nat.le_refl _) _⟩
  | true =>
    cases vhb with
    | false =>
      go_enter Try.func47, Try.ntmps47
      go_wp2_with fail
      refine (regR_any _ _ _ Hha.out).mono ?_
      rintro e w' ⟨rfl, rfl⟩
      go_wp2_with fail
      refine (regR_any _ _ _ Hhb.out).mono ?_
      rintro e w' ⟨rfl, rfl⟩
      go_wp2
      go_ret
      exact ⟨rfl, (Below.refl _ _).alloc (Nat.le_refl _) _⟩
    | true =>
      cases vhc with
      | false =>
        go_enter Try.func47, Try.ntmps47
        go_wp2_with fail
        refine (regR_any _ _ _ Hha.out).mono ?_
        rintro e w' ⟨rfl, rfl⟩
        go_wp2_with fail
        refine (regR_any _ _ _ Hhb.out).mono ?_
        rintro e w' ⟨rfl, rfl⟩
        go_wp2
        go_ret
        exact ⟨rfl, (Below.refl _ _).alloc (Nat.le_refl _) _⟩
      | true =>
        cases vhk with
        | false =>
          go_enter Try.func47, Try.ntmps47
          go_wp2_with fail
          refine (regR_any _ _ _ Hha.out).mono ?_
          rintro e w' ⟨rfl, rfl⟩
          go_wp2_with fail
          refine (regR_any _ _ _ Hhb.out).mono ?_
          rintro e w' ⟨rfl, rfl⟩
          go_wp2
          go_ret
          exact ⟨rfl, (Below.refl _ _).alloc (Nat.le_refl _) _⟩
        | true =>
          go_enter Try.func47, Try.ntmps47
          go_wp2_with fail
          refine (regR_any _ _ _ Hha.out).mono ?_
          rintro e w' ⟨rfl, rfl⟩
          go_wp2_with fail
          refine (regR_any _ _ _ Hhb.out).mono ?_
          rintro e w' ⟨rfl, rfl⟩
          go_wp2
          go_ret
          exact ⟨rfl, (Below.refl _ _).alloc (Nat.le_refl _) _⟩

set_option maxRecDepth 100000 in
set_option maxHeartbeats 2000000 in
theorem mayR_10 (a b c k n : Int) (w : World) (k0 : 0 ≤ k) (k1 : k ≤ 4294967295) :
    Calls Try.prog 47 #[.agg #[.int .i64 10, .int .i64 a, .int .i64 b, .int .i64 c, .int .u32 k], .int .i64 n] w fun e w' => e = .returned (.bool (mayB ⟨10, a, b, c, k⟩ n)) ∧ Below w.heap.size w w' := by
  have e : mayB ⟨10, a, b, c, k⟩ n = (regB a true && (regB b true && ((c == 0) && (k == 0)))) := by
    show (true && (regB a true && (regB b true && (regB c false && conB 10 k false n)))) = _
    rw [reg_off c, con_off]
    rfl
  rw [e]
  clear e
  obtain ⟨vha, ha⟩ : ∃ v, v = regB a true := ⟨_, rfl⟩
  obtain ⟨vhb, hb⟩ : ∃ v, v = regB b true := ⟨_, rfl⟩
  obtain ⟨vhc, hc⟩ : ∃ v, v = (c == 0) := ⟨_, rfl⟩
  obtain ⟨vhk, hk⟩ : ∃ v, v = (k == 0) := ⟨_, rfl⟩
  rw [← ha, ← hb, ← hc, ← hk]
  have Hha := Lib.hid ha.symm
  clear ha
  have Hhb := Lib.hid hb.symm
  clear hb
  replace hc := hc.symm
  replace hk := hk.symm
  cases vha with
  | false =>
    go_enter Try.func47, Try.ntmps47
    go_wp2_with fail
    refine (regR_any _ _ _ Hha.out).mono ?_
    rintro e w' ⟨rfl, rfl⟩
    go_wp2
    go_ret
    exact ⟨rfl, (Below.refl _ _).alloc (Nat.le_refl _) _⟩
  | true =>
    cases vhb with
    | false =>
      go_enter Try.func47, Try.ntmps47
      go_wp2_with fail
      refine (regR_any _ _ _ Hha.out).mono ?_
      rintro e w' ⟨rfl, rfl⟩
      go_wp2_with fail
      refine (regR_any _ _ _ Hhb.out).mono ?_
      rintro e w' ⟨rfl, rfl⟩
      go_wp2
      go_ret
      exact ⟨rfl, (Below.refl _ _).alloc (Nat.le_refl _) _⟩
    | true =>
      cases vhc with
      | false =>
        go_enter Try.func47, Try.ntmps47
        go_wp2_with fail
        refine (regR_any _ _ _ Hha.out).mono ?_
        rintro e w' ⟨rfl, rfl⟩
        go_wp2_with fail
        refine (regR_any _ _ _ Hhb.out).mono ?_
        rintro e w' ⟨rfl, rfl⟩
        go_wp2
        go_ret
        exact ⟨rfl, (Below.refl _ _).alloc (Nat.le_refl _) _⟩
      | true =>
        cases vhk with
        | false =>
          go_enter Try.func47, Try.ntmps47
          go_wp2_with fail
          refine (regR_any _ _ _ Hha.out).mono ?_
          rintro e w' ⟨rfl, rfl⟩
          go_wp2_with fail
          refine (regR_any _ _ _ Hhb.out).mono ?_
          rintro e w' ⟨rfl, rfl⟩
          go_wp2
          go_ret
          exact ⟨rfl, (Below.refl _ _).alloc (Nat.le_refl _) _⟩
        | true =>
          go_enter Try.func47, Try.ntmps47
          go_wp2_with fail
          refine (regR_any _ _ _ Hha.out).mono ?_
          rintro e w' ⟨rfl, rfl⟩
          go_wp2_with fail
          refine (regR_any _ _ _ Hhb.out).mono ?_
          rintro e w' ⟨rfl, rfl⟩
          go_wp2
          go_ret
          exact ⟨rfl, (Below.refl _ _).alloc (Nat.le_refl _) _⟩

set_option maxRecDepth 100000 in
set_option maxHeartbeats 2000000 in
theorem mayR_11 (a b c k n : Int) (w : World) (k0 : 0 ≤ k) (k1 : k ≤ 4294967295) :
    Calls Try.prog 47 #[.agg #[.int .i64 11, .int .i64 a, .int .i64 b, .int .i64 c, .int .u32 k], .int .i64 n] w fun e w' => e = .returned (.bool (mayB ⟨11, a, b, c, k⟩ n)) ∧ Below w.heap.size w w' := by
  have e : mayB ⟨11, a, b, c, k⟩ n = (regB a true && (regB b true && (regB c true && (k == 0)))) := by
    show (true && (regB a true && (regB b true && (regB c true && conB 11 k false n)))) = _
    rw [con_off]
    rfl
  rw [e]
  clear e
  obtain ⟨vha, ha⟩ : ∃ v, v = regB a true := ⟨_, rfl⟩
  obtain ⟨vhb, hb⟩ : ∃ v, v = regB b true := ⟨_, rfl⟩
  obtain ⟨vhc, hc⟩ : ∃ v, v = regB c true := ⟨_, rfl⟩
  obtain ⟨vhk, hk⟩ : ∃ v, v = (k == 0) := ⟨_, rfl⟩
  rw [← ha, ← hb, ← hc, ← hk]
  have Hha := Lib.hid ha.symm
  clear ha
  have Hhb := Lib.hid hb.symm
  clear hb
  have Hhc := Lib.hid hc.symm
  clear hc
  replace hk := hk.symm
  cases vha with
  | false =>
    go_enter Try.func47, Try.ntmps47
    go_wp2_with fail
    refine (regR_any _ _ _ Hha.out).mono ?_
    rintro e w' ⟨rfl, rfl⟩
    go_wp2
    go_ret
    exact ⟨rfl, (Below.refl _ _).alloc (Nat.le_refl _) _⟩
  | true =>
    cases vhb with
    | false =>
      go_enter Try.func47, Try.ntmps47
      go_wp2_with fail
      refine (regR_any _ _ _ Hha.out).mono ?_
      rintro e w' ⟨rfl, rfl⟩
      go_wp2_with fail
      refine (regR_any _ _ _ Hhb.out).mono ?_
      rintro e w' ⟨rfl, rfl⟩
      go_wp2
      go_ret
      exact ⟨rfl, (Below.refl _ _).alloc (Nat.le_refl _) _⟩
    | true =>
      cases vhc with
      | false =>
        go_enter Try.func47, Try.ntmps47
        go_wp2_with fail
        refine (regR_any _ _ _ Hha.out).mono ?_
        rintro e w' ⟨rfl, rfl⟩
        go_wp2_with fail
        refine (regR_any _ _ _ Hhb.out).mono ?_
        rintro e w' ⟨rfl, rfl⟩
        go_wp2_with fail
        refine (regR_any _ _ _ Hhc.out).mono ?_
        rintro e w' ⟨rfl, rfl⟩
        go_wp2
        go_ret
        exact ⟨rfl, (Below.refl _ _).alloc (Nat.le_refl _) _⟩
      | true =>
        cases vhk with
        | false =>
          go_enter Try.func47, Try.ntmps47
          go_wp2_with fail
          refine (regR_any _ _ _ Hha.out).mono ?_
          rintro e w' ⟨rfl, rfl⟩
          go_wp2_with fail
          refine (regR_any _ _ _ Hhb.out).mono ?_
          rintro e w' ⟨rfl, rfl⟩
          go_wp2_with fail
          refine (regR_any _ _ _ Hhc.out).mono ?_
          rintro e w' ⟨rfl, rfl⟩
          go_wp2
          go_ret
          exact ⟨rfl, (Below.refl _ _).alloc (Nat.le_refl _) _⟩
        | true =>
          go_enter Try.func47, Try.ntmps47
          go_wp2_with fail
          refine (regR_any _ _ _ Hha.out).mono ?_
          rintro e w' ⟨rfl, rfl⟩
          go_wp2_with fail
          refine (regR_any _ _ _ Hhb.out).mono ?_
          rintro e w' ⟨rfl, rfl⟩
          go_wp2_with fail
          refine (regR_any _ _ _ Hhc.out).mono ?_
          rintro e w' ⟨rfl, rfl⟩
          go_wp2
          go_ret
          exact ⟨rfl, (Below.refl _ _).alloc (Nat.le_refl _) _⟩

set_option maxRecDepth 100000 in
set_option maxHeartbeats 2000000 in
theorem mayR_12 (a b c k n : Int) (w : World) (k0 : 0 ≤ k) (k1 : k ≤ 4294967295) :
    Calls Try.prog 47 #[.agg #[.int .i64 12, .int .i64 a, .int .i64 b, .int .i64 c, .int .u32 k], .int .i64 n] w fun e w' => e = .returned (.bool (mayB ⟨12, a, b, c, k⟩ n)) ∧ Below w.heap.size w w' := by
  have e : mayB ⟨12, a, b, c, k⟩ n = ((a == 0) && ((b == 0) && ((c == 0) && (k == 0)))) := by
    show (true && (regB a false && (regB b false && (regB c false && conB 12 k false n)))) = _
    rw [reg_off a, reg_off b, reg_off c, con_off]
    rfl
  rw [e]
  clear e
  obtain ⟨vha, ha⟩ : ∃ v, v = (a == 0) := ⟨_, rfl⟩
  obtain ⟨vhb, hb⟩ : ∃ v, v = (b == 0) := ⟨_, rfl⟩
  obtain ⟨vhc, hc⟩ : ∃ v, v = (c == 0) := ⟨_, rfl⟩
  obtain ⟨vhk, hk⟩ : ∃ v, v = (k == 0) := ⟨_, rfl⟩
  rw [← ha, ← hb, ← hc, ← hk]
  replace ha := ha.symm
  replace hb := hb.symm
  replace hc := hc.symm
  replace hk := hk.symm
  cases vha with
  | false =>
    go_enter Try.func47, Try.ntmps47
    go_wp2
    go_ret
    exact ⟨rfl, (Below.refl _ _).alloc (Nat.le_refl _) _⟩
  | true =>
    cases vhb with
    | false =>
      go_enter Try.func47, Try.ntmps47
      go_wp2
      go_ret
      exact ⟨rfl, (Below.refl _ _).alloc (Nat.le_refl _) _⟩
    | true =>
      cases vhc with
      | false =>
        go_enter Try.func47, Try.ntmps47
        go_wp2
        go_ret
        exact ⟨rfl, (Below.refl _ _).alloc (Nat.le_refl _) _⟩
      | true =>
        cases vhk with
        | false =>
          go_enter Try.func47, Try.ntmps47
          go_wp2
          go_ret
          exact ⟨rfl, (Below.refl _ _).alloc (Nat.le_refl _) _⟩
        | true =>
          go_enter Try.func47, Try.ntmps47
          go_wp2
          go_ret
          exact ⟨rfl, (Below.refl _ _).alloc (Nat.le_refl _) _⟩
end Go.Proofs.Ytekiialhljfglaa
