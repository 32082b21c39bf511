/- Laid together, in this order: IsaRefMayD, IsaRefMay, IsaRefRight, CoreRefA, AtomRefA. -/
import Derived.Test.YtekiialhljfglaaZf
/- What the reference's May answers for the operations 13, 14, 15, 16; it writes nothing that was there. -/
namespace Go.Proofs.Ytekiialhljfglaa
open Go.ChangeShapes Go.WideShapes Go.ChangeAt Go.RowKit

set_option maxRecDepth 100000 in
set_option maxHeartbeats 2000000 in
theorem mayR_13 (a b c k n : Int) (w : World) (k0 : 0 ≤ k) (k1 : k ≤ 4294967295) :
    Calls Try.prog 47 #[.agg #[.int .i64 13, .int .i64 a, .int .i64 b, .int .i64 c, .int .u32 k], .int .i64 n] w fun e w' => e = .returned (.bool (mayB ⟨13, a, b, c, k⟩ n)) ∧ Below w.heap.size w w' := by
  have e : mayB ⟨13, a, b, c, k⟩ n = ((a == 0) && ((b == 0) && ((c == 0) && decide (k < n)))) := by
    show (true && (regB a false && (regB b false && (regB c false && conB 13 k true n)))) = _
    rw [reg_off a, reg_off b, reg_off c]
    rw [show conB 13 k true n = decide (k < n) by unfold conB; rw [if_pos rfl, Bool.eq_iff_iff]; simp]
    rfl
  rw [e]
  clear e
  obtain ⟨vha, ha⟩ : ∃ v, v = (a == 0) := ⟨_, rfl⟩
  obtain ⟨vhb, hb⟩ : ∃ v, v = (b == 0) := ⟨_, rfl⟩
  obtain ⟨vhc, hc⟩ : ∃ v, v = (c == 0) := ⟨_, rfl⟩
  obtain ⟨vhk, hk⟩ : ∃ v, v = decide (k < n) := ⟨_, rfl⟩
  rw [← ha, ← hb, ← hc, ← hk]
  replace ha := ha.symm
  replace hb := hb.symm
  replace hc := hc.symm
  have Hhk := Lib.hid hk.symm
  clear hk
  cases vha with
  | false =>
    go_enter Try.func47, Try.ntmps47
    go_wp2
    go_ret
    exact ⟨rfl, (Below.refl _ _).alloc (Nat.le_refl _) _⟩
  | true =>
    cases vhb with
    | false =>
      go_enter Try.func47, Try.ntmps47
      go_wp2
      go_ret
      exact ⟨rfl, (Below.refl _ _).alloc (Nat.le_refl _) _⟩
    | true =>
      cases vhc with
      | false =>
        go_enter Try.func47, Try.ntmps47
        go_wp2
        go_ret
        exact ⟨rfl, (Below.refl _ _).alloc (Nat.le_refl _) _⟩
      | true =>
        cases vhk with
        | false =>
          go_enter Try.func47, Try.ntmps47
          go_wp2_with fail
          refine (goalR_any _ _ _ _ k0 k1 Hhk.out).mono ?_
          rintro e w' ⟨rfl, rfl⟩
          go_wp2
          go_ret
          exact ⟨rfl, (Below.refl _ _).alloc (Nat.le_refl _) _⟩
        | true =>
          go_enter Try.func47, Try.ntmps47
          go_wp2_with fail
          refine (goalR_any _ _ _ _ k0 k1 Hhk.out).mono ?_
          rintro e w' ⟨rfl, rfl⟩
          go_wp2
          go_ret
          exact ⟨rfl, (Below.refl _ _).alloc (Nat.le_refl _) _⟩

set_option maxRecDepth 100000 in
set_option maxHeartbeats 2000000 in
theorem mayR_14 (a b c k n : Int) (w : World) (k0 : 0 ≤ k) (k1 : k ≤ 4294967295) :
    Calls Try.prog 47 #[.agg #[.int .i64 14, .int .i64 a, .int .i64 b, .int .i64 c, .int .u32 k], .int .i64 n] w fun e w' => e = .returned (.bool (mayB ⟨14, a, b, c, k⟩ n)) ∧ Below w.heap.size w w' := by
  have e : mayB ⟨14, a, b, c, k⟩ n = (regB a true && ((b == 0) && ((c == 0) && decide (k < n)))) := by
    show (true && (regB a true && (regB b false && (regB c false && conB 14 k true n)))) = _
    rw [reg_off b, reg_off c]
    rw [show conB 14 k true n = decide (k < n) by unfold conB; rw [if_pos rfl, Bool.eq_iff_iff]; simp]
    rfl
  rw [e]
  clear e
  obtain ⟨vha, ha⟩ : ∃ v, v = regB a true := ⟨_, rfl⟩
  obtain ⟨vhb, hb⟩ : ∃ v, v = (b == 0) := ⟨_, rfl⟩
  obtain ⟨vhc, hc⟩ : ∃ v, v = (c == 0) := ⟨_, rfl⟩
  obtain ⟨vhk, hk⟩ : ∃ v, v = decide (k < n) := ⟨_, rfl⟩
  rw [← ha, ← hb, ← hc, ← hk]
  have Hha := Lib.hid ha.symm
  clear ha
  replace hb := hb.symm
  replace hc := hc.symm
  have Hhk := Lib.hid hk.symm
  clear hk
  cases vha with
  | false =>
    go_enter Try.func47, Try.ntmps47
    go_wp2_with fail
    refine (regR_any _ _ _ Hha.out).mono ?_
    rintro e w' ⟨rfl, rfl⟩
    go_wp2
    go_ret
    exact ⟨rfl, (Below.refl _ _).alloc (Nat.le_refl _) _⟩
  | true =>
    cases vhb with
    | false =>
      go_enter Try.func47, Try.ntmps47
      go_wp2_with fail
      refine (regR_any _ _ _ Hha.out).mono ?_
      rintro e w' ⟨rfl, rfl⟩
      go_wp2
      go_ret
      exact ⟨rfl, (Below.refl _ _).alloc (Nat.le_refl _) _⟩
    | true =>
      cases vhc with
      | false =>
        go_enter Try.func47, Try.ntmps47
        go_wp2_with fail
        refine (regR_any _ _ _ Hha.out).mono ?_
        rintro e w' ⟨rfl, rfl⟩
        go_wp2
        go_ret
        exact ⟨rfl, (Below.refl _ _).alloc (Nat.le_refl _) _⟩
      | true =>
        cases vhk with
        | false =>
          go_enter Try.func47, Try.ntmps47
          go_wp2_with fail
          refine (regR_any _ _ _ Hha.out).mono ?_
          rintro e w' ⟨rfl, rfl⟩
          go_wp2_with fail
          refine (goalR_any _ _ _ _ k0 k1 Hhk.out).mono ?_
          rintro e w' ⟨rfl, rfl⟩
          go_wp2
          go_ret
          exact ⟨rfl, (Below.refl _ _).alloc (Nat.le_refl _) _⟩
        | true =>
          go_enter Try.func47, Try.ntmps47
          go_wp2_with fail
          refine (regR_any _ _ _ Hha.out).mono ?_
          rintro e w' ⟨rfl, rfl⟩
          go_wp2_with fail
          refine (goalR_any _ _ _ _ k0 k1 Hhk.out).mono ?_
          rintro e w' ⟨rfl, rfl⟩
          go_wp2
          go_ret
          exact ⟨rfl, (Below.refl _ _).alloc (Nat.le_refl _) _⟩

set_option maxRecDepth 100000 in
set_option maxHeartbeats 2000000 in
theorem mayR_15 (a b c k n : Int) (w : World) (k0 : 0 ≤ k) (k1 : k ≤ 4294967295) :
    Calls Try.prog 47 #[.agg #[.int .i64 15, .int .i64 a, .int .i64 b, .int .i64 c, .int .u32 k], .int .i64 n] w fun e w' => e = .returned (.bool (mayB ⟨15, a, b, c, k⟩ n)) ∧ Below w.heap.size w w' := by
  have e : mayB ⟨15, a, b, c, k⟩ n = (regB a true && ((b == 0) && ((c == 0) && (k == 0)))) := by
    show (true && (regB a true && (regB b false && (regB c false && conB 15 k false n)))) = _
    rw [reg_off b, reg_off c, con_off]
    rfl
  rw [e]
  clear e
  obtain ⟨vha, ha⟩ : ∃ v, v = regB a true := ⟨_, rfl⟩
  obtain ⟨vhb, hb⟩ : ∃ v, v = (b == 0) := ⟨_, rfl⟩
  obtain ⟨vhc, hc⟩ : ∃ v, v = (c == 0) := ⟨_, rfl⟩
  obtain ⟨vhk, hk⟩ : ∃ v, v = (k == 0) := ⟨_, rfl⟩
  rw [← ha, ← hb, ← hc, ← hk]
  have Hha := Lib.hid ha.symm
  clear ha
  replace hb := hb.symm
  replace hc := hc.symm
  replace hk := hk.symm
  cases vha with
  | false =>
    go_enter Try.func47, Try.ntmps47
    go_wp2_with fail
    refine (regR_any _ _ _ Hha.out).mono ?_
    rintro e w' ⟨rfl, rfl⟩
    go_wp2
    go_ret
    exact ⟨rfl, (Below.refl _ _).alloc (Nat.le_refl _) _⟩
  | true =>
    cases vhb with
    | false =>
      go_enter Try.func47, Try.ntmps47
      go_wp2_with fail
      refine (regR_any _ _ _ Hha.out).mono ?_
      rintro e w' ⟨rfl, rfl⟩
      go_wp2
      go_ret
      exact ⟨rfl, (Below.refl _ _).alloc (Nat.le_refl _) _⟩
    | true =>
      cases vhc with
      | false =>
        go_enter Try.func47, Try.ntmps47
        go_wp2_with fail
        refine (regR_any _ _ _ Hha.out).mono ?_
        rintro e w' ⟨rfl, rfl⟩
        go_wp2
        go_ret
        exact ⟨rfl, (Below.refl _ _).alloc (Nat.le_refl _) _⟩
      | true =>
        cases vhk with
        | false =>
          go_enter Try.func47, Try.ntmps47
          go_wp2_with fail
          refine (regR_any _ _ _ Hha.out).mono ?_
          rintro e w' ⟨rfl, rfl⟩
          go_wp2
          go_ret
          exact ⟨rfl, (Below.refl _ _).alloc (Nat.le_refl _) _⟩
        | true =>
          go_enter Try.func47, Try.ntmps47
          go_wp2_with fail
          refine (regR_any _ _ _ Hha.out).mono ?_
          rintro e w' ⟨rfl, rfl⟩
          go_wp2
          go_ret
          exact ⟨rfl, (Below.refl _ _).alloc (Nat.le_refl _) _⟩

set_option maxRecDepth 100000 in
set_option maxHeartbeats 2000000 in
theorem mayR_16 (a b c k n : Int) (w : World) (k0 : 0 ≤ k) (k1 : k ≤ 4294967295) :
    Calls Try.prog 47 #[.agg #[.int .i64 16, .int .i64 a, .int .i64 b, .int .i64 c, .int .u32 k], .int .i64 n] w fun e w' => e = .returned (.bool (mayB ⟨16, a, b, c, k⟩ n)) ∧ Below w.heap.size w w' := by
  have e : mayB ⟨16, a, b, c, k⟩ n = ((a == 0) && ((b == 0) && ((c == 0) && (k == 0)))) := by
    show (true && (regB a false && (regB b false && (regB c false && conB 16 k false n)))) = _
    rw [reg_off a, reg_off b, reg_off c, con_off]
    rfl
  rw [e]
  clear e
  obtain ⟨vha, ha⟩ : ∃ v, v = (a == 0) := ⟨_, rfl⟩
  obtain ⟨vhb, hb⟩ : ∃ v, v = (b == 0) := ⟨_, rfl⟩
  obtain ⟨vhc, hc⟩ : ∃ v, v = (c == 0) := ⟨_, rfl⟩
  obtain ⟨vhk, hk⟩ : ∃ v, v = (k == 0) := ⟨_, rfl⟩
  rw [← ha, ← hb, ← hc, ← hk]
  replace ha := ha.symm
  replace hb := hb.symm
  replace hc := hc.symm
  replace hk := hk.symm
  cases vha with
  | false =>
    go_enter Try.func47, Try.ntmps47
    go_wp2
    go_ret
    exact ⟨rfl, (Below.refl _ _).alloc (Nat.le_refl _) _⟩
  | true =>
    cases vhb with
    | false =>
      go_enter Try.func47, Try.ntmps47
      go_wp2
      go_ret
      exact ⟨rfl, (Below.refl _ _).alloc (Nat.le_refl _) _⟩
    | true =>
      cases vhc with
      | false =>
        go_enter Try.func47, Try.ntmps47
        go_wp2
        go_ret
        exact ⟨rfl, (Below.refl _ _).alloc (Nat.le_refl _) _⟩
      | true =>
        cases vhk with
        | false =>
          go_enter Try.func47, Try.ntmps47
          go_wp2
          go_ret
          exact ⟨rfl, (Below.refl _ _).alloc (Nat.le_refl _) _⟩
        | true =>
          go_enter Try.func47, Try.ntmps47
          go_wp2
          go_ret
          exact ⟨rfl, (Below.refl _ _).alloc (Nat.le_refl _) _⟩

set_option maxRecDepth 100000 in
set_option maxHeartbeats 2000000 in
theorem mayR_out (op a b c k n : Int) (w : World) (h : op < 1 ∨ 16 < op) :
    Calls Try.prog 47 #[.agg #[.int .i64 op, .int .i64 a, .int .i64 b, .int .i64 c, .int .u32 k], .int .i64 n] w fun e w' => e = .returned (.bool (mayB ⟨op, a, b, c, k⟩ n)) ∧ Below w.heap.size w w' := by
  have e : mayB ⟨op, a, b, c, k⟩ n = false := by unfold mayB; rw [isOp_out h]; rfl
  rw [e]
  clear e
  have e1 := neq_out h 1 (by omega) (by omega)
  have e2 := neq_out h 2 (by omega) (by omega)
  have e3 := neq_out h 3 (by omega) (by omega)
  have e4 := neq_out h 4 (by omega) (by omega)
  have e5 := neq_out h 5 (by omega) (by omega)
  have e6 := neq_out h 6 (by omega) (by omega)
  have e7 := neq_out h 7 (by omega) (by omega)
  have e8 := neq_out h 8 (by omega) (by omega)
  have e9 := neq_out h 9 (by omega) (by omega)
  have e10 := neq_out h 10 (by omega) (by omega)
  have e11 := neq_out h 11 (by omega) (by omega)
  have e12 := neq_out h 12 (by omega) (by omega)
  have e13 := neq_out h 13 (by omega) (by omega)
  have e14 := neq_out h 14 (by omega) (by omega)
  have e15 := neq_out h 15 (by omega) (by omega)
  have e16 := neq_out h 16 (by omega) (by omega)
  clear h
  go_enter Try.func47, Try.ntmps47
  go_wp2
  go_ret
  exact ⟨rfl, (Below.refl _ _).alloc (Nat.le_refl _) _⟩
end Go.Proofs.Ytekiialhljfglaa
/- What the reference's May answers, for every instruction and however many: what isa.May answers; it writes nothing that was there. -/
namespace Go.Proofs.Ytekiialhljfglaa
open Go.ChangeShapes Go.WideShapes Go.ChangeAt Go.RowKit

theorem mayR_any (x : I5) (n : Int) (w : World) (hk0 : 0 ≤ x.k) (hk1 : x.k ≤ 4294967295) :
    Calls Try.prog 47 #[.agg x.row, .int .i64 n] w fun e w' => e = .returned (.bool (mayB x n)) ∧ Below w.heap.size w w' := by
  obtain ⟨op, a, b, c, k⟩ := x
  rcases op_cases op with rfl | rfl | rfl | rfl | rfl | rfl | rfl | rfl | rfl | rfl | rfl | rfl | rfl | rfl | rfl | rfl | h
  · exact mayR_1 a b c k n w hk0 hk1
  · exact mayR_2 a b c k n w hk0 hk1
  · exact mayR_3 a b c k n w hk0 hk1
  · exact mayR_4 a b c k n w hk0 hk1
  · exact mayR_5 a b c k n w hk0 hk1
  · exact mayR_6 a b c k n w hk0 hk1
  · exact mayR_7 a b c k n w hk0 hk1
  · exact mayR_8 a b c k n w hk0 hk1
  · exact mayR_9 a b c k n w hk0 hk1
  · exact mayR_10 a b c k n w hk0 hk1
  · exact mayR_11 a b c k n w hk0 hk1
  · exact mayR_12 a b c k n w hk0 hk1
  · exact mayR_13 a b c k n w hk0 hk1
  · exact mayR_14 a b c k n w hk0 hk1
  · exact mayR_15 a b c k n w hk0 hk1
  · exact mayR_16 a b c k n w hk0 hk1
  · exact mayR_out op a b c k n w h
end Go.Proofs.Ytekiialhljfglaa
/- What the reference's Right, All and Short answer: for every program what isa.Right answers, for every list of programs what isa.All answers; they write nothing that was there. -/
namespace Go.Proofs.Ytekiialhljfglaa
open Go.ChangeShapes Go.WideShapes Go.ChangeAt Go.RowKit

theorem rightR_few_any (p : Option Addr) (len cap : Nat) (w : World) (h : len < 1 ∨ 64 < len) :
    Calls Try.prog 41 #[.slice p len cap] w fun e w' => e = .returned (.bool false) ∧ Below w.heap.size w w' := by
  rcases h with h | h
  · have d1 : ((len : Int) == 0) = true := by simp; omega
    go_enter Try.func41, Try.ntmps41
    go_wp2
    go_ret
    exact ⟨rfl, Below.refl _ _⟩
  · have d1 : ((len : Int) == 0) = false := by simp; omega
    have d2 : decide (64 < (len : Int)) = true := decide_eq_true (by omega)
    go_enter Try.func41, Try.ntmps41
    go_wp2
    go_ret
    exact ⟨rfl, Below.refl _ _⟩

set_option maxHeartbeats 1000000 in
theorem rightR_loop_any (b off len cap : Nat) (l : List I5) (w : World) (hl : l.length = len) (h1 : 1 ≤ len) (h2 : len ≤ 64) (hlt : b < w.heap.size) (hx : ∀ i, i < len → Lies w b (off + i * 5) (at5 l i)) :
    Calls Try.prog 41 #[.slice (some ⟨b, off, none⟩) len cap] w fun e w' => e = .returned (.bool (rightB l)) ∧ Below w.heap.size w w' := by
  have HL := Lib.hid hl
  have HX := Lib.hid hx
  clear hx hl
  have d1 : ((len : Int) == 0) = false := by simp; omega
  have d2 : decide (64 < (len : Int)) = false := decide_eq_false (by omega)
  go_enter Try.func41, Try.ntmps41
  go_wp2_with fail
  go_loopw [3] (fun i wr => ∃ k : Nat, k ≤ len ∧ i = .int .i64 k ∧ (∀ j, j < k → mayB (at5 l j) len = true) ∧ Below w.heap.size w wr) (fun i _ => len - (intOf i).toNat)
  case atStart => exact ⟨0, Nat.zero_le _, rfl, fun j hj => absurd hj (by omega), Below.refl _ _⟩
  case round =>
    obtain ⟨i, hi, rfl, hall, hbel⟩ := hrel
    have HA := Lib.hid hall
    have HBE := Lib.hid hbel
    clear hall hbel
    by_cases hlt' : i < len
    · have hl5 := ((HX.out) i hlt').below HBE.out hlt
      obtain ⟨op, a, bb, c, k, hat⟩ : ∃ op a bb c k, at5 l i = ⟨op, a, bb, c, k⟩ := ⟨_, _, _, _, _, rfl⟩
      rw [hat] at hl5
      have HAT := Lib.hid hat
      clear hat
      obtain ⟨c0, c1, c2, c3, c4, g0, g1⟩ := hl5
      go_wp2_with fail
      refine (mayR_any ⟨op, a, bb, c, k⟩ _ _ g0 g1).mono ?_
      rintro e w2 ⟨rfl, hb2⟩
      rw [← HAT.out]
      have HB2 := Lib.hid (HBE.out.trans (hb2.mono HBE.out.size))
      clear hb2 c0 c1 c2 c3 c4
      cases hm : mayB (at5 l i) len with
      | true =>
        have HM := Lib.hid hm
        go_wp2
        go_roundw
        case rel =>
          refine ⟨i + 1, by omega, by go_num, fun j hj => ?_, HB2.out⟩
          by_cases hji : j = i
          · rw [hji]; exact HM.out
          · exact HA.out j (by omega)
        case measure => simp [intOf]; omega
      | false =>
        have HM := Lib.hid hm
        go_wp2
        go_ret
        refine ⟨?_, HB2.out⟩
        rw [right_not (l := l) (i := i) (by rw [HL.out]; exact hlt') (by rw [HL.out]; exact HM.out)]
        rfl
    · have hl5 := ((HX.out) (len - 1) (by omega)).below HBE.out hlt
      have HE : Hid (rightB l = endB (at5 l (len - 1))) := by
        cases he : endB (at5 l (len - 1)) with
        | true => exact right_yes (l := l) (by rw [HL.out]; exact h1) (by rw [HL.out]; exact h2) (by rw [HL.out]; exact he) (fun j hj => by rw [HL.out] at hj ⊢; exact HA.out j (by omega))
        | false => exact right_end (l := l) (by rw [HL.out]; exact he)
      obtain ⟨op, a, bb, c, k, hat⟩ : ∃ op a bb c k, at5 l (len - 1) = ⟨op, a, bb, c, k⟩ := ⟨_, _, _, _, _, rfl⟩
      rw [hat] at hl5 HE
      clear hat
      obtain ⟨c0, _, _, _, _, _, _⟩ := hl5
      by_cases h16 : op = 16
      · have HF : Hid (rightB l = true) := HE.out.trans (decide_eq_true (Or.inl h16))
        have q : (op == 16) = true := by simpa using h16
        clear h16 HE
        go_wp2
        go_ret
        refine ⟨?_, HBE.out⟩
        rw [HF.out]
        rfl
      · have HF : Hid (rightB l = (op == 13)) := HE.out.trans (by unfold endB; rw [Bool.eq_iff_iff]; simp [h16])
        have q : (op == 16) = false := by simpa using h16
        clear h16 HE
        go_wp2
        go_ret
        refine ⟨?_, HBE.out⟩
        rw [HF.out]
        rfl

theorem rightR_any (p : Option Addr) (cap : Nat) (l : List I5) (w : World) (h : Prg w p l) :
    Calls Try.prog 41 #[.slice p l.length cap] w fun e w' => e = .returned (.bool (rightB l)) ∧ Below w.heap.size w w' := by
  by_cases h0 : l.length < 1 ∨ 64 < l.length
  · rw [right_few h0]
    exact rightR_few_any p _ cap w h0
  · obtain ⟨b, off, hlt, rfl, hx⟩ := h (by omega)
    exact rightR_loop_any b off _ cap l w rfl (by omega) (by omega) hlt hx

set_option maxHeartbeats 1000000 in
theorem allR_loop_any (b off len cap : Nat) (ls : List (List I5)) (w : World) (hl : ls.length = len) (h1 : 1 ≤ len) (h2 : len ≤ 6) (hlt : b < w.heap.size)
    (hx : ∀ i, i < len → ∃ q cap, w.cell? ⟨b, off + i, none⟩ = some (.slice q (atP ls i).length cap) ∧ Prg w q (atP ls i)) :
    Calls Try.prog 29 #[.slice (some ⟨b, off, none⟩) len cap] w fun e w' => e = .returned (.bool (allB ls)) ∧ Below w.heap.size w w' := by
  have HL := Lib.hid hl
  have HX := Lib.hid hx
  clear hx hl
  go_enter Try.func29, Try.ntmps29
  go_wp2_with fail
  go_loopw [3] (fun i wr => ∃ k : Nat, k ≤ len ∧ k ≤ 4 ∧ i = .int .i64 k ∧ (∀ j, j < k → rightB (atP ls j) = true) ∧ Below w.heap.size w wr) (fun i _ => len - (intOf i).toNat)
  case atStart => exact ⟨0, Nat.zero_le _, Nat.zero_le _, rfl, fun j hj => absurd hj (by omega), Below.refl _ _⟩
  case round =>
    obtain ⟨i, hi, hi4, rfl, hall, hbel⟩ := hrel
    have HA := Lib.hid hall
    have HBE := Lib.hid hbel
    clear hall hbel
    by_cases hlt' : i < len
    · by_cases h4 : i = 4
      · have d3 : decide (3 < (i : Int)) = true := decide_eq_true (by omega)
        have HF : Hid (allB ls = false) := all_few (Or.inr (by rw [HL.out]; omega))
        clear h4
        go_wp2
        go_ret
        refine ⟨?_, HBE.out⟩
        rw [HF.out]
        rfl
      · have d3 : decide (3 < (i : Int)) = false := decide_eq_false (by omega)
        obtain ⟨q, qc, hcell, hprg⟩ := HX.out i hlt'
        have hc := (HBE.out.cell (p := ⟨b, off + i, none⟩) hlt).trans hcell
        have HP := Lib.hid (hprg.below HBE.out)
        clear hcell hprg
        obtain ⟨n, hn⟩ : ∃ n, n = (atP ls i).length := ⟨_, rfl⟩
        rw [← hn] at hc
        have HN := Lib.hid hn
        have h4' : i < 4 := by omega
        clear hn h4
        go_wp2_with fail
        rw [HN.out]
        refine (rightR_any _ _ _ _ HP.out).mono ?_
        rintro e w2 ⟨rfl, hb2⟩
        have HB2 := Lib.hid (HBE.out.trans (hb2.mono HBE.out.size))
        clear hb2 hc
        rw [← HN.out]
        cases hm : rightB (atP ls i) with
        | true =>
          have HM := Lib.hid hm
          go_wp2
          go_roundw
          case rel =>
            refine ⟨i + 1, by omega, by omega, by go_num, fun j hj => ?_, HB2.out⟩
            by_cases hji : j = i
            · rw [hji]; exact HM.out
            · exact HA.out j (by omega)
          case measure => simp [intOf]; omega
        | false =>
          have HM := Lib.hid hm
          go_wp2
          go_ret
          refine ⟨?_, HB2.out⟩
          rw [all_not (l := ls) (i := i) (by rw [HL.out]; exact hlt') HM.out]
          rfl
    · have d4 : decide (0 < len) = true := decide_eq_true (by omega)
      go_wp2
      go_ret
      refine ⟨?_, HBE.out⟩
      rw [all_yes (l := ls) (by rw [HL.out]; exact h1) (by rw [HL.out]; omega) (fun j hj => by rw [HL.out] at hj; exact HA.out j (by omega))]
      rfl

theorem allR_none_any (p : Option Addr) (cap : Nat) (w : World) :
    Calls Try.prog 29 #[.slice p 0 cap] w fun e w' => e = .returned (.bool false) ∧ Below w.heap.size w w' := by
  go_enter Try.func29, Try.ntmps29
  go_wp2_with fail
  go_loopw [3] (fun i wr => i = .int .i64 0 ∧ w = wr) (fun _ _ => 0)
  case atStart => exact ⟨rfl, rfl⟩
  case round =>
    obtain ⟨rfl, rfl⟩ := hrel
    go_wp2
    go_ret
    exact ⟨rfl, Below.refl _ _⟩

theorem allR_any (p : Option Addr) (cap : Nat) (ls : List (List I5)) (w : World) (h2 : ls.length ≤ 6) (h : Prgs w p ls) :
    Calls Try.prog 29 #[.slice p ls.length cap] w fun e w' => e = .returned (.bool (allB ls)) ∧ Below w.heap.size w w' := by
  by_cases h0 : ls.length = 0
  · rw [all_few (Or.inl (by omega)), h0]
    exact allR_none_any p cap w
  · obtain ⟨b, off, hlt, rfl, hx⟩ := h (by omega)
    exact allR_loop_any b off _ cap ls w rfl (by omega) h2 hlt hx

theorem short_many_any (p : Option Addr) (len cap : Nat) (w : World) (h : 6 < len) :
    Calls Try.prog 8 #[.slice p len cap] w fun e w' => e = .returned (.bool false) ∧ w = w' := by
  have d1 : decide (6 < (len : Int)) = true := decide_eq_true (by omega)
  go_enter Try.func8, Try.ntmps8
  go_wp2
  go_ret
  exact ⟨rfl, rfl⟩

theorem short_none_any (p : Option Addr) (cap : Nat) (w : World) :
    Calls Try.prog 8 #[.slice p 0 cap] w fun e w' => e = .returned (.bool true) ∧ w = w' := by
  go_enter Try.func8, Try.ntmps8
  go_wp2_with fail
  go_loopw [3] (fun i wr => i = .int .i64 0 ∧ w = wr) (fun _ _ => 0)
  case atStart => exact ⟨rfl, rfl⟩
  case round =>
    obtain ⟨rfl, rfl⟩ := hrel
    go_wp2
    go_ret
    exact ⟨rfl, rfl⟩

set_option maxHeartbeats 1000000 in
theorem short_loop_any (b off len cap : Nat) (ls : List (List I5)) (w : World) (hl : ls.length = len) (h2 : len ≤ 6)
    (hx : ∀ i, i < len → ∃ q cap, w.cell? ⟨b, off + i, none⟩ = some (.slice q (atP ls i).length cap) ∧ Prg w q (atP ls i)) :
    Calls Try.prog 8 #[.slice (some ⟨b, off, none⟩) len cap] w fun e w' => e = .returned (.bool (shortB ls)) ∧ w = w' := by
  have HL := Lib.hid hl
  have HX := Lib.hid hx
  clear hx hl
  have d1 : decide (6 < (len : Int)) = false := decide_eq_false (by omega)
  go_enter Try.func8, Try.ntmps8
  go_wp2_with fail
  go_loopw [3] (fun i wr => ∃ k : Nat, k ≤ len ∧ i = .int .i64 k ∧ (∀ j, j < k → (atP ls j).length ≤ 80) ∧ w = wr) (fun i _ => len - (intOf i).toNat)
  case atStart => exact ⟨0, Nat.zero_le _, rfl, fun j hj => absurd hj (by omega), rfl⟩
  case round =>
    obtain ⟨i, hi, rfl, hall, rfl⟩ := hrel
    have HA := Lib.hid hall
    clear hall
    by_cases hlt' : i < len
    · obtain ⟨q, qc, hcell, _⟩ := HX.out i hlt'
      obtain ⟨n, hn⟩ : ∃ n, n = (atP ls i).length := ⟨_, rfl⟩
      rw [← hn] at hcell
      have HN := Lib.hid hn
      clear hn
      by_cases h80 : 80 < n
      · have d3 : decide (80 < (n : Int)) = true := decide_eq_true (by omega)
        go_wp2
        go_ret
        refine ⟨?_, rfl⟩
        rw [short_not (l := ls) (i := i) (by rw [HL.out]; exact hlt') (by rw [← HN.out]; exact h80)]
        rfl
      · have d3 : decide (80 < (n : Int)) = false := decide_eq_false (by omega)
        go_wp2
        go_roundw
        case rel =>
          refine ⟨i + 1, by omega, by go_num, fun j hj => ?_, trivial⟩
          by_cases hji : j = i
          · rw [hji, ← HN.out]; omega
          · exact HA.out j (by omega)
        case measure => simp [intOf]; omega
    · go_wp2
      go_ret
      refine ⟨?_, rfl⟩
      rw [short_yes (l := ls) (by rw [HL.out]; exact h2) (fun j hj => by rw [HL.out] at hj; exact HA.out j (by omega))]
      rfl

theorem short_any (p : Option Addr) (cap : Nat) (ls : List (List I5)) (w : World) (h : Prgs w p ls) :
    Calls Try.prog 8 #[.slice p ls.length cap] w fun e w' => e = .returned (.bool (shortB ls)) ∧ w = w' := by
  by_cases h6 : 6 < ls.length
  · rw [short_many h6]
    exact short_many_any p _ cap w h6
  · by_cases h0 : ls.length = 0
    · rw [short_yes (by omega) (fun i hi => absurd hi (by omega)), h0]
      exact short_none_any p cap w
    · obtain ⟨b, off, _, rfl, hx⟩ := h (by omega)
      exact short_loop_any b off _ cap ls w rfl (by omega) hx
end Go.Proofs.Ytekiialhljfglaa
/- What the reference's Right, Place and Wants of layer 3 answer: for every program, core and count of words what the program answers; they write nothing that was there. -/
namespace Go.Proofs.Ytekiialhljfglaa
set_option linter.unusedVariables false
open Go.ChangeShapes Go.WideShapes Go.ChangeAt Go.RowKit

theorem placeR_pos (n k : Int) (w : World) (h0 : 0 ≤ n) (h1 : n ≤ 4294967295) (h2 : 1 ≤ k) (h3 : k ≤ 9223372036854775807) : Calls Try.prog 43 #[.int .u32 n, .int .i64 k] w fun e w' => e = .returned (.int .i64 (n % k)) ∧ w = w' := by
  have h4 : 0 ≤ n % k := Int.emod_nonneg _ (by omega)
  have h5 : n % k < k := Int.emod_lt_of_pos _ (by omega)
  have hw : wrap64 n = n := by unfold wrap64; omega
  have ht : n.tmod k = n % k := Int.tmod_eq_emod_of_nonneg h0
  have d1 : decide (k < 1) = false := decide_eq_false (by omega)
  go_enter Try.func43, Try.ntmps43
  go_wp2
  go_ret
  exact ⟨rfl, rfl⟩
theorem placeR_none (n k : Int) (w : World) (h2 : k < 1) : Calls Try.prog 43 #[.int .u32 n, .int .i64 k] w fun e w' => e = .returned (.int .i64 0) ∧ w = w' := by
  have d1 : decide (k < 1) = true := decide_eq_true (by omega)
  go_enter Try.func43, Try.ntmps43
  go_wp2
  go_ret
  exact ⟨rfl, rfl⟩
theorem placeR_any (n k : Int) (w : World) (h0 : 0 ≤ n) (h1 : n ≤ 4294967295) (h3 : k ≤ 9223372036854775807) : Calls Try.prog 43 #[.int .u32 n, .int .i64 k] w fun e w' => e = .returned (.int .i64 (placeN n k)) ∧ w = w' := by
  unfold placeN
  by_cases h : k < 1
  · rw [if_pos h]; exact placeR_none n k w h
  · rw [if_neg h]; exact placeR_pos n k w h0 h1 (by omega) h3

theorem coreRightR_in (p : Option Addr) (len cap : Nat) (l : List I5) (r : Nat → Int) (pc : Int) (h v c0 c1 : Bool) (w : World) (hl : l.length = len) (hv : rightB l = v) (hp : Prg w p l) (h0 : decide (0 ≤ pc) = c0) (h1 : decide (pc < (len : Int)) = c1) :
    Calls Try.prog 32 #[.slice p len cap, .agg #[.int .u32 (r 0), .int .u32 (r 1), .int .u32 (r 2), .int .u32 (r 3), .int .u32 (r 4), .int .u32 (r 5), .int .u32 (r 6), .int .u32 (r 7), .int .i64 pc, .bool h]] w fun e w' => e = .returned (.bool (v && (c0 && c1))) ∧ Below w.heap.size w w' := by
  have HL := Lib.hid hl
  have HV := Lib.hid hv
  have HP := Lib.hid hp
  clear hl hv hp
  have hr := fun W hb => rightR_any p cap l W (HP.out.below hb)
  rw [HL.out, HV.out] at hr
  have HRR := Lib.hid hr
  clear hr
  have hcase : v = false ∨ v = true ∧ c0 = false ∨ v = true ∧ c0 = true := by cases v <;> cases c0 <;> simp
  rcases hcase with rfl | ⟨rfl, rfl⟩ | ⟨rfl, rfl⟩
  all_goals
    go_enter Try.func32, Try.ntmps32
    go_wp2_with fail
    refine (HRR.out (w.alloc (.cells #[.int .u32 (r 0), .int .u32 (r 1), .int .u32 (r 2), .int .u32 (r 3), .int .u32 (r 4), .int .u32 (r 5), .int .u32 (r 6), .int .u32 (r 7), .int .i64 pc, .bool h] 55)) ((Below.refl _ _).alloc (Nat.le_refl _) _)).mono ?_
    rintro e w1 ⟨rfl, hb1⟩
    have HC : Hid (Blk w1 w.heap.size #[.int .u32 (r 0), .int .u32 (r 1), .int .u32 (r 2), .int .u32 (r 3), .int .u32 (r 4), .int .u32 (r 5), .int .u32 (r 6), .int .u32 (r 7), .int .i64 pc, .bool h]) := (Blk.new w _ 55).below hb1
    have HB1 := Lib.hid (((Below.refl w.heap.size w).alloc (Nat.le_refl _) _).trans (hb1.mono (by simp)))
    clear hb1
    have c := HC.out.c
    go_wp2
    go_ret
    exact ⟨rfl, HB1.out⟩

theorem coreRightR_any (p : Option Addr) (cap : Nat) (l : List I5) (c : Cor) (w : World) (hp : Prg w p l) :
    Calls Try.prog 32 #[.slice p l.length cap, .agg c.row] w fun e w' => e = .returned (.bool (coreB l c)) ∧ Below w.heap.size w w' := by
  have e : coreB l c = (rightB l && (decide (0 ≤ c.pc) && decide (c.pc < (l.length : Int)))) := by
    unfold coreB
    cases rightB l <;> cases decide (0 ≤ c.pc) <;> cases decide (c.pc < (l.length : Int)) <;> rfl
  rw [e]
  exact coreRightR_in p _ cap l c.r c.pc c.h _ _ _ w rfl rfl hp rfl rfl
theorem coreR_call (p : Option Addr) (len cap : Nat) (l : List I5) (c : Cor) (v : Bool) (w W : World) (hl : Hid (l.length = len)) (hv : Hid (coreB l c = v)) (hp : Hid (Prg w p l)) (hb : Below w.heap.size w W) :
    Calls Try.prog 32 #[.slice p len cap, .agg c.row] W fun e w' => e = .returned (.bool v) ∧ Below W.heap.size W w' := by
  have h := coreRightR_any p cap l c W (hp.out.below hb)
  rw [hl.out, hv.out] at h
  exact h
end Go.Proofs.Ytekiialhljfglaa
/- What the reference's With, Act, New and Right of layer 4 answer; they write nothing that was there. -/
namespace Go.Proofs.Ytekiialhljfglaa
set_option linter.unusedVariables false
open Go.ChangeShapes Go.WideShapes Go.ChangeAt Go.RowKit

set_option maxHeartbeats 1000000 in
theorem with_any (p : Option Addr) (len cap n : Nat) (v : Int) (mem : List Int) (w : World) (hl : mem.length = len) (hn : n < len) (hbig : len * 4 ≤ 140737488355328) (hs : Sl w p len (memC mem)) :
    Calls Try.prog 26 #[.slice p len cap, .int .i64 n, .int .u32 v] w fun e w' => ∃ q c, e = .returned (.slice q len c) ∧ Sl w' q len (memC (mem.set n v)) ∧ (∀ b o, q = some ⟨b, o, none⟩ → w.heap.size ≤ b) ∧ Below w.heap.size w w' := by
  obtain ⟨i0, hi, hz0, hz1, hz2⟩ := info_parts info28
  have u : ∀ w, Sem.run Try.prog (underlying 23) w = .ok (TypeDesc.slice 28) w := run_underlying Try.underlying23
  obtain ⟨b, off, _, rfl, hcell⟩ := hs (by omega)
  have hc : Hid (∀ j u, (memC mem)[j]? = some u → w.cell? ((⟨b, off, none⟩ : Addr).add j) = some u) := by
    intro j u hj
    have hjl := (List.getElem?_eq_some_iff.1 hj).1
    rw [Addr.add_lit]
    exact (hcell j hjl).trans hj
  have HL := Lib.hid hl
  clear hl hs hcell
  have n0 : (0 : Int) ≤ (n : Int) := by omega
  have n1 : (n : Int) < (len : Int) := by omega
  go_enter Try.func26, Try.ntmps26
  go_wp2_with (at_builtin; refine wpList_append_own _ rfl _ _ 23 rfl w.heap.size 28 i0 (.int .u32 0) 1 4 Try.underlying23 hi hz0 hz1 hz2 rfl (by decide) _ _ _ rfl (World.ownsRow_made w #[] 0 (Nat.le_refl _) (Nat.zero_le _) rfl) ⟨b, off, none⟩ len cap (memC mem) rfl ?qc1 ?qc2 ?qc3 ?qc4 ?qc5 ?qc6 ?_)
  case qc1 => rw [memC_len, HL.out, Nat.mul_one]
  case qc2 => intro j u hj; exact Lib.cell?_alloc_some _ (hc.out j u hj)
  case qc3 => exact memC_one mem
  case qc4 => unfold maxLen; omega
  case qc5 => omega
  case qc6 => simp
  intro v' w1 hown hgrow hnil
  obtain ⟨g, cap', rfl⟩ := Joins.ownsRow_form hown (by omega)
  have hb : Hid (Below w.heap.size w w1) := ((Below.refl _ w).alloc (Nat.le_refl _) _).grown hgrow (by simp) (by intro k hk; simp [Value.ownBlock] at hk; omega)
  have hg := hown.lt g rfl
  have HO : Hid (w1.ownsRow w.heap.size 28 1 (.slice (some ⟨g, 0, none⟩) len cap') len (memC mem)) := by
    show World.ownsRow _ _ _ _ _ _ _
    simpa using hown
  clear hown hgrow hnil
  have HG := Lib.hid hg
  clear hg
  have c0 := (HO.out.cellAt n (by omega)).trans (memC_at mem n (by rw [HL.out]; exact hn))
  have f0 := HO.out.frozenAt n
  go_wp2
  go_ret
  refine ⟨_, _, rfl, ?_, fun b o e => by injection e with e; injection e with e; rw [← e]; exact HG.out.1, hb.out.setCell HG.out.1 _⟩
  have h := (HO.out.stored n (.int .u32 v)).1
  rw [memC_set] at h
  obtain ⟨q, c, e, hsl⟩ := Sl.own h
  injection e with e1 e2 e3
  rw [e1]
  exact hsl

theorem actR_out (p : Option Addr) (len cap : Nat) (kind at_ val old : Int) (w : World) (h : at_ < 0 ∨ (len : Int) ≤ at_) :
    Calls Try.prog 10 #[.slice p len cap, .agg #[.int .i64 kind, .int .i64 at_, .int .u32 val, .int .u32 old]] w fun e w' => e = .returned (.tuple #[.slice p len cap, .int .u32 0]) ∧ Below w.heap.size w w' := by
  by_cases h0 : at_ < 0
  · have d1 : decide (at_ < 0) = true := decide_eq_true h0
    go_enter Try.func10, Try.ntmps10
    go_wp2
    go_ret2
    exact ⟨rfl, (Below.refl _ _).alloc (Nat.le_refl _) _⟩
  · have d1 : decide (at_ < 0) = false := decide_eq_false h0
    have d2 : decide ((len : Int) ≤ at_) = true := decide_eq_true (by omega)
    go_enter Try.func10, Try.ntmps10
    go_wp2
    go_ret2
    exact ⟨rfl, (Below.refl _ _).alloc (Nat.le_refl _) _⟩

set_option maxHeartbeats 1000000 in
theorem actR_in (b off len cap n : Nat) (kind val old was : Int) (mem : List Int) (w : World) (hl : mem.length = len) (hn : n < len) (hbig : len * 4 ≤ 140737488355328) (hs : Sl w (some ⟨b, off, none⟩) len (memC mem)) (hw : was = mem.getD n 0) (mem' : List Int) (wa : Int)
    (hm : Hid (mem' = if kind = 2 ∨ kind = 3 ∧ was = old then mem.set n val else mem)) (hv : Hid (wa = if 1 ≤ kind ∧ kind ≤ 3 then was else 0)) :
    Calls Try.prog 10 #[.slice (some ⟨b, off, none⟩) len cap, .agg #[.int .i64 kind, .int .i64 n, .int .u32 val, .int .u32 old]] w fun e w' => ∃ q c, e = .returned (.tuple #[.slice q len c, .int .u32 wa]) ∧ Sl w' q len (memC mem') ∧ (q = some ⟨b, off, none⟩ ∨ ∀ b o, q = some ⟨b, o, none⟩ → w.heap.size ≤ b) ∧ Below w.heap.size w w' := by
  have d1 : decide ((n : Int) < 0) = false := decide_eq_false (by omega)
  have d2 : decide ((len : Int) ≤ (n : Int)) = false := decide_eq_false (by omega)
  have n0 : (0 : Int) ≤ (n : Int) := by omega
  have n1 : (n : Int) < (len : Int) := by omega
  have HL := Lib.hid hl
  obtain ⟨b', off', hlt, he, hcell⟩ := hs (by omega)
  injection he with he
  injection he with e1 e2
  subst e1 e2
  have hc : w.cell? ⟨b, off + n, none⟩ = some (.int .u32 was) := (hcell n (by rw [memC_len, hl]; exact hn)).trans (by rw [hw]; exact memC_at mem n (by rw [hl]; exact hn))
  have HS := Lib.hid hs
  have b0 : Hid (Below w.heap.size w (w.alloc (.cells #[.int .i64 kind, .int .i64 n, .int .u32 val, .int .u32 old] 30))) := (Below.refl _ _).alloc (Nat.le_refl _) _
  have kk : Hid (Blk (w.alloc (.cells #[.int .i64 kind, .int .i64 n, .int .u32 val, .int .u32 old] 30)) w.heap.size #[.int .i64 kind, .int .i64 n, .int .u32 val, .int .u32 old]) := Blk.new w _ 30
  clear hl hs hcell hw
  by_cases k1 : kind = 1
  · subst k1
    have em := hm.out
    have ev := hv.out
    rw [if_neg (by omega)] at em
    rw [if_pos (by omega)] at ev
    subst em ev
    clear hm hv
    go_enter Try.func10, Try.ntmps10
    go_wp2
    refine bodyPost_ret (v := .tuple #[.slice (some ⟨b, off, none⟩) len cap, .int .u32 wa]) (by simp [results, Try.results10, go_sem]) rfl ⟨_, ⟨_, rfl⟩, HS.out.below b0.out, .inl rfl, b0.out⟩
  have e1 : (kind == 1) = false := by simpa using k1
  by_cases k2 : kind = 2
  · subst k2
    have em := hm.out
    have ev := hv.out
    rw [if_pos (by omega)] at em
    rw [if_pos (by omega)] at ev
    subst em ev
    clear hm hv
    go_enter Try.func10, Try.ntmps10
    go_wp2_with fail
    refine (with_any (some ⟨b, off, none⟩) len cap n val mem _ HL.out hn hbig (HS.out.below b0.out)).mono ?_
    rintro e w1 ⟨q, c, rfl, hsl, hqb, hb1⟩
    have HQB : Hid (∀ b o, q = some ⟨b, o, none⟩ → w.heap.size ≤ b) := fun b o e => by have := hqb b o e; rw [World.size_alloc] at this; omega
    have HSL := Lib.hid hsl
    have HB : Hid (Below w.heap.size w w1) := b0.out.trans (hb1.mono b0.out.size)
    clear hb1 hsl hqb
    go_wp2
    go_ret2
    exact ⟨_, _, rfl, HSL.out, .inr HQB.out, HB.out⟩
  have e2 : (kind == 2) = false := by simpa using k2
  by_cases k3 : kind = 3
  · subst k3
    by_cases ho : was = old
    · have e3 : (was == old) = true := by simpa using ho
      have em := hm.out
      have ev := hv.out
      rw [if_pos (by right; exact ⟨rfl, ho⟩)] at em
      rw [if_pos (by omega)] at ev
      subst em ev
      clear hm hv ho
      go_enter Try.func10, Try.ntmps10
      go_wp2_with fail
      refine (with_any (some ⟨b, off, none⟩) len cap n val mem _ HL.out hn hbig (HS.out.below b0.out)).mono ?_
      rintro e w1 ⟨q, c, rfl, hsl, hqb, hb1⟩
      have HQB : Hid (∀ b o, q = some ⟨b, o, none⟩ → w.heap.size ≤ b) := fun b o e => by have := hqb b o e; rw [World.size_alloc] at this; omega
      have HSL := Lib.hid hsl
      have HB : Hid (Below w.heap.size w w1) := b0.out.trans (hb1.mono b0.out.size)
      clear hb1 hsl hqb
      go_wp2
      go_ret2
      exact ⟨_, _, rfl, HSL.out, .inr HQB.out, HB.out⟩
    · have e3 : (was == old) = false := by simpa using ho
      have em := hm.out
      have ev := hv.out
      rw [if_neg (by rintro (h | h); · omega
                     · exact ho h.2)] at em
      rw [if_pos (by omega)] at ev
      subst em ev
      clear hm hv ho
      go_enter Try.func10, Try.ntmps10
      go_wp2
      refine bodyPost_ret (v := .tuple #[.slice (some ⟨b, off, none⟩) len cap, .int .u32 wa]) (by simp [results, Try.results10, go_sem]) rfl ⟨_, ⟨_, rfl⟩, HS.out.below b0.out, .inl rfl, b0.out⟩
  have e3 : (kind == 3) = false := by simpa using k3
  have em := hm.out
  have ev := hv.out
  rw [if_neg (by omega)] at em
  rw [if_neg (by omega)] at ev
  subst em ev
  clear hm hv k1 k2 k3
  go_enter Try.func10, Try.ntmps10
  go_wp2
  refine bodyPost_ret (v := .tuple #[.slice (some ⟨b, off, none⟩) len cap, .int .u32 0]) (by simp [results, Try.results10, go_sem]) rfl ⟨_, ⟨_, rfl⟩, HS.out.below b0.out, .inl rfl, b0.out⟩

theorem actR_any (p : Option Addr) (cap : Nat) (mem : List Int) (x : Wnt) (w : World) (hbig : mem.length * 4 ≤ 140737488355328) (hs : Sl w p mem.length (memC mem)) :
    Calls Try.prog 10 #[.slice p mem.length cap, .agg x.row] w fun e w' => ∃ q c, e = .returned (.tuple #[.slice q mem.length c, .int .u32 (actWas mem x)]) ∧ Sl w' q mem.length (memC (actMem mem x)) ∧ (q = p ∨ ∀ b o, q = some ⟨b, o, none⟩ → w.heap.size ≤ b) ∧ Below w.heap.size w w' := by
  obtain ⟨kind, at_, val, old⟩ := x
  by_cases h : at_ < 0 ∨ (mem.length : Int) ≤ at_
  · have hh : actHit mem ⟨kind, at_, val, old⟩ = false := by
      unfold actHit
      rcases h with h | h
      · rw [decide_eq_false (p := (0 : Int) ≤ at_) (by omega)]; rfl
      · rw [decide_eq_false (p := at_ < (mem.length : Int)) (by omega)]; simp
    have e1 : actWas mem ⟨kind, at_, val, old⟩ = 0 := by unfold actWas; rw [hh]; rfl
    have e2 : actMem mem ⟨kind, at_, val, old⟩ = mem := by unfold actMem; rw [hh]; rfl
    rw [e1, e2]
    exact (actR_out p _ cap kind at_ val old w h).mono fun e w' he => ⟨_, _, he.1, hs.below he.2, .inl rfl, he.2⟩
  · obtain ⟨n, rfl⟩ : ∃ n : Nat, at_ = n := ⟨at_.toNat, by omega⟩
    have hn : n < mem.length := by omega
    obtain ⟨b, off, hlt, rfl, hcell⟩ := hs (by omega)
    have hh : actHit mem ⟨kind, n, val, old⟩ = true := by
      unfold actHit
      simp only
      rw [decide_eq_true (p := (0 : Int) ≤ n) (by omega), decide_eq_true (p := (n : Int) < mem.length) (by omega)]; rfl
    have e1 : actWas mem ⟨kind, n, val, old⟩ = if 1 ≤ kind ∧ kind ≤ 3 then mem.getD n 0 else 0 := by
      unfold actWas; rw [hh]
      simp only [Bool.true_and, Int.toNat_natCast, Bool.and_eq_true, decide_eq_true_eq]
    have e2 : actMem mem ⟨kind, n, val, old⟩ = if kind = 2 ∨ kind = 3 ∧ mem.getD n 0 = old then mem.set n val else mem := by
      unfold actMem; rw [hh]
      simp only [Bool.true_and, Int.toNat_natCast, Bool.and_eq_true, Bool.or_eq_true, decide_eq_true_eq]
    exact actR_in b off _ cap n kind val old _ mem w rfl hn hbig hs rfl _ _ e2 e1
end Go.Proofs.Ytekiialhljfglaa
