/- What isa.May answers, for every instruction and however many; it writes nothing that was there. -/
import Derived.Test.YtdebkncjmbhneaaIsaMay
namespace Go.Proofs.Ytdebkncjmbhneaa
open Go.ChangeShapes Go.WideShapes Go.ChangeAt Go.RowKit

set_option maxHeartbeats 400000 in
theorem may_core (op a b c k n : Int) (w : World) (hk0 : 0 ≤ k) (hk1 : k ≤ 4294967295) (o ra rb rc rk : Bool) (ho : isOp op = o) (ha : regB a (useA op) = ra) (hb : regB b (useB op) = rb) (hc : regB c (useC op) = rc) (hk : conB op k (useK op) n = rk) :
    Calls Try.prog 21 #[.agg #[.int .i64 op, .int .i64 a, .int .i64 b, .int .i64 c, .int .u32 k], .int .i64 n] w fun e w' => e = .returned (.bool (o && (ra && (rb && (rc && rk))))) ∧ Below w.heap.size w w' := by
  have ea := bit_a op
  have eb := bit_b op
  have ec := bit_c op
  have ek := bit_k op
  have HK := Lib.hid hk
  clear hk
  cases o with
  | false =>
    go_enter Try.func21, Try.ntmps21
    go_wp2_with fail
    refine (used_any _ _).mono ?_
    rintro e w' ⟨rfl, rfl⟩
    rw [ho]
    go_wp2
    go_ret
    exact ⟨rfl, (Below.refl _ _).alloc (Nat.le_refl _) _⟩
  | true =>
    cases ra with
    | false =>
      go_enter Try.func21, Try.ntmps21
      go_wp2_with fail
      refine (used_any _ _).mono ?_
      rintro e w' ⟨rfl, rfl⟩
      rw [ho]
      go_wp2_with fail
      refine (reg_any _ _ _).mono ?_
      rintro e w' ⟨rfl, rfl⟩
      go_wp2
      go_ret
      exact ⟨rfl, (Below.refl _ _).alloc (Nat.le_refl _) _⟩
    | true =>
      cases rb with
      | false =>
        go_enter Try.func21, Try.ntmps21
        go_wp2_with fail
        refine (used_any _ _).mono ?_
        rintro e w' ⟨rfl, rfl⟩
        rw [ho]
        go_wp2_with fail
        refine (reg_any _ _ _).mono ?_
        rintro e w' ⟨rfl, rfl⟩
        go_wp2_with fail
        refine (reg_any _ _ _).mono ?_
        rintro e w' ⟨rfl, rfl⟩
        go_wp2
        go_ret
        exact ⟨rfl, (Below.refl _ _).alloc (Nat.le_refl _) _⟩
      | true =>
        cases rc with
        | false =>
          go_enter Try.func21, Try.ntmps21
          go_wp2_with fail
          refine (used_any _ _).mono ?_
          rintro e w' ⟨rfl, rfl⟩
          rw [ho]
          go_wp2_with fail
          refine (reg_any _ _ _).mono ?_
          rintro e w' ⟨rfl, rfl⟩
          go_wp2_with fail
          refine (reg_any _ _ _).mono ?_
          rintro e w' ⟨rfl, rfl⟩
          go_wp2_with fail
          refine (reg_any _ _ _).mono ?_
          rintro e w' ⟨rfl, rfl⟩
          go_wp2
          go_ret
          exact ⟨rfl, (Below.refl _ _).alloc (Nat.le_refl _) _⟩
        | true =>
          go_enter Try.func21, Try.ntmps21
          go_wp2_with fail
          refine (used_any _ _).mono ?_
          rintro e w' ⟨rfl, rfl⟩
          rw [ho]
          go_wp2_with fail
          refine (reg_any _ _ _).mono ?_
          rintro e w' ⟨rfl, rfl⟩
          go_wp2_with fail
          refine (reg_any _ _ _).mono ?_
          rintro e w' ⟨rfl, rfl⟩
          go_wp2_with fail
          refine (reg_any _ _ _).mono ?_
          rintro e w' ⟨rfl, rfl⟩
          go_wp2_with fail
          refine (con_any _ _ _ _ _ _ _ _ hk0 hk1).mono ?_
          rintro e w' ⟨rfl, rfl⟩
          rw [HK.out]
          go_wp2
          go_ret
          exact ⟨rfl, ((Below.refl _ _).alloc (Nat.le_refl _) _).alloc (by simp) _⟩

theorem may_any (x : I5) (n : Int) (w : World) (hk0 : 0 ≤ x.k) (hk1 : x.k ≤ 4294967295) :
    Calls Try.prog 21 #[.agg x.row, .int .i64 n] w fun e w' => e = .returned (.bool (mayB x n)) ∧ Below w.heap.size w w' :=
  may_core x.op x.a x.b x.c x.k n w hk0 hk1 _ _ _ _ _ rfl rfl rfl rfl rfl
end Go.Proofs.Ytdebkncjmbhneaa
