/- The program's may-be, copy, others; no condition but that what is known reads. -/
import Derived.Test.YthkpoiaakggimaaDirecA
namespace Go.Proofs.Ythkpoiaakggimaa
set_option linter.unusedVariables false
open Go.ChangeShapes Go.WideShapes Go.ChangeAt Go.RowKit

set_option maxHeartbeats 1000000 in
theorem mayBe_any (n : Int) (w : World) : Calls Try.prog 26 #[.int .i64 n] w fun e w' => e = .returned (.bool (mayN n)) ∧ w' = w := by
  go_enter Try.func26, Try.ntmps26
  by_cases h1 : 1 ≤ n
  · have d1 : decide (1 ≤ n) = true := decide_eq_true h1
    have hr : mayN n = decide (n ≤ 4) := by unfold mayN; rw [d1, Bool.true_and]
    rw [hr]
    clear hr h1
    go_wp2_with fail
    go_ret
    exact ⟨rfl, rfl⟩
  · have d1 : decide (1 ≤ n) = false := decide_eq_false h1
    have hr : mayN n = false := by unfold mayN; rw [d1, Bool.false_and]
    rw [hr]
    clear hr h1
    go_wp2_with fail
    go_ret
    exact ⟨rfl, rfl⟩

theorem mayE_not {E : En} {m : Int} (h : ¬ ((1 ≤ m ∧ m ≤ 4) ∧ (E.share.length : Int) = m ∧ 0 ≤ E.owner ∧ E.owner ≤ m)) : mayE E m = false :=
  no_of fun e => h (by obtain ⟨h1, h2, h3, h4, _⟩ := mayE_iff.1 e; exact ⟨h1, h2, h3, h4⟩)
theorem mayE_own {E : En} {m : Int} (h : (1 ≤ m ∧ m ≤ 4) ∧ (E.share.length : Int) = m ∧ 0 ≤ E.owner ∧ E.owner ≤ m) : mayE E m = ownB E := by
  cases ho : ownB E with
  | true => exact mayE_iff.2 ⟨h.1, h.2.1, h.2.2.1, h.2.2.2, ho⟩
  | false => exact no_of fun e => by obtain ⟨_, _, _, _, h5⟩ := mayE_iff.1 e; rw [ho] at h5; cases h5

set_option maxHeartbeats 4000000 in
theorem may_any (S : Nat → Prop) (v : Value) (E : En) (m : Int) (w : World) (h : Eo S w v E) : Calls Try.prog 19 #[v, .int .i64 m] w fun e w' => e = .returned (.bool (mayE E m)) ∧ Below w.heap.size w w' := by
  have HM := Lib.hid (fun W => mayBe_any m W)
  obtain ⟨p, n, c, rfl, hc, -⟩ := h
  have HC := Lib.hid hc
  have hn100 := hc.n100
  have HNO : Hid (¬ ((1 ≤ m ∧ m ≤ 4) ∧ (n : Int) = m ∧ 0 ≤ E.owner ∧ E.owner ≤ m) → mayE E m = false) := Lib.hid (fun hh => mayE_not (by rw [hc.len]; exact hh))
  have HYES : Hid ((1 ≤ m ∧ m ≤ 4) ∧ (n : Int) = m ∧ 0 ≤ E.owner ∧ E.owner ≤ m → mayE E m = ownB E) := Lib.hid (fun hh => mayE_own (by rw [hc.len]; exact hh))
  have HOW : Hid (ownB E = (decide (E.owner = 0) || !(E.share.getD (E.owner - 1).toNat false))) := Lib.hid rfl
  obtain ⟨r, hr⟩ : ∃ r, r = mayE E m := ⟨_, rfl⟩
  rw [← hr] at HNO HYES ⊢
  obtain ⟨O, hO⟩ : ∃ O, O = E.owner := ⟨_, rfl⟩
  rw [← hO] at HNO HYES HOW ⊢
  clear hr hO hc
  obtain ⟨w0, hw0⟩ : ∃ w0, w0 = w.alloc (.cells #[.int .i64 O, .slice p n c] 24) := ⟨_, rfl⟩
  have HB0 : Hid (Below w.heap.size w w0) := Lib.hid (by rw [hw0]; exact (Below.refl _ _).alloc (Nat.le_refl _) _)
  have HA0 : Hid (Blk w0 w.heap.size #[.int .i64 O, .slice p n c]) := Lib.hid (by rw [hw0]; exact Blk.new _ _ _)
  have HW0 := Lib.hid hw0
  clear hw0
  go_enter Try.func19, Try.ntmps19
  have kA := HA0.out.c
  go_upto_region 1 with fail
  rw [← HW0.out]
  clear HW0
  by_cases hm : mayN m = true
  · rw [hm] at HM
    have hm4 := mayN_iff.1 hm
    by_cases h2 : (n : Int) = m
    · have d2 : ((n : Int) != m) = false := by simp [h2]
      by_cases h3 : O < 0
      · have d3 : decide (O < 0) = true := decide_eq_true h3
        have e := HNO.out (by omega)
        subst e
        clear HNO HYES HOW hm h3 h2 hm4
        go_wp2_with fail
        refine (HM.out _).mono ?_
        rintro e w' ⟨rfl, rfl⟩
        go_wp2_with fail
        go_ret
        exact ⟨rfl, HB0.out⟩
      · have d3 : decide (O < 0) = false := decide_eq_false h3
        by_cases h4 : m < O
        · have d4 : decide (m < O) = true := decide_eq_true h4
          have e := HNO.out (by omega)
          subst e
          clear HNO HYES HOW hm h3 h2 hm4 h4
          go_wp2_with fail
          refine (HM.out _).mono ?_
          rintro e w' ⟨rfl, rfl⟩
          go_wp2_with fail
          go_ret
          exact ⟨rfl, HB0.out⟩
        · have d4 : decide (m < O) = false := decide_eq_false h4
          have e := HYES.out (by omega)
          rw [HOW.out] at e
          by_cases h5 : O = 0
          · have d5 : (O == 0) = true := by simp [h5]
            have d6 : decide (O = 0) = true := decide_eq_true h5
            rw [d6, Bool.true_or] at e
            subst e
            clear HNO HYES HOW hm h3 h2 hm4 h4 h5 d6
            go_wp2_with fail
            refine (HM.out _).mono ?_
            rintro e w' ⟨rfl, rfl⟩
            go_wp2_with fail
            go_ret
            exact ⟨rfl, HB0.out⟩
          · have d5 : (O == 0) = false := by simp [h5]
            have d6 : decide (O = 0) = false := decide_eq_false h5
            rw [d6, Bool.false_or] at e
            obtain ⟨j, hj⟩ : ∃ j : Nat, j = (O - 1).toNat := ⟨_, rfl⟩
            rw [← hj] at e
            have hjn : j < n := by omega
            have hjI : (j : Int) < (n : Int) := by omega
            have hj0 : (0 : Int) ≤ (j : Int) := by omega
            have hsub : wrap64 (O - 1) = (j : Int) := by unfold wrap64; omega
            obtain ⟨b, off, rfl, hb, hcell⟩ := HC.out.at_ j hjn
            have hcw := (HB0.out.cell (p := ⟨b, off + j, none⟩) hb).trans hcell
            obtain ⟨x, hx⟩ : ∃ x, x = E.share.getD j false := ⟨_, rfl⟩
            rw [← hx] at e hcw
            subst e
            clear HNO HYES HOW hm h3 h2 hm4 h4 h5 d6 hcell hb hx hj HC
            go_wp2_with fail
            refine (HM.out _).mono ?_
            rintro e w' ⟨rfl, rfl⟩
            go_wp2_with fail
            go_ret
            exact ⟨rfl, HB0.out⟩
    · have d2 : ((n : Int) != m) = true := by simp [h2]
      have e := HNO.out (fun hh => h2 hh.2.1)
      subst e
      clear HNO HYES HOW hm h2 hm4
      go_wp2_with fail
      refine (HM.out _).mono ?_
      rintro e w' ⟨rfl, rfl⟩
      go_wp2_with fail
      go_ret
      exact ⟨rfl, HB0.out⟩
  · have hm2 := no_of hm
    rw [hm2] at HM
    have e := HNO.out (fun hh => hm (mayN_iff.2 hh.1))
    subst e
    clear HNO HYES HOW hm hm2
    go_wp2_with fail
    refine (HM.out _).mono ?_
    rintro e w' ⟨rfl, rfl⟩
    go_wp2_with fail
    go_ret
    exact ⟨rfl, HB0.out⟩
end Go.Proofs.Ythkpoiaakggimaa
