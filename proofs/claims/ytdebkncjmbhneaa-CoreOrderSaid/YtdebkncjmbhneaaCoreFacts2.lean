/- A core that may be stays one, changes one register at most, and what it wants is there: plain facts on numbers, no program in sight. -/
import Derived.Test.YtdebkncjmbhneaaCoreFacts
import Derived.Test.YtdebkncjmbhneaaBase
namespace Go.Proofs.Ytdebkncjmbhneaa
set_option linter.unusedVariables false
open Go.RowKit

theorem goal_in {l : List I5} (h : rightB l = true) (i : Nat) (hi : i < l.length) (hj : (at5 l i).op = 13 ∨ (at5 l i).op = 14) : (at5 l i).k < l.length := by
  have hm := (right_has h).2.2.2 i hi
  unfold mayB at hm
  simp only [Bool.and_eq_true] at hm
  have hk := hm.2.2.2.2
  have hu : useK (at5 l i).op = true := decide_eq_true (by omega)
  rw [hu] at hk
  have := of_decide_eq_true hk
  omega
theorem next_in {l : List I5} (h : rightB l = true) (i : Nat) (hi : i < l.length) (h1 : (at5 l i).op ≠ 13) (h2 : (at5 l i).op ≠ 16) : i + 1 < l.length := by
  have he := (right_has h).2.2.1
  by_cases hl : i = l.length - 1
  · rw [← hl] at he
    have := of_decide_eq_true he
    omega
  · omega

theorem not_wrong {l : List I5} {c : Cor} (hc : coreB l c = true) (hh : c.h = false) : (c.h || !coreB l c) = false := by rw [hc, hh]; rfl
theorem done_is {l : List I5} {c : Cor} (a : Int) (hc : coreB l c = true) (hh : c.h = false) : doneOf l c a = doneX (insAt l c) c a := by
  unfold doneOf; rw [not_wrong hc hh]; rfl
theorem want_is {l : List I5} {c : Cor} (n : Int) (hc : coreB l c = true) (hh : c.h = false) : wantOf l c n = wantX (insAt l c) c n := by
  unfold wantOf; rw [not_wrong hc hh]; rfl
theorem done_halt {l : List I5} {c : Cor} (a : Int) (hh : c.h = true) : doneOf l c a = c := by unfold doneOf; rw [hh]; rfl
theorem want_halt {l : List I5} {c : Cor} (n : Int) (hh : c.h = true) : wantOf l c n = ⟨5, 0, 0, 0⟩ := by unfold wantOf; rw [hh]; rfl

theorem core_of_pc {l : List I5} {c d : Cor} (hc : coreB l c = true) (h0 : 0 ≤ d.pc) (h1 : d.pc < l.length) : coreB l d = true := by
  unfold coreB; rw [decide_eq_true h0, decide_eq_true h1, (core_has hc).2.2]; rfl

theorem next_ok {l : List I5} {c : Cor} (hk0 : 0 ≤ (insAt l c).k) (hc : coreB l c = true) (h16 : (insAt l c).op ≠ 16) : 0 ≤ nextX (insAt l c) c ∧ nextX (insAt l c) c < l.length := by
  obtain ⟨h0, h1, h2⟩ := core_has hc
  unfold nextX
  by_cases hj : (insAt l c).op = 13 ∨ (insAt l c).op = 14 ∧ c.r (insAt l c).a.toNat = 0
  · rw [if_pos hj]
    exact ⟨hk0, goal_in h2 c.pc.toNat (by omega) (by show (insAt l c).op = 13 ∨ (insAt l c).op = 14; omega)⟩
  · rw [if_neg hj]
    have := next_in h2 c.pc.toNat (by omega) (by show (insAt l c).op ≠ 13; omega) h16
    omega

theorem done_stays {l : List I5} {c : Cor} (a : Int) (hk0 : 0 ≤ (insAt l c).k) (hc : coreB l c = true) : coreB l (doneOf l c a) = true := by
  cases hh : c.h with
  | true => rw [done_halt a hh]; exact hc
  | false =>
    rw [done_is a hc hh]
    unfold doneX
    by_cases h16 : (insAt l c).op = 16
    · rw [if_pos h16]; exact hc
    · have hn := next_ok hk0 hc h16
      rw [if_neg h16]
      cases madeOk (insAt l c) with
      | true => rw [if_pos rfl]; exact core_of_pc hc hn.1 hn.2
      | false => rw [if_neg (by decide)]; exact core_of_pc hc hn.1 hn.2

/-- At most one register is turned: the one of number A. -/
theorem done_one (l : List I5) (c : Cor) (a : Int) : ∃ A : Nat, ∀ i, i ≠ A → (doneOf l c a).r i = c.r i := by
  refine ⟨(insAt l c).a.toNat, fun i hi => ?_⟩
  unfold doneOf
  cases (c.h || !coreB l c) with
  | true => rw [if_pos rfl]
  | false =>
    rw [if_neg (by decide)]
    unfold doneX
    by_cases h16 : (insAt l c).op = 16
    · rw [if_pos h16]; rfl
    · rw [if_neg h16]
      cases madeOk (insAt l c) with
      | true => rw [if_pos rfl]; show (if i = (insAt l c).a.toNat then _ else _) = _; rw [if_neg hi]; rfl
      | false => rw [if_neg (by decide)]; rfl

theorem kind_other {x : I5} {c : Cor} {n : Int} : ((wantX x c n).kind = 2 ↔ x.op = 10) ∧ ((wantX x c n).kind = 4 ↔ x.op = 15) ∧ ((wantX x c n).kind = 5 ↔ x.op = 16) ∧ 0 ≤ (wantX x c n).kind ∧ (wantX x c n).kind ≤ 5 := by
  unfold wantX
  by_cases h9 : x.op = 9
  · rw [if_pos h9]; simp; omega
  by_cases h10 : x.op = 10
  · rw [if_neg h9, if_pos h10]; simp; omega
  by_cases h11 : x.op = 11
  · rw [if_neg h9, if_neg h10, if_pos h11]; simp; omega
  by_cases h15 : x.op = 15
  · rw [if_neg h9, if_neg h10, if_neg h11, if_pos h15]; simp; omega
  by_cases h16 : x.op = 16
  · rw [if_neg h9, if_neg h10, if_neg h11, if_neg h15, if_pos h16]; simp; omega
  rw [if_neg h9, if_neg h10, if_neg h11, if_neg h15, if_neg h16]; simp; omega

theorem want_kind (l : List I5) (c : Cor) (n : Int) : 0 ≤ (wantOf l c n).kind ∧ (wantOf l c n).kind ≤ 5 := by
  unfold wantOf
  cases (c.h || !coreB l c) with
  | true => rw [if_pos rfl]; simp
  | false => rw [if_neg (by decide)]; exact kind_other.2.2.2
theorem placeN_in (m n : Int) (hn : 1 ≤ n) : 0 ≤ placeN m n ∧ placeN m n < n := by
  unfold placeN; rw [if_neg (by omega)]; exact ⟨Int.emod_nonneg _ (by omega), Int.emod_lt_of_pos _ (by omega)⟩
theorem want_at (l : List I5) (c : Cor) (n : Int) (hn : 1 ≤ n) : 0 ≤ (wantOf l c n).at_ ∧ (wantOf l c n).at_ < n := by
  unfold wantOf
  cases (c.h || !coreB l c) with
  | true => rw [if_pos rfl]; simp only; omega
  | false =>
    rw [if_neg (by decide)]
    unfold wantX
    have hp := placeN_in (c.r (insAt l c).b.toNat) n hn
    by_cases h9 : (insAt l c).op = 9
    · rw [if_pos h9]; exact hp
    by_cases h10 : (insAt l c).op = 10
    · rw [if_neg h9, if_pos h10]; exact hp
    by_cases h11 : (insAt l c).op = 11
    · rw [if_neg h9, if_neg h10, if_pos h11]; exact hp
    by_cases h15 : (insAt l c).op = 15
    · rw [if_neg h9, if_neg h10, if_neg h11, if_pos h15]; simp only; omega
    by_cases h16 : (insAt l c).op = 16
    · rw [if_neg h9, if_neg h10, if_neg h11, if_neg h15, if_pos h16]; simp only; omega
    rw [if_neg h9, if_neg h10, if_neg h11, if_neg h15, if_neg h16]; simp only; omega

/-- One that rests is so for ever. -/
theorem want_rest {l : List I5} {c : Cor} {n : Int} (a : Int) (hc : coreB l c = true) (h5 : (wantOf l c n).kind = 5) :
    (∀ i, (doneOf l c a).r i = c.r i) ∧ (doneOf l c a).h = true ∧ wantOf l (doneOf l c a) n = wantOf l c n := by
  cases hh : c.h with
  | true => rw [done_halt a hh]; exact ⟨fun i => rfl, hh, rfl⟩
  | false =>
    rw [want_is n hc hh] at h5
    have h16 := kind_other.2.2.1.1 h5
    have e : doneOf l c a = c.stop := by rw [done_is a hc hh]; unfold doneX; rw [if_pos h16]
    rw [e]
    refine ⟨fun i => rfl, rfl, ?_⟩
    rw [want_halt n rfl, want_is n hc hh]
    unfold wantX
    rw [if_neg (by omega), if_neg (by omega), if_neg (by omega), if_neg (by omega), if_pos h16]

/-- One that writes or tells turns no register, whatever it is answered. -/
theorem want_write {l : List I5} {c : Cor} {n : Int} (a : Int) (hc : coreB l c = true) (h24 : (wantOf l c n).kind = 2 ∨ (wantOf l c n).kind = 4) : (∀ i, (doneOf l c a).r i = c.r i) ∧ doneOf l c a = doneOf l c 0 := by
  refine ⟨?_, done_plain_same (n := n) a 0 (by omega) (by omega)⟩
  cases hh : c.h with
  | true => rw [done_halt a hh]; exact fun i => rfl
  | false =>
    rw [want_is n hc hh] at h24
    have ho : (insAt l c).op = 10 ∨ (insAt l c).op = 15 := by
      rcases h24 with h | h
      · exact Or.inl (kind_other.1.1 h)
      · exact Or.inr (kind_other.2.1.1 h)
    rw [done_is a hc hh]
    unfold doneX
    have ok : madeOk (insAt l c) = false := decide_eq_false (by omega)
    rw [if_neg (by omega), ok, if_neg (by decide)]
    exact fun i => rfl

theorem doV_fits (op b c : Int) (hb : 0 ≤ b ∧ b ≤ 4294967295) (hc : 0 ≤ c ∧ c ≤ 4294967295) : 0 ≤ doV op b c ∧ doV op b c ≤ 4294967295 := by
  unfold doV
  by_cases h2 : op = 2
  · rw [if_pos h2]; unfold uadd; rw [wrap_u32]; omega
  by_cases h3 : op = 3
  · rw [if_neg h2, if_pos h3]; unfold usub; rw [wrap_u32]; omega
  by_cases h4 : op = 4
  · rw [if_neg h2, if_neg h3, if_pos h4]; unfold umul; rw [wrap_u32]; omega
  by_cases h5 : op = 5
  · rw [if_neg h2, if_neg h3, if_neg h4, if_pos h5]
    obtain ⟨n, rfl⟩ := Int.eq_ofNat_of_zero_le hb.1
    obtain ⟨m, rfl⟩ := Int.eq_ofNat_of_zero_le hc.1
    rw [and_of n m (by omega) (by omega)]
    have := bitN_lt true n m (by omega) (by omega)
    omega
  by_cases h6 : op = 6
  · rw [if_neg h2, if_neg h3, if_neg h4, if_neg h5, if_pos h6]
    obtain ⟨n, rfl⟩ := Int.eq_ofNat_of_zero_le hb.1
    obtain ⟨m, rfl⟩ := Int.eq_ofNat_of_zero_le hc.1
    rw [xor_of n m (by omega) (by omega)]
    have := bitN_lt false n m (by omega) (by omega)
    omega
  by_cases h7 : op = 7
  · rw [if_neg h2, if_neg h3, if_neg h4, if_neg h5, if_neg h6, if_pos h7]
    have := ueq_bd b c
    omega
  by_cases h8 : op = 8
  · rw [if_neg h2, if_neg h3, if_neg h4, if_neg h5, if_neg h6, if_neg h7, if_pos h8]
    have := ult_bd b c
    omega
  rw [if_neg h2, if_neg h3, if_neg h4, if_neg h5, if_neg h6, if_neg h7, if_neg h8]; omega

/-- What fits goes on fitting. -/
theorem done_fits {l : List I5} {c : Cor} {a : Int} (hf : c.Fits) (ha : 0 ≤ a ∧ a ≤ 4294967295) (hk0 : 0 ≤ (insAt l c).k) (hk1 : (insAt l c).k ≤ 4294967295) : (doneOf l c a).Fits := by
  have key : ∀ i, i < 8 → 0 ≤ (doneOf l c a).r i ∧ (doneOf l c a).r i ≤ 4294967295 := fun i hi => by
    have hci : 0 ≤ c.r i ∧ c.r i ≤ 4294967295 := ⟨hf.r0 i hi, hf.r1 i hi⟩
    unfold doneOf
    cases hb : (c.h || !coreB l c) with
    | true => rw [if_pos rfl]; exact hci
    | false =>
      simp only [Bool.or_eq_false_iff, Bool.not_eq_false'] at hb
      have hm := may_regs (core_ins hb.2)
      rw [if_neg (by decide)]
      unfold doneX
      by_cases h16 : (insAt l c).op = 16
      · rw [if_pos h16]; exact hci
      · rw [if_neg h16]
        cases madeOk (insAt l c) with
        | false => rw [if_neg (by decide)]; exact hci
        | true =>
          rw [if_pos rfl]
          show 0 ≤ (if i = (insAt l c).a.toNat then _ else _) ∧ (if i = (insAt l c).a.toNat then _ else _) ≤ _
          by_cases hA : i = (insAt l c).a.toNat
          · rw [if_pos hA]
            unfold madeV
            by_cases h1 : (insAt l c).op = 1
            · rw [if_pos h1]; exact ⟨hk0, hk1⟩
            · rw [if_neg h1]
              by_cases h9 : (insAt l c).op = 9 ∨ (insAt l c).op = 11
              · rw [if_pos h9]; exact ha
              · rw [if_neg h9]
                exact doV_fits _ _ _ ⟨hf.r0 _ (by omega), hf.r1 _ (by omega)⟩ ⟨hf.r0 _ (by omega), hf.r1 _ (by omega)⟩
          · rw [if_neg hA]; exact hci
  exact ⟨fun i hi => (key i hi).1, fun i hi => (key i hi).2⟩

/-- How many of the first j registers were turned. -/
def cnt (r x : Nat → Int) : Nat → Nat
  | 0 => 0
  | j + 1 => cnt r x j + (if r j = x j then 0 else 1)
theorem cnt_le (r x : Nat → Int) (j : Nat) : cnt r x j ≤ j := by
  induction j with
  | zero => exact Nat.le_refl _
  | succ j ih => show cnt r x j + (if r j = x j then 0 else 1) ≤ j + 1; split <;> omega
theorem cnt_zero (r x : Nat → Int) (h : ∀ i, x i = r i) (j : Nat) : cnt r x j = 0 := by
  induction j with
  | zero => rfl
  | succ j ih => show cnt r x j + (if r j = x j then 0 else 1) = 0; rw [ih, if_pos (h j).symm]
theorem cnt_one (r x : Nat → Int) (A : Nat) (h : ∀ i, i ≠ A → x i = r i) (j : Nat) : cnt r x j ≤ 1 ∧ (j ≤ A → cnt r x j = 0) := by
  induction j with
  | zero => exact ⟨Nat.zero_le _, fun _ => rfl⟩
  | succ j ih =>
    show cnt r x j + (if r j = x j then 0 else 1) ≤ 1 ∧ (j + 1 ≤ A → cnt r x j + (if r j = x j then 0 else 1) = 0)
    by_cases hj : j = A
    · subst hj
      have := ih.2 (Nat.le_refl _)
      refine ⟨?_, fun hh => by omega⟩
      split <;> omega
    · rw [if_pos (h j hj).symm]
      exact ⟨by omega, fun hh => by have := ih.2 (by omega); omega⟩
end Go.Proofs.Ytdebkncjmbhneaa
