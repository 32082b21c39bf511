/- Whether a number may be an interval, comparing intervals, copies of lists, by the program; no condition but that they read. -/
import Derived.Test.YteffmidpinlpjaaCmA
namespace Go.Proofs.Yteffmidpinlpjaa
set_option linter.unusedVariables false
set_option linter.unusedSimpArgs false
open Go.ChangeShapes Go.WideShapes Go.ChangeAt Go.RowKit

set_option maxHeartbeats 1000000 in
theorem mayBe_any (n : Int) (w : World) : Calls Try.prog 27 #[.int .i64 n] w fun e w' => e = .returned (.bool (spanB n)) ∧ w = w' := by
  have HM : Hid (spanB n = (decide (0 ≤ n) && decide (n ≤ 1099511627776))) := Lib.hid rfl
  obtain ⟨r, hr⟩ : ∃ r, r = spanB n := ⟨_, rfl⟩
  rw [← hr] at HM ⊢
  clear hr
  obtain ⟨b1, d1⟩ : ∃ b, decide (0 ≤ n) = b := ⟨_, rfl⟩
  obtain ⟨b2, d2⟩ : ∃ b, decide (n ≤ 1099511627776) = b := ⟨_, rfl⟩
  cases b1 <;> cases b2
  all_goals
    go_enter Try.func27, Try.ntmps27
    go_wp2_with fail
    go_ret
    exact ⟨by rw [HM.out, d1, d2]; rfl, rfl⟩

theorem isNaN_any (n : Int) (w : World) : Calls Try.prog 35 #[.int .i64 n] w fun e w' => e = .returned (.bool false) ∧ w = w' := by
  have h : (n != n) = false := by simp
  go_enter Try.func35, Try.ntmps35
  go_wp2_with fail
  go_ret
  exact ⟨by first | rfl | simp, rfl⟩
def cmpI (a b : Int) : Int := if a < b then -1 else if b < a then 1 else 0
set_option maxHeartbeats 1000000 in
theorem compare_any (a b : Int) (w : World) : Calls Try.prog 33 #[.int .i64 a, .int .i64 b] w fun e w' => e = .returned (.int .i64 (cmpI a b)) ∧ w = w' := by
  have H1 : Hid (a < b → cmpI a b = -1) := Lib.hid (fun h => by unfold cmpI; rw [if_pos h])
  have H2 : Hid (b < a → cmpI a b = 1) := Lib.hid (fun h => by unfold cmpI; rw [if_neg (by omega), if_pos h])
  have H3 : Hid (¬ a < b → ¬ b < a → cmpI a b = 0) := Lib.hid (fun h h' => by unfold cmpI; rw [if_neg h, if_neg h'])
  obtain ⟨r, hr⟩ : ∃ r, r = cmpI a b := ⟨_, rfl⟩
  rw [← hr] at H1 H2 H3 ⊢
  clear hr
  by_cases h1 : a < b
  · have d1 : decide (a < b) = true := decide_eq_true h1
    have e := H1.out h1
    subst e
    clear H1 H2 H3 h1
    go_enter Try.func33, Try.ntmps33
    go_wp2_with (go_at_call 35; refine (isNaN_any _ _).mono ?_; rintro e w' ⟨rfl, rfl⟩)
    go_ret
    exact ⟨rfl, rfl⟩
  · have d1 : decide (a < b) = false := decide_eq_false h1
    by_cases h2 : b < a
    · have d2 : decide (b < a) = true := decide_eq_true h2
      have e := H2.out h2
      subst e
      clear H1 H2 H3 h1 h2
      go_enter Try.func33, Try.ntmps33
      go_wp2_with (go_at_call 35; refine (isNaN_any _ _).mono ?_; rintro e w' ⟨rfl, rfl⟩)
      go_ret
      exact ⟨rfl, rfl⟩
    · have d2 : decide (b < a) = false := decide_eq_false h2
      have e := H3.out h1 h2
      subst e
      clear H1 H2 H3 h1 h2
      go_enter Try.func33, Try.ntmps33
      go_wp2_with (go_at_call 35; refine (isNaN_any _ _).mono ?_; rintro e w' ⟨rfl, rfl⟩)
      go_ret
      exact ⟨rfl, rfl⟩
theorem cmp_neg {a b : Int} : decide (cmpI a b < 0) = decide (a < b) := by
  unfold cmpI
  by_cases h : a < b
  · rw [if_pos h, decide_eq_true h]; rfl
  · rw [if_neg h, decide_eq_false h]
    by_cases h2 : b < a
    · rw [if_pos h2]; rfl
    · rw [if_neg h2]; rfl

set_option maxHeartbeats 1000000 in
theorem byspan_any (x : Hd) (t : Int) (w : World) : Calls Try.prog 32 #[.agg #[.int .i64 x.td.core, .int .u32 x.td.val, .int .i64 x.span], .int .i64 t] w fun e w' => e = .returned (.int .i64 (cmpI x.span t)) ∧ Below w.heap.size w w' := by
  obtain ⟨⟨a, b⟩, s⟩ := x
  dsimp only
  go_enter Try.func32, Try.ntmps32
  go_wp2_with (go_at_call 33; refine (compare_any _ _ _).mono ?_; rintro e w' ⟨rfl, rfl⟩)
  go_ret
  exact ⟨rfl, (Below.refl _ _).alloc (Nat.le_refl _) _⟩

set_option maxHeartbeats 2000000 in
theorem cloneH_any (p : Option Addr) (n c : Nat) (l : List Hd) (w : World) (hl : l.length = n) (hs : Sl w p n (hdC l)) (hm : n ≤ 10000) (hcn : n ≤ c) :
    Calls Try.prog 29 #[.slice p n c] w fun e w' => ∃ r, e = .returned r ∧ w'.ownsRow w.heap.size 52 3 r n (hdC l) ∧ Below w.heap.size w w' := by
  obtain ⟨i0, hi, hz0, hz1, hz2⟩ := info_parts infoH
  have HI := Lib.hid (And.intro hi (And.intro hz0 (And.intro hz1 hz2)))
  have HS := Lib.hid hs
  have HL := Lib.hid hl
  clear hs hl hi hz0 hz1 hz2
  have hq : ∀ W, (binOp .eql 22 (.slice p n c) (.slice none 0 0)).run Try.prog W = .ok (.bool p.isNone) W := fun W => Lib.run_eql_slice_nil W _ 52 _ _ _ _ _ Try.underlying22
  cases p with
  | none =>
    have h0 : n = 0 := by
      rcases Nat.eq_zero_or_pos n with h0 | h0
      · exact h0
      · obtain ⟨b, off, _, h2, _⟩ := HS.out h0
        cases h2
    subst h0
    have hl : l = [] := List.eq_nil_of_length_eq_zero HL.out
    subst hl
    clear HS HL hcn HI
    simp only [Option.isNone_none, Option.isNone_some] at hq
    go_enter Try.func29, Try.ntmps29
    go_wp2
    go_ret
    exact ⟨_, rfl, World.ownsRow_nil _ _ _ _, Below.refl _ _⟩
  | some a =>
    simp only [Option.isNone_none, Option.isNone_some] at hq
    go_enter Try.func29, Try.ntmps29
    go_wp2_with (first | (at_builtin; refine wpList_append_sl rfl _ _ 22 rfl w.heap.size 52 i0 _ 3 24 Try.underlying22 HI.out.1 HI.out.2.1 HI.out.2.2.1 HI.out.2.2.2 rfl (by decide) _ 0 [] rfl (fresh_made (Nat.le_refl _)) (some a) n c (hdC l) rfl (by rw [hdC_len, HL.out]) (HS.out.below ((Below.refl _ _).alloc (Nat.le_refl _) _)) (hdC_one _) (by unfold maxLen; omega) (by omega) (by simp) ?_))
    intro v' w' g1 g2 g3
    have HG : Hid (w'.ownsRow w.heap.size 52 3 v' n (hdC l)) := Lib.hid (by simpa using g1)
    have HB : Hid (Below w.heap.size w w') := Lib.hid (((Below.refl w.heap.size w).alloc (Nat.le_refl _) _).grown g2 (by simp) (fun k hk => by simp [Value.ownBlock] at hk; omega))
    clear g1 g2 g3
    go_wp2
    go_ret
    exact ⟨_, rfl, HG.out, HB.out⟩

set_option maxHeartbeats 2000000 in
theorem cloneT_any (p : Option Addr) (n c : Nat) (l : List Td) (w : World) (hl : l.length = n) (hs : Sl w p n (tdC l)) (hm : n ≤ 10000) (hcn : n ≤ c) :
    Calls Try.prog 30 #[.slice p n c] w fun e w' => ∃ r, e = .returned r ∧ w'.ownsRow w.heap.size 28 2 r n (tdC l) ∧ Below w.heap.size w w' := by
  obtain ⟨i0, hi, hz0, hz1, hz2⟩ := info_parts infoT
  have HI := Lib.hid (And.intro hi (And.intro hz0 (And.intro hz1 hz2)))
  have HS := Lib.hid hs
  have HL := Lib.hid hl
  clear hs hl hi hz0 hz1 hz2
  have hq : ∀ W, (binOp .eql 23 (.slice p n c) (.slice none 0 0)).run Try.prog W = .ok (.bool p.isNone) W := fun W => Lib.run_eql_slice_nil W _ 28 _ _ _ _ _ Try.underlying23
  cases p with
  | none =>
    have h0 : n = 0 := by
      rcases Nat.eq_zero_or_pos n with h0 | h0
      · exact h0
      · obtain ⟨b, off, _, h2, _⟩ := HS.out h0
        cases h2
    subst h0
    have hl : l = [] := List.eq_nil_of_length_eq_zero HL.out
    subst hl
    clear HS HL hcn HI
    simp only [Option.isNone_none, Option.isNone_some] at hq
    go_enter Try.func30, Try.ntmps30
    go_wp2
    go_ret
    exact ⟨_, rfl, World.ownsRow_nil _ _ _ _, Below.refl _ _⟩
  | some a =>
    simp only [Option.isNone_none, Option.isNone_some] at hq
    go_enter Try.func30, Try.ntmps30
    go_wp2_with (first | (at_builtin; refine wpList_append_sl rfl _ _ 23 rfl w.heap.size 28 i0 _ 2 16 Try.underlying23 HI.out.1 HI.out.2.1 HI.out.2.2.1 HI.out.2.2.2 rfl (by decide) _ 0 [] rfl (fresh_made (Nat.le_refl _)) (some a) n c (tdC l) rfl (by rw [tdC_len, HL.out]) (HS.out.below ((Below.refl _ _).alloc (Nat.le_refl _) _)) (tdC_one _) (by unfold maxLen; omega) (by omega) (by simp) ?_))
    intro v' w' g1 g2 g3
    have HG : Hid (w'.ownsRow w.heap.size 28 2 v' n (tdC l)) := Lib.hid (by simpa using g1)
    have HB : Hid (Below w.heap.size w w') := Lib.hid (((Below.refl w.heap.size w).alloc (Nat.le_refl _) _).grown g2 (by simp) (fun k hk => by simp [Value.ownBlock] at hk; omega))
    clear g1 g2 g3
    go_wp2
    go_ret
    exact ⟨_, rfl, HG.out, HB.out⟩

end Go.Proofs.Yteffmidpinlpjaa
