/- What the program says of how many words, of a number up to another, of a word, of one of a list: contracts; no condition. -/
import Derived.Test.YtbgllkjhgjoodaaUnA
namespace Go.Proofs.Ytbgllkjhgjoodaa
set_option linter.unusedVariables false
open Go.ChangeShapes Go.WideShapes Go.ChangeAt Go.RowKit

theorem size_eq (n : Int) : sizeB n = (decide (1 ≤ n) && decide (n ≤ 64)) := by
  unfold sizeB
  rw [Bool.eq_iff_iff]
  simp only [Bool.and_eq_true, decide_eq_true_eq]
set_option maxHeartbeats 1000000 in
theorem mayBe_any (n : Int) (w : World) : Calls Try.prog 29 #[.int .i64 n] w fun e w' => e = .returned (.bool (sizeB n)) ∧ w = w' := by
  have HM := Lib.hid (size_eq n)
  obtain ⟨r, hr⟩ : ∃ r, r = sizeB n := ⟨_, rfl⟩
  rw [← hr] at HM ⊢
  clear hr
  obtain ⟨b1, d1⟩ : ∃ b, decide (1 ≤ n) = b := ⟨_, rfl⟩
  obtain ⟨b2, d2⟩ : ∃ b, decide (n ≤ 64) = b := ⟨_, rfl⟩
  cases b1 <;> cases b2
  all_goals
    go_enter Try.func29, Try.ntmps29
    go_wp2_with fail
    go_ret
    exact ⟨by rw [HM.out, d1, d2]; rfl, rfl⟩
def upB (n m : Int) : Bool := decide (0 ≤ n) && decide (n ≤ m)
theorem up_iff {n m : Int} : upB n m = true ↔ 0 ≤ n ∧ n ≤ m := by unfold upB; simp only [Bool.and_eq_true, decide_eq_true_eq]
set_option maxHeartbeats 1000000 in
theorem upTo_any (n m : Int) (w : World) : Calls Try.prog 30 #[.int .i64 n, .int .i64 m] w fun e w' => e = .returned (.bool (upB n m)) ∧ w = w' := by
  have HM : Hid (upB n m = (decide (0 ≤ n) && decide (n ≤ m))) := Lib.hid rfl
  obtain ⟨r, hr⟩ : ∃ r, r = upB n m := ⟨_, rfl⟩
  rw [← hr] at HM ⊢
  clear hr
  obtain ⟨b1, d1⟩ : ∃ b, decide (0 ≤ n) = b := ⟨_, rfl⟩
  obtain ⟨b2, d2⟩ : ∃ b, decide (n ≤ m) = b := ⟨_, rfl⟩
  cases b1 <;> cases b2
  all_goals
    go_enter Try.func30, Try.ntmps30
    go_wp2_with fail
    go_ret
    exact ⟨by rw [HM.out, d1, d2]; rfl, rfl⟩
theorem hasW_eq (L : Lg) (a : Int) : hasW L a = upB a ((L.mem.length : Int) - 1) := by
  unfold hasW
  rw [Bool.eq_iff_iff, up_iff, decide_eq_true_eq]
  omega
set_option maxHeartbeats 1000000 in
theorem hasWord_at (p q : Option Addr) (m c n d : Nat) (s a : Int) (w : World) (hm : m ≤ 10000) : Calls Try.prog 22 #[.agg #[.slice p m c, .int .i64 s, .slice q n d], .int .i64 a] w fun e w' => e = .returned (.bool (upB a ((m : Int) - 1))) ∧ Below w.heap.size w w' := by
  have hw : IntKind.i64.wrap ((m : Int) - 1) = (m : Int) - 1 := by rw [IntKind.wrap_i64]; omega
  have hw2 : wrap64 ((m : Int) - 1) = (m : Int) - 1 := by unfold wrap64; omega
  go_enter Try.func22, Try.ntmps22
  go_wp2_with (go_at_call 30; refine (upTo_any a ((m : Int) - 1) _).mono ?_; rintro e w' ⟨rfl, rfl⟩)
  go_ret
  exact ⟨rfl, (Below.refl _ _).alloc (Nat.le_refl _) _⟩
theorem hasWord_any (S : Nat → Prop) (v : Value) (L : Lg) (a : Int) (w : World) (h : Lo S w v L) : Calls Try.prog 22 #[v, .int .i64 a] w fun e w' => e = .returned (.bool (hasW L a)) ∧ Below w.heap.size w w' := by
  obtain ⟨p, m, c, q, n, d, rfl, hc, -⟩ := h
  rw [hasW_eq, hc.ml]
  exact hasWord_at p q m c n d L.span a w hc.m10

theorem isNaN_any (n : Int) (w : World) : Calls Try.prog 42 #[.int .i64 n] w fun e w' => e = .returned (.bool false) ∧ w = w' := by
  have h : (n != n) = false := by simp
  go_enter Try.func42, Try.ntmps42
  go_wp2_with fail
  go_ret
  exact ⟨by first | rfl | simp, rfl⟩
def cmpI (a b : Int) : Int := if a < b then -1 else if b < a then 1 else 0
set_option maxHeartbeats 1000000 in
theorem compare_any (a b : Int) (w : World) : Calls Try.prog 40 #[.int .i64 a, .int .i64 b] w fun e w' => e = .returned (.int .i64 (cmpI a b)) ∧ w = w' := by
  have H1 : Hid (a < b → cmpI a b = -1) := Lib.hid (fun h => by unfold cmpI; rw [if_pos h])
  have H2 : Hid (b < a → cmpI a b = 1) := Lib.hid (fun h => by unfold cmpI; rw [if_neg (by omega), if_pos h])
  have H3 : Hid (¬ a < b → ¬ b < a → cmpI a b = 0) := Lib.hid (fun h h' => by unfold cmpI; rw [if_neg h, if_neg h'])
  obtain ⟨r, hr⟩ : ∃ r, r = cmpI a b := ⟨_, rfl⟩
  rw [← hr] at H1 H2 H3 ⊢
  clear hr
  by_cases h1 : a < b
  · have d1 : decide (a < b) = true := decide_eq_true h1
    have e := H1.out h1
    subst e
    clear H1 H2 H3 h1
    go_enter Try.func40, Try.ntmps40
    go_wp2_with (go_at_call 42; refine (isNaN_any _ _).mono ?_; rintro e w' ⟨rfl, rfl⟩)
    go_ret
    exact ⟨rfl, rfl⟩
  · have d1 : decide (a < b) = false := decide_eq_false h1
    by_cases h2 : b < a
    · have d2 : decide (b < a) = true := decide_eq_true h2
      have e := H2.out h2
      subst e
      clear H1 H2 H3 h1 h2
      go_enter Try.func40, Try.ntmps40
      go_wp2_with (go_at_call 42; refine (isNaN_any _ _).mono ?_; rintro e w' ⟨rfl, rfl⟩)
      go_ret
      exact ⟨rfl, rfl⟩
    · have d2 : decide (b < a) = false := decide_eq_false h2
      have e := H3.out h1 h2
      subst e
      clear H1 H2 H3 h1 h2
      go_enter Try.func40, Try.ntmps40
      go_wp2_with (go_at_call 42; refine (isNaN_any _ _).mono ?_; rintro e w' ⟨rfl, rfl⟩)
      go_ret
      exact ⟨rfl, rfl⟩
set_option maxHeartbeats 1000000 in
theorem bySpan_any (s a v t b u : Int) (w : World) : Calls Try.prog 33 #[.agg #[.int .i64 s, .int .i64 a, .int .u32 v], .agg #[.int .i64 t, .int .i64 b, .int .u32 u]] w fun e w' => e = .returned (.int .i64 (cmpI s t)) ∧ Below w.heap.size w w' := by
  go_enter Try.func33, Try.ntmps33
  go_wp2_with (go_at_call 40; refine (compare_any _ _ _).mono ?_; rintro e w' ⟨rfl, rfl⟩)
  go_ret
  exact ⟨rfl, ((Below.refl _ _).alloc (Nat.le_refl _) _).alloc (by simp) _⟩

/-- What the closure of fits asks: it answers whether one of the list is bad. -/
def fitB (m : Nat) (s : Int) (u : Un) : Bool := upB u.span s && upB u.at_ ((m : Int) - 1)
theorem fitB_iff {m : Nat} {s : Int} {u : Un} : fitB m s u = true ↔ FitU m s u := by
  unfold fitB FitU
  rw [Bool.and_eq_true, up_iff, up_iff]
  omega
set_option maxHeartbeats 2000000 in
theorem bad_any (p q : Option Addr) (m c n d : Nat) (s : Int) (B : Nat) (u : Un) (W : World) (hB : ∀ j, W.cell? ⟨B, j, none⟩ = (#[.slice p m c, .int .i64 s, .slice q n d] : Array Value)[j]?) (hlt : B < W.heap.size) (hm : m ≤ 10000) :
    Calls Try.prog 39 #[.agg #[.int .i64 u.span, .int .i64 u.at_, .int .u32 u.val], .pointer (some ⟨B, 0, none⟩)] W fun e w' => e = .returned (.bool (!fitB m s u)) ∧ Below W.heap.size W w' := by
  have hne : B ≠ W.heap.size := by omega
  obtain ⟨us, ua, uv⟩ := u
  have HF : Hid (fitB m s ⟨us, ua, uv⟩ = (upB us s && upB ua ((m : Int) - 1))) := Lib.hid rfl
  obtain ⟨r, hr⟩ : ∃ r, r = fitB m s ⟨us, ua, uv⟩ := ⟨_, rfl⟩
  rw [← hr] at HF ⊢
  dsimp only
  clear hr
  obtain ⟨b1, d1⟩ : ∃ b, upB us s = b := ⟨_, rfl⟩
  obtain ⟨b2, d2⟩ : ∃ b, upB ua ((m : Int) - 1) = b := ⟨_, rfl⟩
  rw [d1, d2] at HF
  have D1 := Lib.hid d1
  have D2 := Lib.hid d2
  clear d1 d2
  cases b1 with
  | false =>
    go_enter Try.func39, Try.ntmps39
    go_wp2_with (go_at_call 30; refine (upTo_any us s _).mono ?_; rw [D1.out]; rintro e w' ⟨rfl, rfl⟩)
    go_ret
    exact ⟨by rw [HF.out]; rfl, (Below.refl _ _).alloc (Nat.le_refl _) _⟩
  | true =>
    go_enter Try.func39, Try.ntmps39
    go_wp2_with (first | (go_at_call 30; refine (upTo_any us s _).mono ?_; rw [D1.out]; rintro e w' ⟨rfl, rfl⟩) | (go_at_call 22; refine (hasWord_at p q m c n d s ua _ hm).mono ?_; rw [D2.out]; rintro e w' ⟨rfl, hb⟩))
    go_ret
    exact ⟨by rw [HF.out]; rfl, ((Below.refl _ _).alloc (Nat.le_refl _) _).trans (hb.mono (by simp))⟩
end Go.Proofs.Ytbgllkjhgjoodaa
