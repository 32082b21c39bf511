/- word.Do and the document's own Do, for whatever operation and numbers, answer one and the same; the document's Bytes and Of; no condition but that the numbers fit their kinds. -/
import Derived.Test.YtdebkncjmbhneaaRef
import Derived.LoopTactic
namespace Go.Proofs.Ytdebkncjmbhneaa
set_option linter.unusedVariables false
open Go.ChangeShapes Go.WideShapes Go.ChangeAt Go.RowKit

theorem do_other (op b c : Int) (w : World) (h2 : (op == 2) = false) (h3 : (op == 3) = false) (h4 : (op == 4) = false) (h5 : (op == 5) = false) (h6 : (op == 6) = false) (h7 : (op == 7) = false) (h8 : (op == 8) = false) :
    Calls Try.prog 23 #[.int .i64 op, .int .u32 b, .int .u32 c] w fun e w' => e = .returned (.tuple #[.int .u32 0, .bool false]) ∧ w = w' := by
  go_enter Try.func23, Try.ntmps23
  go_wp2
  go_ret2
  exact ⟨rfl, rfl⟩

theorem ret_pair {a b : Int} {x y : Bool} (h : a = b) (k : x = y) : Ending.returned (.tuple #[.int .u32 a, .bool x]) = .returned (.tuple #[.int .u32 b, .bool y]) := by rw [h, k]

theorem do_any (op b c : Int) (w : World) : Calls Try.prog 23 #[.int .i64 op, .int .u32 b, .int .u32 c] w fun e w' => e = .returned (.tuple #[.int .u32 (doV op b c), .bool (doOk op)]) ∧ w = w' := by
  by_cases h2 : op = 2
  · subst h2; exact (do_add b c w).mono fun e w' h => ⟨h.1.trans (ret_pair rfl rfl), h.2⟩
  by_cases h3 : op = 3
  · subst h3; exact (do_sub b c w).mono fun e w' h => ⟨h.1.trans (ret_pair rfl rfl), h.2⟩
  by_cases h4 : op = 4
  · subst h4; exact (do_mul b c w).mono fun e w' h => ⟨h.1.trans (ret_pair rfl rfl), h.2⟩
  by_cases h5 : op = 5
  · subst h5; exact (do_and b c w).mono fun e w' h => ⟨h.1.trans (ret_pair rfl rfl), h.2⟩
  by_cases h6 : op = 6
  · subst h6; exact (do_xor b c w).mono fun e w' h => ⟨h.1.trans (ret_pair rfl rfl), h.2⟩
  by_cases h7 : op = 7
  · subst h7; exact (do_eq b c w).mono fun e w' h => ⟨h.1.trans (ret_pair rfl rfl), h.2⟩
  by_cases h8 : op = 8
  · subst h8; exact (do_lt b c w).mono fun e w' h => ⟨h.1.trans (ret_pair rfl rfl), h.2⟩
  refine (do_other op b c w (by simpa using h2) (by simpa using h3) (by simpa using h4) (by simpa using h5) (by simpa using h6) (by simpa using h7) (by simpa using h8)).mono fun e w' h => ⟨h.1.trans (ret_pair ?_ ?_), h.2⟩
  · unfold doV; rw [if_neg h2, if_neg h3, if_neg h4, if_neg h5, if_neg h6, if_neg h7, if_neg h8]
  · unfold doOk; symm; apply decide_eq_false; omega

theorem rdo_add (b c : Int) (w : World) (hb : 0 ≤ b ∧ b ≤ 4294967295) (hc : 0 ≤ c ∧ c ≤ 4294967295) : Calls Try.prog 19 #[.int .i64 2, .int .u32 b, .int .u32 c] w fun e w' => e = .returned (.tuple #[.int .u32 (uadd b c), .bool true]) ∧ w = w' := by
  have e : uadd b c = (b + c) % 4294967296 := wrap_u32 _
  rw [e]; clear e
  go_enter Try.func19, Try.ntmps19
  go_wp2
  go_ret2
  exact ⟨rfl, rfl⟩
theorem rdo_sub (b c : Int) (w : World) (hb : 0 ≤ b ∧ b ≤ 4294967295) (hc : 0 ≤ c ∧ c ≤ 4294967295) : Calls Try.prog 19 #[.int .i64 3, .int .u32 b, .int .u32 c] w fun e w' => e = .returned (.tuple #[.int .u32 (usub b c), .bool true]) ∧ w = w' := by
  have e : usub b c = (b + 4294967296 - c) % 4294967296 := by unfold usub; rw [wrap_u32]; omega
  rw [e]; clear e
  go_enter Try.func19, Try.ntmps19
  go_wp2
  go_ret2
  exact ⟨rfl, rfl⟩
theorem rdo_mul (b c : Int) (w : World) (hb : 0 ≤ b ∧ b ≤ 4294967295) (hc : 0 ≤ c ∧ c ≤ 4294967295) : Calls Try.prog 19 #[.int .i64 4, .int .u32 b, .int .u32 c] w fun e w' => e = .returned (.tuple #[.int .u32 (umul b c), .bool true]) ∧ w = w' := by
  have e : umul b c = b * c % 4294967296 := wrap_u32 _
  have m0 : 0 ≤ b * c := Int.mul_nonneg hb.1 hc.1
  have m1 : b * c ≤ 18446744065119617025 := by
    have := Int.mul_le_mul hb.2 hc.2 hc.1 (by omega : (0 : Int) ≤ 4294967295)
    omega
  rw [e]; clear e
  go_enter Try.func19, Try.ntmps19
  go_wp2
  go_ret2
  exact ⟨rfl, rfl⟩
theorem rdo_and (b c : Int) (w : World) (hb : 0 ≤ b ∧ b ≤ 4294967295) (hc : 0 ≤ c ∧ c ≤ 4294967295) : Calls Try.prog 19 #[.int .i64 5, .int .u32 b, .int .u32 c] w fun e w' => e = .returned (.tuple #[.int .u32 (uand b c), .bool true]) ∧ w = w' := by
  obtain ⟨n, rfl⟩ := Int.eq_ofNat_of_zero_le hb.1
  obtain ⟨m, rfl⟩ := Int.eq_ofNat_of_zero_le hc.1
  rw [and_of n m (by omega) (by omega)]
  go_enter Try.func19, Try.ntmps19
  go_wp2_with fail
  refine (bits_any true n m _ (by omega) (by omega)).mono ?_
  rintro e w' ⟨rfl, rfl⟩
  go_wp2
  go_ret2
  exact ⟨rfl, rfl⟩
theorem rdo_xor (b c : Int) (w : World) (hb : 0 ≤ b ∧ b ≤ 4294967295) (hc : 0 ≤ c ∧ c ≤ 4294967295) : Calls Try.prog 19 #[.int .i64 6, .int .u32 b, .int .u32 c] w fun e w' => e = .returned (.tuple #[.int .u32 (uxor b c), .bool true]) ∧ w = w' := by
  obtain ⟨n, rfl⟩ := Int.eq_ofNat_of_zero_le hb.1
  obtain ⟨m, rfl⟩ := Int.eq_ofNat_of_zero_le hc.1
  rw [xor_of n m (by omega) (by omega)]
  go_enter Try.func19, Try.ntmps19
  go_wp2_with fail
  refine (bits_any false n m _ (by omega) (by omega)).mono ?_
  rintro e w' ⟨rfl, rfl⟩
  go_wp2
  go_ret2
  exact ⟨rfl, rfl⟩
theorem rdo_eq (b c : Int) (w : World) (hb : 0 ≤ b ∧ b ≤ 4294967295) (hc : 0 ≤ c ∧ c ≤ 4294967295) : Calls Try.prog 19 #[.int .i64 7, .int .u32 b, .int .u32 c] w fun e w' => e = .returned (.tuple #[.int .u32 (ueq b c), .bool true]) ∧ w = w' := by
  by_cases h : b = c
  · have e : ueq b c = 1 := by unfold ueq; rw [if_pos h]
    rw [e]; clear e
    have h' : (b == c) = true := by simpa using h
    clear h
    go_enter Try.func19, Try.ntmps19
    go_wp2
    go_ret2
    exact ⟨rfl, rfl⟩
  · have e : ueq b c = 0 := by unfold ueq; rw [if_neg h]
    rw [e]; clear e
    have h' : (b == c) = false := by simpa using h
    clear h
    go_enter Try.func19, Try.ntmps19
    go_wp2
    go_ret2
    exact ⟨rfl, rfl⟩
theorem rdo_lt (b c : Int) (w : World) (hb : 0 ≤ b ∧ b ≤ 4294967295) (hc : 0 ≤ c ∧ c ≤ 4294967295) : Calls Try.prog 19 #[.int .i64 8, .int .u32 b, .int .u32 c] w fun e w' => e = .returned (.tuple #[.int .u32 (ult b c), .bool true]) ∧ w = w' := by
  by_cases h : b < c
  · have e : ult b c = 1 := by unfold ult; rw [if_pos h]
    rw [e]; clear e
    go_enter Try.func19, Try.ntmps19
    go_wp2
    go_ret2
    exact ⟨rfl, rfl⟩
  · have e : ult b c = 0 := by unfold ult; rw [if_neg h]
    rw [e]; clear e
    go_enter Try.func19, Try.ntmps19
    go_wp2
    go_ret2
    exact ⟨rfl, rfl⟩
theorem rdo_other (b c : Int) (w : World) (hb : 0 ≤ b ∧ b ≤ 4294967295) (hc : 0 ≤ c ∧ c ≤ 4294967295) (op : Int) (h2 : (op == 2) = false) (h3 : (op == 3) = false) (h4 : (op == 4) = false) (h5 : (op == 5) = false) (h6 : (op == 6) = false) (h7 : (op == 7) = false) (h8 : (op == 8) = false) :
    Calls Try.prog 19 #[.int .i64 op, .int .u32 b, .int .u32 c] w fun e w' => e = .returned (.tuple #[.int .u32 0, .bool false]) ∧ w = w' := by
  go_enter Try.func19, Try.ntmps19
  go_wp2
  go_ret2
  exact ⟨rfl, rfl⟩

theorem rdo_any (b c : Int) (w : World) (hb : 0 ≤ b ∧ b ≤ 4294967295) (hc : 0 ≤ c ∧ c ≤ 4294967295) (op : Int) : Calls Try.prog 19 #[.int .i64 op, .int .u32 b, .int .u32 c] w fun e w' => e = .returned (.tuple #[.int .u32 (doV op b c), .bool (doOk op)]) ∧ w = w' := by
  by_cases h2 : op = 2
  · subst h2; exact (rdo_add b c w hb hc).mono fun e w' h => ⟨h.1.trans (ret_pair rfl rfl), h.2⟩
  by_cases h3 : op = 3
  · subst h3; exact (rdo_sub b c w hb hc).mono fun e w' h => ⟨h.1.trans (ret_pair rfl rfl), h.2⟩
  by_cases h4 : op = 4
  · subst h4; exact (rdo_mul b c w hb hc).mono fun e w' h => ⟨h.1.trans (ret_pair rfl rfl), h.2⟩
  by_cases h5 : op = 5
  · subst h5; exact (rdo_and b c w hb hc).mono fun e w' h => ⟨h.1.trans (ret_pair rfl rfl), h.2⟩
  by_cases h6 : op = 6
  · subst h6; exact (rdo_xor b c w hb hc).mono fun e w' h => ⟨h.1.trans (ret_pair rfl rfl), h.2⟩
  by_cases h7 : op = 7
  · subst h7; exact (rdo_eq b c w hb hc).mono fun e w' h => ⟨h.1.trans (ret_pair rfl rfl), h.2⟩
  by_cases h8 : op = 8
  · subst h8; exact (rdo_lt b c w hb hc).mono fun e w' h => ⟨h.1.trans (ret_pair rfl rfl), h.2⟩
  refine (rdo_other b c w hb hc op (by simpa using h2) (by simpa using h3) (by simpa using h4) (by simpa using h5) (by simpa using h6) (by simpa using h7) (by simpa using h8)).mono fun e w' h => ⟨h.1.trans (ret_pair ?_ ?_), h.2⟩
  · unfold doV; rw [if_neg h2, if_neg h3, if_neg h4, if_neg h5, if_neg h6, if_neg h7, if_neg h8]
  · unfold doOk; symm; apply decide_eq_false; omega

def ofk (zs : List Int) : Nat → Int
  | 0 => 0
  | k + 1 => ofk zs k * 256 + zs.getD k 0
theorem ofk_four (zs : List Int) : ofk zs 4 = of4 (zs.getD 0 0) (zs.getD 1 0) (zs.getD 2 0) (zs.getD 3 0) := by
  simp [ofk, of4]
theorem ofk_bd (zs : List Int) (hb : ∀ k, 0 ≤ zs.getD k 0 ∧ zs.getD k 0 ≤ 255) (k : Nat) : 0 ≤ ofk zs k ∧ ofk zs k < 256 ^ k := by
  induction k with
  | zero => exact ⟨Int.le_refl 0, show (0 : Int) < 256 ^ 0 by decide⟩
  | succ k ih =>
    have := hb k
    have e : (256 : Int) ^ (k + 1) = 256 ^ k * 256 := Int.pow_succ 256 k
    rw [e]
    show 0 ≤ ofk zs k * 256 + zs.getD k 0 ∧ ofk zs k * 256 + zs.getD k 0 < 256 ^ k * 256
    omega
theorem ofk_small (zs : List Int) (hb : ∀ k, 0 ≤ zs.getD k 0 ∧ zs.getD k 0 ≤ 255) (k : Nat) (hk : k < 4) : 0 ≤ ofk zs k ∧ ofk zs k ≤ 16777215 := by
  have h := ofk_bd zs hb k
  have h' : k = 0 ∨ k = 1 ∨ k = 2 ∨ k = 3 := by omega
  rcases h' with rfl | rfl | rfl | rfl
  · have : (256 : Int) ^ 0 = 1 := by decide
    omega
  · have : (256 : Int) ^ 1 = 256 := by decide
    omega
  · have : (256 : Int) ^ 2 = 65536 := by decide
    omega
  · have : (256 : Int) ^ 3 = 16777216 := by decide
    omega

end Go.Proofs.Ytdebkncjmbhneaa
