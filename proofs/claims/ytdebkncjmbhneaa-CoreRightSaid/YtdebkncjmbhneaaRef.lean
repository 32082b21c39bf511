/- What the document's own answers of layer 1 (backstayref01) are, one contract each: bits, Do by operation, Bytes, Of; and word.Do for whatever operation; no condition but that the numbers fit their kinds. -/
import Derived.Test.YtdebkncjmbhneaaBase
import Derived.Test.YtdebkncjmbhneaaRefNum
import Derived.BigGuardPart
namespace Go.Proofs.Ytdebkncjmbhneaa
set_option linter.unusedVariables false
open Go.ChangeShapes Go.WideShapes Go.ChangeAt Go.RowKit

theorem ret_int {k : IntKind} {a b : Int} (h : a = b) : Ending.returned (.int k a) = .returned (.int k b) := by rw [h]

theorem bool_of {n : Nat} (h : n % 2 = 1) : ((n : Int) % 2 == 1) = true := by simp; omega
theorem bool_no {n : Nat} (h : ¬ n % 2 = 1) : ((n : Int) % 2 == 1) = false := by simp; omega

theorem val_half (B b k : Nat) (h : B / 2 = b / 2 ^ (k + 1)) : Value.int .u32 ((B : Int) / 2) = .int .u32 (b / 2 ^ (k + 1) : Nat) := by
  rw [← h]; congr 1
theorem val_eq {x y : Int} (h : x = y) : Value.int .u32 x = .int .u32 y := by rw [h]

set_option maxHeartbeats 4000000 in
theorem bits_any (same : Bool) (b c : Nat) (w : World) (hb : b < 4294967296) (hc : c < 4294967296) :
    Calls Try.prog 24 #[.int .u32 b, .int .u32 c, .bool same] w fun e w' => e = .returned (.int .u32 (bitN same b c : Nat)) ∧ w = w' := by
  have hN := bitN_lt same b c hb hc
  obtain ⟨X, eX⟩ : ∃ X, X = bitN same b c := ⟨_, rfl⟩
  have HX := Lib.hid eX
  rw [← eX] at hN ⊢
  clear eX
  go_enter Try.func24, Try.ntmps24
  go_wp2
  go_loop [0, 1, 7, 8, 9] (fun tb tc n wt i => ∃ k : Nat, k ≤ 32 ∧ tb = .int .u32 (b / 2 ^ k : Nat) ∧ tc = .int .u32 (c / 2 ^ k : Nat) ∧ n = .int .u32 (X % 2 ^ k : Nat) ∧ (∃ W : Nat, W ≤ 2147483648 ∧ (k < 32 → W = 2 ^ k) ∧ wt = .int .u32 W) ∧ i = .int .i64 k) (fun _ _ _ _ i => 32 - (intOf i).toNat)
  case atStart => exact ⟨0, by omega, by simp, by simp, by simp [Nat.mod_one], ⟨1, by omega, by simp, rfl⟩, rfl⟩
  case round =>
    obtain ⟨k, hk, rfl, rfl, rfl, ⟨W, hW, eW, rfl⟩, rfl⟩ := hrel
    by_cases hlt : k < 32
    · obtain rfl := eW hlt
      obtain ⟨B, C, N, P, eB, eC, eN, eP, h1, h2, h3, h4, h5, h6, q1, q2, q3, q4⟩ := bit_round same b c X k hb hc HX.out hlt
      rw [eB, eC, eN, eP]
      have Q1 := Lib.hid q1
      have Q2 := Lib.hid q2
      have Q3 := Lib.hid q3
      have Q4 := Lib.hid q4
      clear eB eC eN eP eW hW q1 q2 q3 q4 HX hb hc hN
      rcases Decidable.em (B % 2 = 1) with hx | hx
      all_goals rcases Decidable.em (C % 2 = 1) with hy | hy
      all_goals rcases (show k < 31 ∨ k = 31 by omega) with hm | hm
      all_goals cases same
      all_goals
        first | have tx := bool_of hx | have tx := bool_no hx
        first | have ty := bool_of hy | have ty := bool_no hy
        first | (have p30 := h5 hm; have HM := Lib.hid hm; clear hm) | (have HM := Lib.hid (And.intro hm (h6 hm)); clear hm)
        have hs := Q3.out
        simp only [hx, hy, bitT, decide_true, decide_false, Bool.and_true, Bool.and_false, if_true, if_false, bne_self_eq_false, Bool.false_eq_true, Bool.true_bne, Bool.false_bne, Bool.not_true, Bool.not_false, Nat.add_zero, Bool.and_self] at hs
        have HS := Lib.hid hs
        clear hs hx hy h5 h6 Q3
        go_wp2
        go_round
        case rel =>
          refine ⟨k + 1, by omega, val_eq (by rw [Q1.out]; rfl), val_eq (by rw [Q2.out]; rfl), val_eq (by rw [HS.out]; try rfl), ?_, by go_num⟩
          first
            | (have hk31 : k < 31 := HM.out
               exact ⟨2 ^ (k + 1), by rw [Q4.out]; omega, fun _ => rfl, val_eq (by rw [Q4.out]; omega)⟩)
            | (obtain ⟨h, h'⟩ := HM.out
               exact ⟨0, by omega, fun h => by omega, val_eq (by rw [h']; rfl)⟩)
        case measure => simp [intOf]; omega
    · have e32 : k = 32 := by omega
      subst e32
      clear eW
      go_wp2
      go_ret
      exact ⟨ret_int (by omega), rfl⟩
end Go.Proofs.Ytdebkncjmbhneaa
