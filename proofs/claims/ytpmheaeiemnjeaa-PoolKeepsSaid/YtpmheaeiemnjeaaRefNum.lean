/- Plain numbers for the document's answers of layer 1: bit by bit it is the same as at once; what an operation answers, by its number; no program is run here; no condition but the numbers' bounds. -/
import Derived.Test.YtpmheaeiemnjeaaNum
namespace Go.Proofs.Ytpmheaeiemnjeaa
set_option linter.unusedVariables false
open Go.RowKit

/-- What operation op makes of b and c, and whether there is one. -/
def doV (op b c : Int) : Int := if op = 2 then uadd b c else if op = 3 then usub b c else if op = 4 then umul b c else if op = 5 then uand b c else if op = 6 then uxor b c else if op = 7 then ueq b c else if op = 8 then ult b c else 0
def doOk (op : Int) : Bool := decide (2 ≤ op ∧ op ≤ 8)

/-- The number both of whose arguments' bits are met, bit by bit. -/
def bitN (same : Bool) (b c : Nat) : Nat := if same then b &&& c else b ^^^ c
def bitT (same x y : Bool) : Bool := if same then x && y else x != y

theorem bitN_test (same : Bool) (b c k : Nat) : (bitN same b c).testBit k = bitT same (b.testBit k) (c.testBit k) := by
  cases same <;> simp [bitN, bitT, Nat.testBit_and, Nat.testBit_xor]
theorem bitN_lt (same : Bool) (b c : Nat) (hb : b < 4294967296) (hc : c < 4294967296) : bitN same b c < 4294967296 := by
  cases same
  · exact Nat.xor_lt_two_pow (n := 32) hb hc
  · exact Nat.lt_of_le_of_lt Nat.and_le_left hb
theorem bitN_step (same : Bool) (b c k : Nat) :
    bitN same b c % 2 ^ (k + 1) = bitN same b c % 2 ^ k + (if bitT same (decide (b / 2 ^ k % 2 = 1)) (decide (c / 2 ^ k % 2 = 1)) then 2 ^ k else 0) := by
  have e : ∀ n : Nat, n.testBit k = decide (n / 2 ^ k % 2 = 1) := fun n => by rw [Nat.testBit_eq_decide_div_mod_eq]
  have hx := e (bitN same b c)
  rw [bitN_test, e b, e c] at hx
  rw [Nat.pow_succ, Nat.mod_mul, hx]
  have h2 : bitN same b c / 2 ^ k % 2 = 0 ∨ bitN same b c / 2 ^ k % 2 = 1 := by omega
  rcases h2 with h | h <;> simp [h]
theorem half (b k : Nat) : b / 2 ^ k / 2 = b / 2 ^ (k + 1) := by rw [Nat.div_div_eq_div_mul, Nat.pow_succ]
theorem and_of (b c : Nat) (hb : b < 4294967296) (hc : c < 4294967296) : uand b c = (bitN true b c : Nat) := u32_and_nat b c hb hc
theorem xor_of (b c : Nat) (hb : b < 4294967296) (hc : c < 4294967296) : uxor b c = (bitN false b c : Nat) := u32_xor_nat b c hb hc
theorem pow_le_31 (k : Nat) (h : k ≤ 31) : 2 ^ k ≤ 2147483648 := Nat.pow_le_pow_right (n := 2) (j := 31) (by decide) h
theorem pow_le_30 (k : Nat) (h : k ≤ 30) : 2 ^ k ≤ 1073741824 := Nat.pow_le_pow_right (n := 2) (j := 30) (by decide) h
/-- All that one round of the loop over the bits needs. -/
theorem bit_round (same : Bool) (b c X k : Nat) (hb : b < 4294967296) (hc : c < 4294967296) (hX : X = bitN same b c) (hk : k < 32) :
    ∃ B C N P : Nat, b / 2 ^ k = B ∧ c / 2 ^ k = C ∧ X % 2 ^ k = N ∧ 2 ^ k = P ∧ B ≤ 4294967295 ∧ C ≤ 4294967295 ∧ N < P ∧ P ≤ 2147483648 ∧ (k < 31 → P ≤ 1073741824) ∧ (k = 31 → P = 2147483648) ∧
      b / 2 ^ (k + 1) = B / 2 ∧ c / 2 ^ (k + 1) = C / 2 ∧ X % 2 ^ (k + 1) = N + (if bitT same (decide (B % 2 = 1)) (decide (C % 2 = 1)) then P else 0) ∧ 2 ^ (k + 1) = P * 2 :=
  ⟨_, _, _, _, rfl, rfl, rfl, rfl, Nat.le_trans (Nat.div_le_self _ _) (by omega), Nat.le_trans (Nat.div_le_self _ _) (by omega), Nat.mod_lt _ (Nat.pow_pos (by decide)), pow_le_31 k (by omega), fun h => pow_le_30 k (by omega),
    fun h => by subst h; rfl, (half b k).symm, (half c k).symm, by rw [hX]; exact bitN_step same b c k, Nat.pow_succ 2 k⟩
end Go.Proofs.Ytpmheaeiemnjeaa
