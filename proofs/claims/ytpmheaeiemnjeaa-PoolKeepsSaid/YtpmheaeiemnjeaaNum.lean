/- Plain numbers for layer 1: what the operations of word answer, as functions of integers, and what is true of them; no program is run here; no condition but the numbers' bounds. -/
import Derived.Laws.BitsAllLaws
import Derived.WalkKit
namespace Go.Proofs.Ytpmheaeiemnjeaa
open Go.RowKit

def uadd (b c : Int) : Int := IntKind.u32.wrap (b + c)
def usub (b c : Int) : Int := IntKind.u32.wrap (b - c)
def umul (b c : Int) : Int := IntKind.u32.wrap (b * c)
def uand (b c : Int) : Int := bits .and .u32 b c
def uxor (b c : Int) : Int := bits .xor .u32 b c
def ueq (b c : Int) : Int := if b = c then 1 else 0
def ult (b c : Int) : Int := if b < c then 1 else 0
def of4 (z0 z1 z2 z3 : Int) : Int := ((z0 * 256 + z1) * 256 + z2) * 256 + z3

theorem wrap_u32 (n : Int) : IntKind.u32.wrap n = n % 4294967296 := by
  simp [IntKind.wrap, IntKind.bits, IntKind.signed]

theorem ueq_bd (b c : Int) : 0 ≤ ueq b c ∧ ueq b c ≤ 1 := by unfold ueq; split <;> omega
theorem ult_bd (b c : Int) : 0 ≤ ult b c ∧ ult b c ≤ 1 := by unfold ult; split <;> omega
theorem one_of (b c : Int) : ueq b c + ult b c + ult c b = 1 := by
  unfold ueq ult; split <;> split <;> split <;> omega
theorem sub_add (a b : Int) (h0 : 0 ≤ a) (h1 : a ≤ 4294967295) : usub (uadd a b) b = a := by
  unfold usub uadd; rw [wrap_u32, wrap_u32]; omega
theorem xor_xor (a b : Int) (h0 : 0 ≤ a) (h1 : a ≤ 4294967295) (h2 : 0 ≤ b) (h3 : b ≤ 4294967295) : uxor (uxor a b) b = a := by
  obtain ⟨n, rfl⟩ := Int.eq_ofNat_of_zero_le h0
  obtain ⟨m, rfl⟩ := Int.eq_ofNat_of_zero_le h2
  unfold uxor
  have hx : n ^^^ m < 4294967296 := Nat.xor_lt_two_pow (n := 32) (by omega) (by omega)
  rw [u32_xor_nat n m (by omega) (by omega), u32_xor_nat _ m hx (by omega), Nat.xor_assoc, Nat.xor_self, Nat.xor_zero]
theorem and_le (a b : Int) (h0 : 0 ≤ a) (h1 : a ≤ 4294967295) (h2 : 0 ≤ b) (h3 : b ≤ 4294967295) : uand a b ≤ a ∧ uand a b ≤ b := by
  obtain ⟨n, rfl⟩ := Int.eq_ofNat_of_zero_le h0
  obtain ⟨m, rfl⟩ := Int.eq_ofNat_of_zero_le h2
  unfold uand
  rw [u32_and_nat n m (by omega) (by omega)]
  have := Nat.and_le_left (n := n) (m := m)
  have := Nat.and_le_right (n := n) (m := m)
  omega
theorem or_mul (a b i m : Nat) (hm : m = 2 ^ i) (h : a < m) : (b * m) ||| a = b * m + a := by
  subst hm
  rw [← Nat.shiftLeft_eq, Nat.shiftLeft_add_eq_or_of_lt h]
theorem or_sum (x0 x1 x2 x3 : Int) (a0 : 0 ≤ x0) (b0 : x0 ≤ 255) (a1 : 0 ≤ x1) (b1 : x1 ≤ 255) (a2 : 0 ≤ x2) (b2 : x2 ≤ 255) (a3 : 0 ≤ x3) (b3 : x3 ≤ 255) :
    bits BinOp.or IntKind.u32 (bits BinOp.or IntKind.u32 (bits BinOp.or IntKind.u32 (x0 * 16777216) (x1 * 65536)) (x2 * 256)) x3 = of4 x0 x1 x2 x3 := by
  obtain ⟨n0, rfl⟩ := Int.eq_ofNat_of_zero_le a0
  obtain ⟨n1, rfl⟩ := Int.eq_ofNat_of_zero_le a1
  obtain ⟨n2, rfl⟩ := Int.eq_ofNat_of_zero_le a2
  obtain ⟨n3, rfl⟩ := Int.eq_ofNat_of_zero_le a3
  have e2 : ((n2 : Int) * 256) = ((n2 * 256 : Nat) : Int) := by omega
  have e1 : ((n1 : Int) * 65536) = ((n1 * 65536 : Nat) : Int) := by omega
  have e0 : ((n0 : Int) * 16777216) = ((n0 * 16777216 : Nat) : Int) := by omega
  rw [e2, e1, e0, u32_or_nat (n0 * 16777216) (n1 * 65536) (by omega) (by omega), or_mul (n1 * 65536) n0 24 16777216 (by decide) (by omega),
    u32_or_nat _ (n2 * 256) (by omega) (by omega), show n0 * 16777216 + n1 * 65536 = (n0 * 256 + n1) * 65536 by omega, or_mul (n2 * 256) (n0 * 256 + n1) 16 65536 (by decide) (by omega),
    u32_or_nat _ n3 (by omega) (by omega), show (n0 * 256 + n1) * 65536 + n2 * 256 = ((n0 * 256 + n1) * 256 + n2) * 256 by omega, or_mul n3 ((n0 * 256 + n1) * 256 + n2) 8 256 (by decide) (by omega)]
  unfold of4
  omega
theorem of4_bytes (n : Int) (_h0 : 0 ≤ n) (_h1 : n ≤ 4294967295) : of4 (n / 16777216) (n / 65536 % 256) (n / 256 % 256) (n % 256) = n := by
  unfold of4; omega
theorem place_next (n w : Int) (_h0 : 0 ≤ n) (h1 : 1 ≤ w) : (n + 1) % w = n % w + 1 ∨ n % w = w - 1 ∧ (n + 1) % w = 0 := by
  have h2 : 0 ≤ n % w := Int.emod_nonneg _ (by omega)
  have h3 : n % w < w := Int.emod_lt_of_pos _ (by omega)
  have e : (n + 1) % w = (n % w + 1) % w := by rw [Int.emod_add_emod]
  by_cases h : n % w + 1 < w
  · left; rw [e, Int.emod_eq_of_lt (by omega) h]
  · right; refine ⟨by omega, ?_⟩; rw [e, show n % w + 1 = w by omega, Int.emod_self]
theorem mul_comm' (a b : Int) : umul a b = umul b a := by unfold umul; rw [Int.mul_comm]
theorem add_comm' (a b : Int) : uadd a b = uadd b a := by unfold uadd; rw [Int.add_comm]
theorem mul_sum (a b c : Int) : umul (uadd a b) c = uadd (umul a c) (umul b c) := by
  unfold umul uadd; simp only [wrap_u32]
  rw [Int.mul_emod, Int.emod_emod_of_dvd _ (Int.dvd_refl _), ← Int.mul_emod, Int.add_mul]
  exact Int.add_emod _ _ _
end Go.Proofs.Ytpmheaeiemnjeaa
