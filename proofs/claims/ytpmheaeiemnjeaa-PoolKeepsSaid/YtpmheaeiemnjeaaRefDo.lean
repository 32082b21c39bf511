/- word.Do and the document's own Do, for whatever operation and numbers, answer one and the same; the document's Bytes and Of; no condition but that the numbers fit their kinds. -/
import Derived.Test.YtpmheaeiemnjeaaRef
import Derived.LoopTactic
namespace Go.Proofs.Ytpmheaeiemnjeaa
set_option linter.unusedVariables false
open Go.ChangeShapes Go.WideShapes Go.ChangeAt Go.RowKit

theorem ret_pair {a b : Int} {x y : Bool} (h : a = b) (k : x = y) : Ending.returned (.tuple #[.int .u32 a, .bool x]) = .returned (.tuple #[.int .u32 b, .bool y]) := by rw [h, k]

theorem rbytes_any (n : Int) (w : World) (h0 : 0 ≤ n) (h1 : n ≤ 4294967295) : Calls Try.prog 42 #[.int .u32 n] w fun e w' => e = .returned (.slice (some ⟨w.heap.size, 0, none⟩) 4 4) ∧ w' = w.alloc (.cells (row4 (n / 16777216) (n / 65536 % 256) (n / 256 % 256) (n % 256)) 5) := by
  go_enter Try.func42, Try.ntmps42
  go_wp2
  go_ret
  exact ⟨rfl, rfl⟩

def ofk (zs : List Int) : Nat → Int
  | 0 => 0
  | k + 1 => ofk zs k * 256 + zs.getD k 0
theorem ofk_four (zs : List Int) : ofk zs 4 = of4 (zs.getD 0 0) (zs.getD 1 0) (zs.getD 2 0) (zs.getD 3 0) := by
  simp [ofk, of4]
theorem ofk_bd (zs : List Int) (hb : ∀ k, 0 ≤ zs.getD k 0 ∧ zs.getD k 0 ≤ 255) (k : Nat) : 0 ≤ ofk zs k ∧ ofk zs k < 256 ^ k := by
  induction k with
  | zero => exact ⟨Int.le_refl 0, show (0 : Int) < 256 ^ 0 by decide⟩
  | succ k ih =>
    have := hb k
    have e : (256 : Int) ^ (k + 1) = 256 ^ k * 256 := Int.pow_succ 256 k
    rw [e]
    show 0 ≤ ofk zs k * 256 + zs.getD k 0 ∧ ofk zs k * 256 + zs.getD k 0 < 256 ^ k * 256
    omega
theorem ofk_small (zs : List Int) (hb : ∀ k, 0 ≤ zs.getD k 0 ∧ zs.getD k 0 ≤ 255) (k : Nat) (hk : k < 4) : 0 ≤ ofk zs k ∧ ofk zs k ≤ 16777215 := by
  have h := ofk_bd zs hb k
  have h' : k = 0 ∨ k = 1 ∨ k = 2 ∨ k = 3 := by omega
  rcases h' with rfl | rfl | rfl | rfl
  · have : (256 : Int) ^ 0 = 1 := by decide
    omega
  · have : (256 : Int) ^ 1 = 256 := by decide
    omega
  · have : (256 : Int) ^ 2 = 65536 := by decide
    omega
  · have : (256 : Int) ^ 3 = 16777216 := by decide
    omega

set_option maxHeartbeats 400000 in
theorem rof_any (p : Option Addr) (len cap : Nat) (zs : List Int) (w : World) (hm : len ≤ 1000) (hz : zs.length = len) (hb : ∀ k, 0 ≤ zs.getD k 0 ∧ zs.getD k 0 ≤ 255)
    (hc : 0 < len → ∃ b off, b < w.heap.size ∧ p = some ⟨b, off, none⟩ ∧ ∀ k, k < len → w.cell? ⟨b, off + k, none⟩ = some (.int .u8 (zs.getD k 0))) :
    Calls Try.prog 46 #[.slice p len cap] w fun e w' => e = .returned (.int .u32 (of4 (zs.getD 0 0) (zs.getD 1 0) (zs.getD 2 0) (zs.getD 3 0))) ∧ w = w' := by
  rw [← ofk_four zs]
  have HZ := Lib.hid hz
  have HB := Lib.hid hb
  have HC := Lib.hid hc
  clear hz hb hc
  go_enter Try.func46, Try.ntmps46
  go_wp2
  go_loop [3, 4] (fun n i => ∃ k : Nat, k ≤ 4 ∧ n = .int .u32 (ofk zs k) ∧ i = .int .i64 k) (fun _ i => 4 - (intOf i).toNat)
  case atStart => exact ⟨0, by omega, rfl, rfl⟩
  case round =>
    obtain ⟨k, hk, rfl, rfl⟩ := hrel
    by_cases hlt : k < 4
    · have hs := ofk_small zs HB.out k hlt
      have HS := Lib.hid (show ofk zs (k + 1) = ofk zs k * 256 + zs.getD k 0 from rfl)
      have hzk := HB.out k
      obtain ⟨Z, eZ⟩ : ∃ Z, Z = zs.getD k 0 := ⟨_, rfl⟩
      obtain ⟨N, eN⟩ : ∃ N, N = ofk zs k := ⟨_, rfl⟩
      rw [← eN] at hs ⊢
      rw [← eZ] at hzk
      by_cases hkl : k < len
      · obtain ⟨b, off, _, rfl, hcell⟩ := HC.out (by omega)
        have hck := hcell k hkl
        rw [← eZ] at hck
        have HN := Lib.hid eN
        have HZk := Lib.hid eZ
        clear eN eZ hcell
        go_wp2
        go_round
        case rel => exact ⟨k + 1, by omega, val_eq (by rw [HS.out, ← HN.out, ← HZk.out]), by go_num⟩
        case measure => simp [intOf]; omega
      · have hz0 : Z = 0 := by have hl := HZ.out; rw [eZ]; simp [List.getD, List.getElem?_eq_none (show zs.length ≤ k by omega)]
        have HN := Lib.hid eN
        have HZk := Lib.hid (eZ.symm.trans hz0)
        clear eN eZ hz0
        go_wp2
        go_round
        case rel => exact ⟨k + 1, by omega, val_eq (by rw [HS.out, ← HN.out, HZk.out, Int.add_zero]), by go_num⟩
        case measure => simp [intOf]; omega
    · obtain rfl : k = 4 := by omega
      go_wp2
      go_ret
      exact ⟨rfl, rfl⟩

end Go.Proofs.Ytpmheaeiemnjeaa
