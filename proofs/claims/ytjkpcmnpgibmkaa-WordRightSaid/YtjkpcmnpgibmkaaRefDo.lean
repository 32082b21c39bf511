/- word.Do and the document's own Do, for whatever operation and numbers, answer one and the same; the document's Bytes and Of; no condition but that the numbers fit their kinds. -/
import Derived.Test.YtjkpcmnpgibmkaaRef
import Derived.LoopTactic
namespace Go.Proofs.Ytjkpcmnpgibmkaa
set_option linter.unusedVariables false
open Go.ChangeShapes Go.WideShapes Go.ChangeAt Go.RowKit

theorem do_other (op b c : Int) (w : World) (h2 : (op == 2) = false) (h3 : (op == 3) = false) (h4 : (op == 4) = false) (h5 : (op == 5) = false) (h6 : (op == 6) = false) (h7 : (op == 7) = false) (h8 : (op == 8) = false) :
    Calls Try.prog 8 #[.int .i64 op, .int .u32 b, .int .u32 c] w fun e w' => e = .returned (.tuple #[.int .u32 0, .bool false]) ∧ w = w' := by
  go_enter Try.func8, Try.ntmps8
  go_wp2
  go_ret2
  exact ⟨rfl, rfl⟩

theorem ret_pair {a b : Int} {x y : Bool} (h : a = b) (k : x = y) : Ending.returned (.tuple #[.int .u32 a, .bool x]) = .returned (.tuple #[.int .u32 b, .bool y]) := by rw [h, k]

theorem do_any (op b c : Int) (w : World) : Calls Try.prog 8 #[.int .i64 op, .int .u32 b, .int .u32 c] w fun e w' => e = .returned (.tuple #[.int .u32 (doV op b c), .bool (doOk op)]) ∧ w = w' := by
  by_cases h2 : op = 2
  · subst h2; exact (do_add b c w).mono fun e w' h => ⟨h.1.trans (ret_pair rfl rfl), h.2⟩
  by_cases h3 : op = 3
  · subst h3; exact (do_sub b c w).mono fun e w' h => ⟨h.1.trans (ret_pair rfl rfl), h.2⟩
  by_cases h4 : op = 4
  · subst h4; exact (do_mul b c w).mono fun e w' h => ⟨h.1.trans (ret_pair rfl rfl), h.2⟩
  by_cases h5 : op = 5
  · subst h5; exact (do_and b c w).mono fun e w' h => ⟨h.1.trans (ret_pair rfl rfl), h.2⟩
  by_cases h6 : op = 6
  · subst h6; exact (do_xor b c w).mono fun e w' h => ⟨h.1.trans (ret_pair rfl rfl), h.2⟩
  by_cases h7 : op = 7
  · subst h7; exact (do_eq b c w).mono fun e w' h => ⟨h.1.trans (ret_pair rfl rfl), h.2⟩
  by_cases h8 : op = 8
  · subst h8; exact (do_lt b c w).mono fun e w' h => ⟨h.1.trans (ret_pair rfl rfl), h.2⟩
  refine (do_other op b c w (by simpa using h2) (by simpa using h3) (by simpa using h4) (by simpa using h5) (by simpa using h6) (by simpa using h7) (by simpa using h8)).mono fun e w' h => ⟨h.1.trans (ret_pair ?_ ?_), h.2⟩
  · unfold doV; rw [if_neg h2, if_neg h3, if_neg h4, if_neg h5, if_neg h6, if_neg h7, if_neg h8]
  · unfold doOk; symm; apply decide_eq_false; omega

theorem rdo_add (b c : Int) (w : World) (hb : 0 ≤ b ∧ b ≤ 4294967295) (hc : 0 ≤ c ∧ c ≤ 4294967295) : Calls Try.prog 9 #[.int .i64 2, .int .u32 b, .int .u32 c] w fun e w' => e = .returned (.tuple #[.int .u32 (uadd b c), .bool true]) ∧ w = w' := by
  have e : uadd b c = (b + c) % 4294967296 := wrap_u32 _
  rw [e]; clear e
  go_enter Try.func9, Try.ntmps9
  go_wp2
  go_ret2
  exact ⟨rfl, rfl⟩
theorem rdo_sub (b c : Int) (w : World) (hb : 0 ≤ b ∧ b ≤ 4294967295) (hc : 0 ≤ c ∧ c ≤ 4294967295) : Calls Try.prog 9 #[.int .i64 3, .int .u32 b, .int .u32 c] w fun e w' => e = .returned (.tuple #[.int .u32 (usub b c), .bool true]) ∧ w = w' := by
  have e : usub b c = (b + 4294967296 - c) % 4294967296 := by unfold usub; rw [wrap_u32]; omega
  rw [e]; clear e
  go_enter Try.func9, Try.ntmps9
  go_wp2
  go_ret2
  exact ⟨rfl, rfl⟩
theorem rdo_mul (b c : Int) (w : World) (hb : 0 ≤ b ∧ b ≤ 4294967295) (hc : 0 ≤ c ∧ c ≤ 4294967295) : Calls Try.prog 9 #[.int .i64 4, .int .u32 b, .int .u32 c] w fun e w' => e = .returned (.tuple #[.int .u32 (umul b c), .bool true]) ∧ w = w' := by
  have e : umul b c = b * c % 4294967296 := wrap_u32 _
  have m0 : 0 ≤ b * c := Int.mul_nonneg hb.1 hc.1
  have m1 : b * c ≤ 18446744065119617025 := by
    have := Int.mul_le_mul hb.2 hc.2 hc.1 (by omega : (0 : Int) ≤ 4294967295)
    omega
  rw [e]; clear e
  go_enter Try.func9, Try.ntmps9
  go_wp2
  go_ret2
  exact ⟨rfl, rfl⟩
theorem rdo_and (b c : Int) (w : World) (hb : 0 ≤ b ∧ b ≤ 4294967295) (hc : 0 ≤ c ∧ c ≤ 4294967295) : Calls Try.prog 9 #[.int .i64 5, .int .u32 b, .int .u32 c] w fun e w' => e = .returned (.tuple #[.int .u32 (uand b c), .bool true]) ∧ w = w' := by
  obtain ⟨n, rfl⟩ := Int.eq_ofNat_of_zero_le hb.1
  obtain ⟨m, rfl⟩ := Int.eq_ofNat_of_zero_le hc.1
  rw [and_of n m (by omega) (by omega)]
  go_enter Try.func9, Try.ntmps9
  go_wp2_with fail
  refine (bits_any true n m _ (by omega) (by omega)).mono ?_
  rintro e w' ⟨rfl, rfl⟩
  go_wp2
  go_ret2
  exact ⟨rfl, rfl⟩
theorem rdo_xor (b c : Int) (w : World) (hb : 0 ≤ b ∧ b ≤ 4294967295) (hc : 0 ≤ c ∧ c ≤ 4294967295) : Calls Try.prog 9 #[.int .i64 6, .int .u32 b, .int .u32 c] w fun e w' => e = .returned (.tuple #[.int .u32 (uxor b c), .bool true]) ∧ w = w' := by
  obtain ⟨n, rfl⟩ := Int.eq_ofNat_of_zero_le hb.1
  obtain ⟨m, rfl⟩ := Int.eq_ofNat_of_zero_le hc.1
  rw [xor_of n m (by omega) (by omega)]
  go_enter Try.func9, Try.ntmps9
  go_wp2_with fail
  refine (bits_any false n m _ (by omega) (by omega)).mono ?_
  rintro e w' ⟨rfl, rfl⟩
  go_wp2
  go_ret2
  exact ⟨rfl, rfl⟩
theorem rdo_eq (b c : Int) (w : World) (hb : 0 ≤ b ∧ b ≤ 4294967295) (hc : 0 ≤ c ∧ c ≤ 4294967295) : Calls Try.prog 9 #[.int .i64 7, .int .u32 b, .int .u32 c] w fun e w' => e = .returned (.tuple #[.int .u32 (ueq b c), .bool true]) ∧ w = w' := by
  by_cases h : b = c
  · have e : ueq b c = 1 := by unfold ueq; rw [if_pos h]
    rw [e]; clear e
    have h' : (b == c) = true := by simpa using h
    clear h
    go_enter Try.func9, Try.ntmps9
    go_wp2
    go_ret2
    exact ⟨rfl, rfl⟩
  · have e : ueq b c = 0 := by unfold ueq; rw [if_neg h]
    rw [e]; clear e
    have h' : (b == c) = false := by simpa using h
    clear h
    go_enter Try.func9, Try.ntmps9
    go_wp2
    go_ret2
    exact ⟨rfl, rfl⟩
theorem rdo_lt (b c : Int) (w : World) (hb : 0 ≤ b ∧ b ≤ 4294967295) (hc : 0 ≤ c ∧ c ≤ 4294967295) : Calls Try.prog 9 #[.int .i64 8, .int .u32 b, .int .u32 c] w fun e w' => e = .returned (.tuple #[.int .u32 (ult b c), .bool true]) ∧ w = w' := by
  by_cases h : b < c
  · have e : ult b c = 1 := by unfold ult; rw [if_pos h]
    rw [e]; clear e
    go_enter Try.func9, Try.ntmps9
    go_wp2
    go_ret2
    exact ⟨rfl, rfl⟩
  · have e : ult b c = 0 := by unfold ult; rw [if_neg h]
    rw [e]; clear e
    go_enter Try.func9, Try.ntmps9
    go_wp2
    go_ret2
    exact ⟨rfl, rfl⟩
theorem rdo_other (b c : Int) (w : World) (hb : 0 ≤ b ∧ b ≤ 4294967295) (hc : 0 ≤ c ∧ c ≤ 4294967295) (op : Int) (h2 : (op == 2) = false) (h3 : (op == 3) = false) (h4 : (op == 4) = false) (h5 : (op == 5) = false) (h6 : (op == 6) = false) (h7 : (op == 7) = false) (h8 : (op == 8) = false) :
    Calls Try.prog 9 #[.int .i64 op, .int .u32 b, .int .u32 c] w fun e w' => e = .returned (.tuple #[.int .u32 0, .bool false]) ∧ w = w' := by
  go_enter Try.func9, Try.ntmps9
  go_wp2
  go_ret2
  exact ⟨rfl, rfl⟩

theorem rdo_any (b c : Int) (w : World) (hb : 0 ≤ b ∧ b ≤ 4294967295) (hc : 0 ≤ c ∧ c ≤ 4294967295) (op : Int) : Calls Try.prog 9 #[.int .i64 op, .int .u32 b, .int .u32 c] w fun e w' => e = .returned (.tuple #[.int .u32 (doV op b c), .bool (doOk op)]) ∧ w = w' := by
  by_cases h2 : op = 2
  · subst h2; exact (rdo_add b c w hb hc).mono fun e w' h => ⟨h.1.trans (ret_pair rfl rfl), h.2⟩
  by_cases h3 : op = 3
  · subst h3; exact (rdo_sub b c w hb hc).mono fun e w' h => ⟨h.1.trans (ret_pair rfl rfl), h.2⟩
  by_cases h4 : op = 4
  · subst h4; exact (rdo_mul b c w hb hc).mono fun e w' h => ⟨h.1.trans (ret_pair rfl rfl), h.2⟩
  by_cases h5 : op = 5
  · subst h5; exact (rdo_and b c w hb hc).mono fun e w' h => ⟨h.1.trans (ret_pair rfl rfl), h.2⟩
  by_cases h6 : op = 6
  · subst h6; exact (rdo_xor b c w hb hc).mono fun e w' h => ⟨h.1.trans (ret_pair rfl rfl), h.2⟩
  by_cases h7 : op = 7
  · subst h7; exact (rdo_eq b c w hb hc).mono fun e w' h => ⟨h.1.trans (ret_pair rfl rfl), h.2⟩
  by_cases h8 : op = 8
  · subst h8; exact (rdo_lt b c w hb hc).mono fun e w' h => ⟨h.1.trans (ret_pair rfl rfl), h.2⟩
  refine (rdo_other b c w hb hc op (by simpa using h2) (by simpa using h3) (by simpa using h4) (by simpa using h5) (by simpa using h6) (by simpa using h7) (by simpa using h8)).mono fun e w' h => ⟨h.1.trans (ret_pair ?_ ?_), h.2⟩
  · unfold doV; rw [if_neg h2, if_neg h3, if_neg h4, if_neg h5, if_neg h6, if_neg h7, if_neg h8]
  · unfold doOk; symm; apply decide_eq_false; omega

theorem rbytes_any (n : Int) (w : World) (h0 : 0 ≤ n) (h1 : n ≤ 4294967295) : Calls Try.prog 12 #[.int .u32 n] w fun e w' => e = .returned (.slice (some ⟨w.heap.size, 0, none⟩) 4 4) ∧ w' = w.alloc (.cells (row4 (n / 16777216) (n / 65536 % 256) (n / 256 % 256) (n % 256)) 5) := by
  go_enter Try.func12, Try.ntmps12
  go_wp2
  go_ret
  exact ⟨rfl, rfl⟩

def ofk (zs : List Int) : Nat → Int
  | 0 => 0
  | k + 1 => ofk zs k * 256 + zs.getD k 0
theorem ofk_four (zs : List Int) : ofk zs 4 = of4 (zs.getD 0 0) (zs.getD 1 0) (zs.getD 2 0) (zs.getD 3 0) := by
  simp [ofk, of4]
theorem ofk_bd (zs : List Int) (hb : ∀ k, 0 ≤ zs.getD k 0 ∧ zs.getD k 0 ≤ 255) (k : Nat) : 0 ≤ ofk zs k ∧ ofk zs k < 256 ^ k := by
  induction k with
  | zero => exact ⟨Int.le_refl 0, show (0 : Int) < 256 ^ 0 by decide⟩
  | succ k ih =>
    have := hb k
    have e : (256 : Int) ^ (k + 1) = 256 ^ k * 256 := Int.pow_succ 256 k
    rw [e]
    show 0 ≤ ofk zs k * 256 + zs.getD k 0 ∧ ofk zs k * 256 + zs.getD k 0 < 256 ^ k * 256
    omega
theorem ofk_small (zs : List Int) (hb : ∀ k, 0 ≤ zs.getD k 0 ∧ zs.getD k 0 ≤ 255) (k : Nat) (hk : k < 4) : 0 ≤ ofk zs k ∧ ofk zs k ≤ 16777215 := by
  have h := ofk_bd zs hb k
  have h' : k = 0 ∨ k = 1 ∨ k = 2 ∨ k = 3 := by omega
  rcases h' with rfl | rfl | rfl | rfl
  · have : (256 : Int) ^ 0 = 1 := by decide
    omega
  · have : (256 : Int) ^ 1 = 256 := by decide
    omega
  · have : (256 : Int) ^ 2 = 65536 := by decide
    omega
  · have : (256 : Int) ^ 3 = 16777216 := by decide
    omega

set_option maxHeartbeats 400000 in
theorem rof_any (p : Option Addr) (len cap : Nat) (zs : List Int) (w : World) (hm : len ≤ 1000) (hz : zs.length = len) (hb : ∀ k, 0 ≤ zs.getD k 0 ∧ zs.getD k 0 ≤ 255)
    (hc : 0 < len → ∃ b off, b < w.heap.size ∧ p = some ⟨b, off, none⟩ ∧ ∀ k, k < len → w.cell? ⟨b, off + k, none⟩ = some (.int .u8 (zs.getD k 0))) :
    Calls Try.prog 14 #[.slice p len cap] w fun e w' => e = .returned (.int .u32 (of4 (zs.getD 0 0) (zs.getD 1 0) (zs.getD 2 0) (zs.getD 3 0))) ∧ w = w' := by
  rw [← ofk_four zs]
  have HZ := Lib.hid hz
  have HB := Lib.hid hb
  have HC := Lib.hid hc
  clear hz hb hc
  go_enter Try.func14, Try.ntmps14
  go_wp2
  go_loop [3, 4] (fun n i => ∃ k : Nat, k ≤ 4 ∧ n = .int .u32 (ofk zs k) ∧ i = .int .i64 k) (fun _ i => 4 - (intOf i).toNat)
  case atStart => exact ⟨0, by omega, rfl, rfl⟩
  case round =>
    obtain ⟨k, hk, rfl, rfl⟩ := hrel
    by_cases hlt : k < 4
    · have hs := ofk_small zs HB.out k hlt
      have HS := Lib.hid (show ofk zs (k + 1) = ofk zs k * 256 + zs.getD k 0 from rfl)
      have hzk := HB.out k
      obtain ⟨Z, eZ⟩ : ∃ Z, Z = zs.getD k 0 := ⟨_, rfl⟩
      obtain ⟨N, eN⟩ : ∃ N, N = ofk zs k := ⟨_, rfl⟩
      rw [← eN] at hs ⊢
      rw [← eZ] at hzk
      by_cases hkl : k < len
      · obtain ⟨b, off, _, rfl, hcell⟩ := HC.out (by omega)
        have hck := hcell k hkl
        rw [← eZ] at hck
        have HN := Lib.hid eN
        have HZk := Lib.hid eZ
        clear eN eZ hcell
        go_wp2
        go_round
        case rel => exact ⟨k + 1, by omega, val_eq (by rw [HS.out, ← HN.out, ← HZk.out]), by go_num⟩
        case measure => simp [intOf]; omega
      · have hz0 : Z = 0 := by have hl := HZ.out; rw [eZ]; simp [List.getD, List.getElem?_eq_none (show zs.length ≤ k by omega)]
        have HN := Lib.hid eN
        have HZk := Lib.hid (eZ.symm.trans hz0)
        clear eN eZ hz0
        go_wp2
        go_round
        case rel => exact ⟨k + 1, by omega, val_eq (by rw [HS.out, ← HN.out, HZk.out, Int.add_zero]), by go_num⟩
        case measure => simp [intOf]; omega
    · obtain rfl : k = 4 := by omega
      go_wp2
      go_ret
      exact ⟨rfl, rfl⟩

set_option maxHeartbeats 400000 in
theorem awake_below (w : World) : Calls Try.prog 7 #[] w fun e w' => e = .returned (.bool true) ∧ Below w.heap.size w w' := by
  go_enter Try.func7, Try.ntmps7
  go_wp2_with fail
  refine (do_add _ _ _).mono ?_
  rintro e w' ⟨rfl, rfl⟩
  rw [add_fixed]
  go_wp2_with fail
  refine (bytes_any 258 _ (by omega) (by omega)).mono ?_
  rintro e w' ⟨rfl, rfl⟩
  unfold row4
  go_wp2_with fail
  refine (place_pos 17 5 _ (by omega) (by omega) (by omega) (by omega)).mono ?_
  rintro e w' ⟨rfl, rfl⟩
  go_wp2_with fail
  refine (of_new _ _ _ _ _ _ (by exact (MapKept.heap_alloc w _).1) (by omega) (by omega) (by omega) (by omega)).mono ?_
  rintro e w' ⟨rfl, rfl⟩
  rw [of_fixed]
  go_wp2
  go_ret
  exact ⟨rfl, ((Below.refl _ _).alloc (Nat.le_refl _) _).alloc (by simp) _⟩
end Go.Proofs.Ytjkpcmnpgibmkaa
