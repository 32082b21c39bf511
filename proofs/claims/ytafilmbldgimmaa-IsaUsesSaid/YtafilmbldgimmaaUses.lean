/- The walk of IsaUses, by what the operation uses: for each of the six ways that operations use registers and a constant, and for numbers that are no operation's. -/
import Derived.Test.YtafilmbldgimmaaAwake
namespace Go.Proofs.Ytafilmbldgimmaa.isaUses
open Go.ChangeShapes Go.WideShapes Go.ChangeAt Go.RowKit

theorem may_is (op a b c k n : Int) (w : World) (r : Bool) (hk0 : 0 ≤ k) (hk1 : k ≤ 4294967295) (hr : mayB ⟨op, a, b, c, k⟩ n = r) :
    Calls Try.prog 10 #[.agg #[.int .i64 op, .int .i64 a, .int .i64 b, .int .i64 c, .int .u32 k], .int .i64 n] w fun e w' => e = .returned (.bool r) ∧ Below w.heap.size w w' := by
  subst hr
  exact may_any ⟨op, a, b, c, k⟩ n w hk0 hk1
theorem uses_is (op : Int) (w : World) (a b c k : Bool) (ha : useA op = a) (hb : useB op = b) (hc : useC op = c) (hk : useK op = k) :
    Calls Try.prog 14 #[.int .i64 op] w fun e w' => e = .returned (.tuple #[.bool a, .bool b, .bool c, .bool k]) ∧ w = w' := by
  subst ha hb hc hk
  exact uses_any op w
theorem reg_high {r : Int} (u : Bool) (h : 8 ≤ r) : regB r u = false := by
  unfold regB
  cases u
  · exact decide_eq_false (by omega)
  · exact decide_eq_false (by omega)
theorem may_high_a {op a b c k n : Int} (h : 8 ≤ a) : mayB ⟨op, a, b, c, k⟩ n = false := by unfold mayB; rw [reg_high _ h]; simp
theorem may_high_b {op a b c k n : Int} (h : 8 ≤ b) : mayB ⟨op, a, b, c, k⟩ n = false := by unfold mayB; rw [reg_high _ h]; simp
theorem may_high_c {op a b c k n : Int} (h : 8 ≤ c) : mayB ⟨op, a, b, c, k⟩ n = false := by unfold mayB; rw [reg_high _ h]; simp
theorem reg_low {r : Int} (u : Bool) (h0 : 0 ≤ r) (h1 : r < 8) (h2 : u = true ∨ r = 0) : regB r u = true := by
  unfold regB
  cases u
  · exact decide_eq_true (by simpa using h2)
  · exact decide_eq_true ⟨h0, h1⟩
theorem may_low {op a b c k n : Int} (ho : 1 ≤ op ∧ op ≤ 16) (ha0 : 0 ≤ a) (ha1 : a < 8) (ha2 : useA op = true ∨ a = 0) (hb0 : 0 ≤ b) (hb1 : b < 8) (hb2 : useB op = true ∨ b = 0)
    (hc0 : 0 ≤ c) (hc1 : c < 8) (hc2 : useC op = true ∨ c = 0) : mayB ⟨op, a, b, c, k⟩ n = conB op k (useK op) n := by
  unfold mayB isOp
  rw [decide_eq_true ho, reg_low _ ha0 ha1 ha2, reg_low _ hb0 hb1 hb2, reg_low _ hc0 hc1 hc2]
  rfl
theorem con_used {op k n : Int} (h : op = 1 ∨ k < n) : conB op k true n = true := decide_eq_true h
theorem con_high {op k n : Int} (h : n ≤ k) : conB op k true n = (op == 1) := by
  unfold conB
  rw [if_pos rfl, Bool.eq_iff_iff]
  simp
  omega
theorem con_zero {op n : Int} : conB op 0 false n = true := rfl
theorem con_more {op k n : Int} (h : 0 < k) : conB op k false n = false := decide_eq_false (by omega)
theorem bcell {W w1 : World} (hb : Below W.heap.size W w1) : ∀ b o, b < W.heap.size → w1.cell? ⟨b, o, none⟩ = W.cell? ⟨b, o, none⟩ := fun b o h => hb.cell (p := ⟨b, o, none⟩) h
theorem bfroz {W w1 : World} (hb : Below W.heap.size W w1) : ∀ b o, b < W.heap.size → w1.frozen? ⟨b, o, none⟩ = W.frozen? ⟨b, o, none⟩ := fun b o h => hb.frozen (p := ⟨b, o, none⟩) h

set_option maxHeartbeats 400000 in
theorem walkN (op a b c k m : Int) (w : World) (ho : op < 1 ∨ 16 < op) :
    Calls Try.prog 4 #[.int .i64 op, .int .u8 a, .int .u8 b, .int .u8 c, .int .u32 k, .int .u8 m] w fun e w' => e = .returned (.bool true) ∧ Below w.heap.size w w' := by
  have ua := Lib.hid (show useA op = false from decide_eq_false (by omega))
  have ub := Lib.hid (show useB op = false from decide_eq_false (by omega))
  have uc := Lib.hid (show useC op = false from decide_eq_false (by omega))
  have uk := Lib.hid (show useK op = false from decide_eq_false (by omega))
  have hm := Lib.hid (show mayB ⟨op, 0, 0, 0, 0⟩ 5 = false by unfold mayB; rw [isOp_out ho]; rfl)
  have ht : (decide (op < 1) || decide (16 < op)) = true := by simpa using ho
  rcases ho with ho | ho
  · have d1 : decide (op < 1) = true := decide_eq_true ho
    clear ho ht
    go_enter Try.func4, Try.ntmps4
    go_wp2_with fail
    refine (awake_any _).mono ?_
    rintro e w1 ⟨rfl, hb1⟩
    have HB1 := Lib.hid hb1
    clear hb1
    go_wp2_with fail
    refine (uses_is _ _ _ _ _ _ ua.out ub.out uc.out uk.out).mono ?_
    rintro e w' ⟨rfl, rfl⟩
    go_wp2_with fail
    refine (may_is _ _ _ _ _ _ _ _ (by decide) (by decide) hm.out).mono ?_
    rintro e w2 ⟨rfl, hb2⟩
    have HB2 := Lib.hid hb2
    clear hb2
    go_wp2
    go_ret
    exact ⟨rfl, HB1.out.trans (HB2.out.mono HB1.out.size)⟩
  · have d1 : decide (op < 1) = false := decide_eq_false (by omega)
    have d2 : decide (16 < op) = true := decide_eq_true ho
    clear ho ht
    go_enter Try.func4, Try.ntmps4
    go_wp2_with fail
    refine (awake_any _).mono ?_
    rintro e w1 ⟨rfl, hb1⟩
    have HB1 := Lib.hid hb1
    clear hb1
    go_wp2_with fail
    refine (uses_is _ _ _ _ _ _ ua.out ub.out uc.out uk.out).mono ?_
    rintro e w' ⟨rfl, rfl⟩
    go_wp2_with fail
    refine (may_is _ _ _ _ _ _ _ _ (by decide) (by decide) hm.out).mono ?_
    rintro e w2 ⟨rfl, hb2⟩
    have HB2 := Lib.hid hb2
    clear hb2
    go_wp2
    go_ret
    exact ⟨rfl, HB1.out.trans (HB2.out.mono HB1.out.size)⟩

set_option maxRecDepth 100000 in
set_option maxHeartbeats 2000000 in
theorem walkABC (op a b c k m : Int) (w : World) (a0 : 0 ≤ a) (a1 : a ≤ 255) (b0 : 0 ≤ b) (b1 : b ≤ 255) (c0 : 0 ≤ c) (c1 : c ≤ 255) (k0 : 0 ≤ k) (k1 : k ≤ 4294967295) (m0 : 0 ≤ m) (m1 : m ≤ 255) (ho : 2 ≤ op ∧ op ≤ 8 ∨ op = 11) :
    Calls Try.prog 4 #[.int .i64 op, .int .u8 a, .int .u8 b, .int .u8 c, .int .u32 k, .int .u8 m] w fun e w' => e = .returned (.bool true) ∧ Below w.heap.size w w' := by
  have ua := Lib.hid (show useA op = true from decide_eq_true (by omega))
  have ub := Lib.hid (show useB op = true from decide_eq_true (by omega))
  have uc := Lib.hid (show useC op = true from decide_eq_true (by omega))
  have uk := Lib.hid (show useK op = false from decide_eq_false (by omega))
  have h1 := Lib.hid (show mayB ⟨op, a % 8, b % 8, c % 8, 0⟩ (m % 64 + 1) = true by rw [may_low (by omega) (by omega) (by omega) (.inl ua.out) (by omega) (by omega) (.inl ub.out) (by omega) (by omega) (.inl uc.out), uk.out]; exact con_zero)
  have h2 := Lib.hid (show mayB ⟨op, 8 + a, b % 8, c % 8, 0⟩ (m % 64 + 1) = false from may_high_a (by omega))
  have h3 := Lib.hid (show mayB ⟨op, a % 8, 8 + b, c % 8, 0⟩ (m % 64 + 1) = false from may_high_b (by omega))
  have h4 := Lib.hid (show mayB ⟨op, a % 8, b % 8, 8 + c, 0⟩ (m % 64 + 1) = false from may_high_c (by omega))
  have h5 := Lib.hid (show mayB ⟨op, a % 8, b % 8, c % 8, m % 64 + 1 + k % 1000⟩ (m % 64 + 1) = false by rw [may_low (by omega) (by omega) (by omega) (.inl ua.out) (by omega) (by omega) (.inl ub.out) (by omega) (by omega) (.inl uc.out), uk.out]; exact con_more (by omega))
  have e1 : (op == 1) = false := by simp; omega
  have d1 : decide (op < 1) = false := decide_eq_false (by omega)
  have d2 : decide (16 < op) = false := decide_eq_false (by omega)
  clear ho
  go_enter Try.func4, Try.ntmps4
  go_wp2_with fail
  refine (awake_any _).mono ?_
  rintro e w1 ⟨rfl, hb1⟩
  have HB1 := Lib.hid hb1
  clear hb1
  go_wp2_with fail
  refine (uses_is _ _ _ _ _ _ ua.out ub.out uc.out uk.out).mono ?_
  rintro e w' ⟨rfl, rfl⟩
  go_wp2_with fail
  refine (may_is _ _ _ _ _ _ _ _ (by omega) (by omega) h1.out).mono ?_
  rintro e w2 ⟨rfl, hb2⟩
  have HB2 : Hid (Below w1.heap.size w1 w2) := ((Below.refl _ _).alloc (Nat.le_refl _) _).trans (hb2.mono (by simp))
  have hs2 : w1.heap.size < w2.heap.size := by have := hb2.size; simp at this; omega
  have hc2 := bcell hb2
  have g0 := hc2 w1.heap.size 0 (by simp)
  have g1 := hc2 w1.heap.size 1 (by simp)
  have g2 := hc2 w1.heap.size 2 (by simp)
  have g3 := hc2 w1.heap.size 3 (by simp)
  have g4 := hc2 w1.heap.size 4 (by simp)
  have hs2a : w1.heap.size < w2.heap.size + 1 := by omega
  have hs2b : w1.heap.size < w2.heap.size + 1 + 1 := by omega
  have hs2c : w1.heap.size < w2.heap.size + 1 + 1 + 1 := by omega
  clear hc2 hb2
  simp [go_sem] at g0 g1 g2 g3 g4
  go_wp2_with fail
  refine (may_is _ _ _ _ _ _ _ _ (by omega) (by omega) h2.out).mono ?_
  rintro e w3 ⟨rfl, hb3⟩
  have HB3 : Hid (Below w2.heap.size w2 w3) := (((((Below.refl _ _).alloc (Nat.le_refl _) _).alloc (by simp) _).alloc (by simp; omega) _).alloc (by simp; omega) _).trans (hb3.mono (by simp; omega))
  have hs3 : w2.heap.size + 3 < w3.heap.size := by have := hb3.size; simp at this; omega
  have hc3 := bcell hb3
  have hs3w : w2.heap.size < w3.heap.size := by omega
  have hs3x : w2.heap.size + 1 < w3.heap.size := by omega
  have hs3y : w2.heap.size + 1 + 1 < w3.heap.size := by omega
  have hs3z : w2.heap.size + 1 + 1 + 1 < w3.heap.size := by omega
  clear hb3 g0 g1 g2 g3 g4
  go_wp2_with fail
  refine (may_is _ _ _ _ _ _ _ _ (by omega) (by omega) h3.out).mono ?_
  rintro e w4 ⟨rfl, hb4⟩
  have HB4 := Lib.hid hb4
  have hs4 : w2.heap.size + 3 < w4.heap.size := by have := hb4.size; omega
  have hc4 := bcell hb4
  have hs4w : w2.heap.size < w4.heap.size := by omega
  have hs4x : w2.heap.size + 1 < w4.heap.size := by omega
  have hs4y : w2.heap.size + 1 + 1 < w4.heap.size := by omega
  have hs4z : w2.heap.size + 1 + 1 + 1 < w4.heap.size := by omega
  clear hb4
  go_wp2_with fail
  refine (may_is _ _ _ _ _ _ _ _ (by omega) (by omega) h4.out).mono ?_
  rintro e w5 ⟨rfl, hb5⟩
  have HB5 := Lib.hid hb5
  have hs5 : w2.heap.size + 3 < w5.heap.size := by have := hb5.size; omega
  have hc5 := bcell hb5
  have hs5w : w2.heap.size < w5.heap.size := by omega
  have hs5x : w2.heap.size + 1 < w5.heap.size := by omega
  have hs5y : w2.heap.size + 1 + 1 < w5.heap.size := by omega
  have hs5z : w2.heap.size + 1 + 1 + 1 < w5.heap.size := by omega
  clear hb5
  go_wp2_with fail
  refine (may_is _ _ _ _ _ _ _ _ (by omega) (by omega) h5.out).mono ?_
  rintro e w6 ⟨rfl, hb6⟩
  have HB6 := Lib.hid hb6
  clear hb6 hc3 hc4 hc5
  go_wp2
  go_ret
  refine ⟨rfl, ?_⟩
  have q2 := HB1.out.trans (HB2.out.mono HB1.out.size)
  have q3 := q2.trans (HB3.out.mono q2.size)
  have q4 := q3.trans (HB4.out.mono q3.size)
  have q5 := q4.trans (HB5.out.mono q4.size)
  exact q5.trans (HB6.out.mono q5.size)

set_option maxRecDepth 100000 in
set_option maxHeartbeats 2000000 in
theorem walkAB (op a b c k m : Int) (w : World) (a0 : 0 ≤ a) (a1 : a ≤ 255) (b0 : 0 ≤ b) (b1 : b ≤ 255) (c0 : 0 ≤ c) (c1 : c ≤ 255) (k0 : 0 ≤ k) (k1 : k ≤ 4294967295) (m0 : 0 ≤ m) (m1 : m ≤ 255) (ho : op = 9 ∨ op = 10) :
    Calls Try.prog 4 #[.int .i64 op, .int .u8 a, .int .u8 b, .int .u8 c, .int .u32 k, .int .u8 m] w fun e w' => e = .returned (.bool true) ∧ Below w.heap.size w w' := by
  have ua := Lib.hid (show useA op = true from decide_eq_true (by omega))
  have ub := Lib.hid (show useB op = true from decide_eq_true (by omega))
  have uc := Lib.hid (show useC op = false from decide_eq_false (by omega))
  have uk := Lib.hid (show useK op = false from decide_eq_false (by omega))
  have h1 := Lib.hid (show mayB ⟨op, a % 8, b % 8, 0, 0⟩ (m % 64 + 1) = true by rw [may_low (by omega) (by omega) (by omega) (.inl ua.out) (by omega) (by omega) (.inl ub.out) (by omega) (by omega) (.inr rfl), uk.out]; exact con_zero)
  have h2 := Lib.hid (show mayB ⟨op, 8 + a, b % 8, 0, 0⟩ (m % 64 + 1) = false from may_high_a (by omega))
  have h3 := Lib.hid (show mayB ⟨op, a % 8, 8 + b, 0, 0⟩ (m % 64 + 1) = false from may_high_b (by omega))
  have h4 := Lib.hid (show mayB ⟨op, a % 8, b % 8, 8 + c, 0⟩ (m % 64 + 1) = false from may_high_c (by omega))
  have h5 := Lib.hid (show mayB ⟨op, a % 8, b % 8, 0, m % 64 + 1 + k % 1000⟩ (m % 64 + 1) = false by rw [may_low (by omega) (by omega) (by omega) (.inl ua.out) (by omega) (by omega) (.inl ub.out) (by omega) (by omega) (.inr rfl), uk.out]; exact con_more (by omega))
  have e1 : (op == 1) = false := by simp; omega
  have d1 : decide (op < 1) = false := decide_eq_false (by omega)
  have d2 : decide (16 < op) = false := decide_eq_false (by omega)
  clear ho
  go_enter Try.func4, Try.ntmps4
  go_wp2_with fail
  refine (awake_any _).mono ?_
  rintro e w1 ⟨rfl, hb1⟩
  have HB1 := Lib.hid hb1
  clear hb1
  go_wp2_with fail
  refine (uses_is _ _ _ _ _ _ ua.out ub.out uc.out uk.out).mono ?_
  rintro e w' ⟨rfl, rfl⟩
  go_wp2_with fail
  refine (may_is _ _ _ _ _ _ _ _ (by omega) (by omega) h1.out).mono ?_
  rintro e w2 ⟨rfl, hb2⟩
  have HB2 : Hid (Below w1.heap.size w1 w2) := ((Below.refl _ _).alloc (Nat.le_refl _) _).trans (hb2.mono (by simp))
  have hs2 : w1.heap.size < w2.heap.size := by have := hb2.size; simp at this; omega
  have hc2 := bcell hb2
  have g0 := hc2 w1.heap.size 0 (by simp)
  have g1 := hc2 w1.heap.size 1 (by simp)
  have g2 := hc2 w1.heap.size 2 (by simp)
  have g3 := hc2 w1.heap.size 3 (by simp)
  have g4 := hc2 w1.heap.size 4 (by simp)
  have hs2a : w1.heap.size < w2.heap.size + 1 := by omega
  have hs2b : w1.heap.size < w2.heap.size + 1 + 1 := by omega
  have hs2c : w1.heap.size < w2.heap.size + 1 + 1 + 1 := by omega
  clear hc2 hb2
  simp [go_sem] at g0 g1 g2 g3 g4
  go_wp2_with fail
  refine (may_is _ _ _ _ _ _ _ _ (by omega) (by omega) h2.out).mono ?_
  rintro e w3 ⟨rfl, hb3⟩
  have HB3 : Hid (Below w2.heap.size w2 w3) := (((((Below.refl _ _).alloc (Nat.le_refl _) _).alloc (by simp) _).alloc (by simp; omega) _).alloc (by simp; omega) _).trans (hb3.mono (by simp; omega))
  have hs3 : w2.heap.size + 3 < w3.heap.size := by have := hb3.size; simp at this; omega
  have hc3 := bcell hb3
  have hs3w : w2.heap.size < w3.heap.size := by omega
  have hs3x : w2.heap.size + 1 < w3.heap.size := by omega
  have hs3y : w2.heap.size + 1 + 1 < w3.heap.size := by omega
  have hs3z : w2.heap.size + 1 + 1 + 1 < w3.heap.size := by omega
  clear hb3 g0 g1 g2 g3 g4
  go_wp2_with fail
  refine (may_is _ _ _ _ _ _ _ _ (by omega) (by omega) h3.out).mono ?_
  rintro e w4 ⟨rfl, hb4⟩
  have HB4 := Lib.hid hb4
  have hs4 : w2.heap.size + 3 < w4.heap.size := by have := hb4.size; omega
  have hc4 := bcell hb4
  have hs4w : w2.heap.size < w4.heap.size := by omega
  have hs4x : w2.heap.size + 1 < w4.heap.size := by omega
  have hs4y : w2.heap.size + 1 + 1 < w4.heap.size := by omega
  have hs4z : w2.heap.size + 1 + 1 + 1 < w4.heap.size := by omega
  clear hb4
  go_wp2_with fail
  refine (may_is _ _ _ _ _ _ _ _ (by omega) (by omega) h4.out).mono ?_
  rintro e w5 ⟨rfl, hb5⟩
  have HB5 := Lib.hid hb5
  have hs5 : w2.heap.size + 3 < w5.heap.size := by have := hb5.size; omega
  have hc5 := bcell hb5
  have hs5w : w2.heap.size < w5.heap.size := by omega
  have hs5x : w2.heap.size + 1 < w5.heap.size := by omega
  have hs5y : w2.heap.size + 1 + 1 < w5.heap.size := by omega
  have hs5z : w2.heap.size + 1 + 1 + 1 < w5.heap.size := by omega
  clear hb5
  go_wp2_with fail
  refine (may_is _ _ _ _ _ _ _ _ (by omega) (by omega) h5.out).mono ?_
  rintro e w6 ⟨rfl, hb6⟩
  have HB6 := Lib.hid hb6
  clear hb6 hc3 hc4 hc5
  go_wp2
  go_ret
  refine ⟨rfl, ?_⟩
  have q2 := HB1.out.trans (HB2.out.mono HB1.out.size)
  have q3 := q2.trans (HB3.out.mono q2.size)
  have q4 := q3.trans (HB4.out.mono q3.size)
  have q5 := q4.trans (HB5.out.mono q4.size)
  exact q5.trans (HB6.out.mono q5.size)

set_option maxRecDepth 100000 in
set_option maxHeartbeats 2000000 in
theorem walkAK (op a b c k m : Int) (w : World) (a0 : 0 ≤ a) (a1 : a ≤ 255) (b0 : 0 ≤ b) (b1 : b ≤ 255) (c0 : 0 ≤ c) (c1 : c ≤ 255) (k0 : 0 ≤ k) (k1 : k ≤ 4294967295) (m0 : 0 ≤ m) (m1 : m ≤ 255) (ho : op = 1 ∨ op = 14) :
    Calls Try.prog 4 #[.int .i64 op, .int .u8 a, .int .u8 b, .int .u8 c, .int .u32 k, .int .u8 m] w fun e w' => e = .returned (.bool true) ∧ Below w.heap.size w w' := by
  have ua := Lib.hid (show useA op = true from decide_eq_true (by omega))
  have ub := Lib.hid (show useB op = false from decide_eq_false (by omega))
  have uc := Lib.hid (show useC op = false from decide_eq_false (by omega))
  have uk := Lib.hid (show useK op = true from decide_eq_true (by omega))
  have kb := Int.emod_nonneg k (show m % 64 + 1 ≠ 0 by omega)
  have kc := Int.emod_lt_of_pos k (show 0 < m % 64 + 1 by omega)
  have h1 := Lib.hid (show mayB ⟨op, a % 8, 0, 0, k % (m % 64 + 1)⟩ (m % 64 + 1) = true by rw [may_low (by omega) (by omega) (by omega) (.inl ua.out) (by omega) (by omega) (.inr rfl) (by omega) (by omega) (.inr rfl), uk.out]; exact con_used (by omega))
  have h2 := Lib.hid (show mayB ⟨op, 8 + a, 0, 0, k % (m % 64 + 1)⟩ (m % 64 + 1) = false from may_high_a (by omega))
  have h3 := Lib.hid (show mayB ⟨op, a % 8, 8 + b, 0, k % (m % 64 + 1)⟩ (m % 64 + 1) = false from may_high_b (by omega))
  have h4 := Lib.hid (show mayB ⟨op, a % 8, 0, 8 + c, k % (m % 64 + 1)⟩ (m % 64 + 1) = false from may_high_c (by omega))
  have h5 := Lib.hid (show mayB ⟨op, a % 8, 0, 0, m % 64 + 1 + k % 1000⟩ (m % 64 + 1) = (op == 1) by rw [may_low (by omega) (by omega) (by omega) (.inl ua.out) (by omega) (by omega) (.inr rfl) (by omega) (by omega) (.inr rfl), uk.out]; exact con_high (by omega))
  have d1 : decide (op < 1) = false := decide_eq_false (by omega)
  have d2 : decide (16 < op) = false := decide_eq_false (by omega)
  clear ho
  go_enter Try.func4, Try.ntmps4
  go_wp2_with fail
  refine (awake_any _).mono ?_
  rintro e w1 ⟨rfl, hb1⟩
  have HB1 := Lib.hid hb1
  clear hb1
  go_wp2_with fail
  refine (uses_is _ _ _ _ _ _ ua.out ub.out uc.out uk.out).mono ?_
  rintro e w' ⟨rfl, rfl⟩
  go_wp2_with fail
  refine (may_is _ _ _ _ _ _ _ _ (by omega) (by omega) h1.out).mono ?_
  rintro e w2 ⟨rfl, hb2⟩
  have HB2 : Hid (Below w1.heap.size w1 w2) := ((Below.refl _ _).alloc (Nat.le_refl _) _).trans (hb2.mono (by simp))
  have hs2 : w1.heap.size < w2.heap.size := by have := hb2.size; simp at this; omega
  have hc2 := bcell hb2
  have g0 := hc2 w1.heap.size 0 (by simp)
  have g1 := hc2 w1.heap.size 1 (by simp)
  have g2 := hc2 w1.heap.size 2 (by simp)
  have g3 := hc2 w1.heap.size 3 (by simp)
  have g4 := hc2 w1.heap.size 4 (by simp)
  have hs2a : w1.heap.size < w2.heap.size + 1 := by omega
  have hs2b : w1.heap.size < w2.heap.size + 1 + 1 := by omega
  have hs2c : w1.heap.size < w2.heap.size + 1 + 1 + 1 := by omega
  clear hc2 hb2
  simp [go_sem] at g0 g1 g2 g3 g4
  go_wp2_with fail
  refine (may_is _ _ _ _ _ _ _ _ (by omega) (by omega) h2.out).mono ?_
  rintro e w3 ⟨rfl, hb3⟩
  have HB3 : Hid (Below w2.heap.size w2 w3) := (((((Below.refl _ _).alloc (Nat.le_refl _) _).alloc (by simp) _).alloc (by simp; omega) _).alloc (by simp; omega) _).trans (hb3.mono (by simp; omega))
  have hs3 : w2.heap.size + 3 < w3.heap.size := by have := hb3.size; simp at this; omega
  have hc3 := bcell hb3
  have hs3w : w2.heap.size < w3.heap.size := by omega
  have hs3x : w2.heap.size + 1 < w3.heap.size := by omega
  have hs3y : w2.heap.size + 1 + 1 < w3.heap.size := by omega
  have hs3z : w2.heap.size + 1 + 1 + 1 < w3.heap.size := by omega
  clear hb3 g0 g1 g2 g3 g4
  go_wp2_with fail
  refine (may_is _ _ _ _ _ _ _ _ (by omega) (by omega) h3.out).mono ?_
  rintro e w4 ⟨rfl, hb4⟩
  have HB4 := Lib.hid hb4
  have hs4 : w2.heap.size + 3 < w4.heap.size := by have := hb4.size; omega
  have hc4 := bcell hb4
  have hs4w : w2.heap.size < w4.heap.size := by omega
  have hs4x : w2.heap.size + 1 < w4.heap.size := by omega
  have hs4y : w2.heap.size + 1 + 1 < w4.heap.size := by omega
  have hs4z : w2.heap.size + 1 + 1 + 1 < w4.heap.size := by omega
  clear hb4
  go_wp2_with fail
  refine (may_is _ _ _ _ _ _ _ _ (by omega) (by omega) h4.out).mono ?_
  rintro e w5 ⟨rfl, hb5⟩
  have HB5 := Lib.hid hb5
  have hs5 : w2.heap.size + 3 < w5.heap.size := by have := hb5.size; omega
  have hc5 := bcell hb5
  have hs5w : w2.heap.size < w5.heap.size := by omega
  have hs5x : w2.heap.size + 1 < w5.heap.size := by omega
  have hs5y : w2.heap.size + 1 + 1 < w5.heap.size := by omega
  have hs5z : w2.heap.size + 1 + 1 + 1 < w5.heap.size := by omega
  clear hb5
  go_wp2_with fail
  refine (may_is _ _ _ _ _ _ _ _ (by omega) (by omega) h5.out).mono ?_
  rintro e w6 ⟨rfl, hb6⟩
  have HB6 := Lib.hid hb6
  clear hb6 hc3 hc4 hc5
  go_wp2
  go_ret
  refine ⟨rfl, ?_⟩
  have q2 := HB1.out.trans (HB2.out.mono HB1.out.size)
  have q3 := q2.trans (HB3.out.mono q2.size)
  have q4 := q3.trans (HB4.out.mono q3.size)
  have q5 := q4.trans (HB5.out.mono q4.size)
  exact q5.trans (HB6.out.mono q5.size)

set_option maxRecDepth 100000 in
set_option maxHeartbeats 2000000 in
theorem walkA (op a b c k m : Int) (w : World) (a0 : 0 ≤ a) (a1 : a ≤ 255) (b0 : 0 ≤ b) (b1 : b ≤ 255) (c0 : 0 ≤ c) (c1 : c ≤ 255) (k0 : 0 ≤ k) (k1 : k ≤ 4294967295) (m0 : 0 ≤ m) (m1 : m ≤ 255) (ho : op = 15) :
    Calls Try.prog 4 #[.int .i64 op, .int .u8 a, .int .u8 b, .int .u8 c, .int .u32 k, .int .u8 m] w fun e w' => e = .returned (.bool true) ∧ Below w.heap.size w w' := by
  have ua := Lib.hid (show useA op = true from decide_eq_true (by omega))
  have ub := Lib.hid (show useB op = false from decide_eq_false (by omega))
  have uc := Lib.hid (show useC op = false from decide_eq_false (by omega))
  have uk := Lib.hid (show useK op = false from decide_eq_false (by omega))
  have h1 := Lib.hid (show mayB ⟨op, a % 8, 0, 0, 0⟩ (m % 64 + 1) = true by rw [may_low (by omega) (by omega) (by omega) (.inl ua.out) (by omega) (by omega) (.inr rfl) (by omega) (by omega) (.inr rfl), uk.out]; exact con_zero)
  have h2 := Lib.hid (show mayB ⟨op, 8 + a, 0, 0, 0⟩ (m % 64 + 1) = false from may_high_a (by omega))
  have h3 := Lib.hid (show mayB ⟨op, a % 8, 8 + b, 0, 0⟩ (m % 64 + 1) = false from may_high_b (by omega))
  have h4 := Lib.hid (show mayB ⟨op, a % 8, 0, 8 + c, 0⟩ (m % 64 + 1) = false from may_high_c (by omega))
  have h5 := Lib.hid (show mayB ⟨op, a % 8, 0, 0, m % 64 + 1 + k % 1000⟩ (m % 64 + 1) = false by rw [may_low (by omega) (by omega) (by omega) (.inl ua.out) (by omega) (by omega) (.inr rfl) (by omega) (by omega) (.inr rfl), uk.out]; exact con_more (by omega))
  have e1 : (op == 1) = false := by simp; omega
  have d1 : decide (op < 1) = false := decide_eq_false (by omega)
  have d2 : decide (16 < op) = false := decide_eq_false (by omega)
  clear ho
  go_enter Try.func4, Try.ntmps4
  go_wp2_with fail
  refine (awake_any _).mono ?_
  rintro e w1 ⟨rfl, hb1⟩
  have HB1 := Lib.hid hb1
  clear hb1
  go_wp2_with fail
  refine (uses_is _ _ _ _ _ _ ua.out ub.out uc.out uk.out).mono ?_
  rintro e w' ⟨rfl, rfl⟩
  go_wp2_with fail
  refine (may_is _ _ _ _ _ _ _ _ (by omega) (by omega) h1.out).mono ?_
  rintro e w2 ⟨rfl, hb2⟩
  have HB2 : Hid (Below w1.heap.size w1 w2) := ((Below.refl _ _).alloc (Nat.le_refl _) _).trans (hb2.mono (by simp))
  have hs2 : w1.heap.size < w2.heap.size := by have := hb2.size; simp at this; omega
  have hc2 := bcell hb2
  have g0 := hc2 w1.heap.size 0 (by simp)
  have g1 := hc2 w1.heap.size 1 (by simp)
  have g2 := hc2 w1.heap.size 2 (by simp)
  have g3 := hc2 w1.heap.size 3 (by simp)
  have g4 := hc2 w1.heap.size 4 (by simp)
  have hs2a : w1.heap.size < w2.heap.size + 1 := by omega
  have hs2b : w1.heap.size < w2.heap.size + 1 + 1 := by omega
  have hs2c : w1.heap.size < w2.heap.size + 1 + 1 + 1 := by omega
  clear hc2 hb2
  simp [go_sem] at g0 g1 g2 g3 g4
  go_wp2_with fail
  refine (may_is _ _ _ _ _ _ _ _ (by omega) (by omega) h2.out).mono ?_
  rintro e w3 ⟨rfl, hb3⟩
  have HB3 : Hid (Below w2.heap.size w2 w3) := (((((Below.refl _ _).alloc (Nat.le_refl _) _).alloc (by simp) _).alloc (by simp; omega) _).alloc (by simp; omega) _).trans (hb3.mono (by simp; omega))
  have hs3 : w2.heap.size + 3 < w3.heap.size := by have := hb3.size; simp at this; omega
  have hc3 := bcell hb3
  have hs3w : w2.heap.size < w3.heap.size := by omega
  have hs3x : w2.heap.size + 1 < w3.heap.size := by omega
  have hs3y : w2.heap.size + 1 + 1 < w3.heap.size := by omega
  have hs3z : w2.heap.size + 1 + 1 + 1 < w3.heap.size := by omega
  clear hb3 g0 g1 g2 g3 g4
  go_wp2_with fail
  refine (may_is _ _ _ _ _ _ _ _ (by omega) (by omega) h3.out).mono ?_
  rintro e w4 ⟨rfl, hb4⟩
  have HB4 := Lib.hid hb4
  have hs4 : w2.heap.size + 3 < w4.heap.size := by have := hb4.size; omega
  have hc4 := bcell hb4
  have hs4w : w2.heap.size < w4.heap.size := by omega
  have hs4x : w2.heap.size + 1 < w4.heap.size := by omega
  have hs4y : w2.heap.size + 1 + 1 < w4.heap.size := by omega
  have hs4z : w2.heap.size + 1 + 1 + 1 < w4.heap.size := by omega
  clear hb4
  go_wp2_with fail
  refine (may_is _ _ _ _ _ _ _ _ (by omega) (by omega) h4.out).mono ?_
  rintro e w5 ⟨rfl, hb5⟩
  have HB5 := Lib.hid hb5
  have hs5 : w2.heap.size + 3 < w5.heap.size := by have := hb5.size; omega
  have hc5 := bcell hb5
  have hs5w : w2.heap.size < w5.heap.size := by omega
  have hs5x : w2.heap.size + 1 < w5.heap.size := by omega
  have hs5y : w2.heap.size + 1 + 1 < w5.heap.size := by omega
  have hs5z : w2.heap.size + 1 + 1 + 1 < w5.heap.size := by omega
  clear hb5
  go_wp2_with fail
  refine (may_is _ _ _ _ _ _ _ _ (by omega) (by omega) h5.out).mono ?_
  rintro e w6 ⟨rfl, hb6⟩
  have HB6 := Lib.hid hb6
  clear hb6 hc3 hc4 hc5
  go_wp2
  go_ret
  refine ⟨rfl, ?_⟩
  have q2 := HB1.out.trans (HB2.out.mono HB1.out.size)
  have q3 := q2.trans (HB3.out.mono q2.size)
  have q4 := q3.trans (HB4.out.mono q3.size)
  have q5 := q4.trans (HB5.out.mono q4.size)
  exact q5.trans (HB6.out.mono q5.size)

set_option maxRecDepth 100000 in
set_option maxHeartbeats 2000000 in
theorem walkK (op a b c k m : Int) (w : World) (a0 : 0 ≤ a) (a1 : a ≤ 255) (b0 : 0 ≤ b) (b1 : b ≤ 255) (c0 : 0 ≤ c) (c1 : c ≤ 255) (k0 : 0 ≤ k) (k1 : k ≤ 4294967295) (m0 : 0 ≤ m) (m1 : m ≤ 255) (ho : op = 13) :
    Calls Try.prog 4 #[.int .i64 op, .int .u8 a, .int .u8 b, .int .u8 c, .int .u32 k, .int .u8 m] w fun e w' => e = .returned (.bool true) ∧ Below w.heap.size w w' := by
  have ua := Lib.hid (show useA op = false from decide_eq_false (by omega))
  have ub := Lib.hid (show useB op = false from decide_eq_false (by omega))
  have uc := Lib.hid (show useC op = false from decide_eq_false (by omega))
  have uk := Lib.hid (show useK op = true from decide_eq_true (by omega))
  have kb := Int.emod_nonneg k (show m % 64 + 1 ≠ 0 by omega)
  have kc := Int.emod_lt_of_pos k (show 0 < m % 64 + 1 by omega)
  have h1 := Lib.hid (show mayB ⟨op, 0, 0, 0, k % (m % 64 + 1)⟩ (m % 64 + 1) = true by rw [may_low (by omega) (by omega) (by omega) (.inr rfl) (by omega) (by omega) (.inr rfl) (by omega) (by omega) (.inr rfl), uk.out]; exact con_used (by omega))
  have h2 := Lib.hid (show mayB ⟨op, 8 + a, 0, 0, k % (m % 64 + 1)⟩ (m % 64 + 1) = false from may_high_a (by omega))
  have h3 := Lib.hid (show mayB ⟨op, 0, 8 + b, 0, k % (m % 64 + 1)⟩ (m % 64 + 1) = false from may_high_b (by omega))
  have h4 := Lib.hid (show mayB ⟨op, 0, 0, 8 + c, k % (m % 64 + 1)⟩ (m % 64 + 1) = false from may_high_c (by omega))
  have h5 := Lib.hid (show mayB ⟨op, 0, 0, 0, m % 64 + 1 + k % 1000⟩ (m % 64 + 1) = (op == 1) by rw [may_low (by omega) (by omega) (by omega) (.inr rfl) (by omega) (by omega) (.inr rfl) (by omega) (by omega) (.inr rfl), uk.out]; exact con_high (by omega))
  have d1 : decide (op < 1) = false := decide_eq_false (by omega)
  have d2 : decide (16 < op) = false := decide_eq_false (by omega)
  clear ho
  go_enter Try.func4, Try.ntmps4
  go_wp2_with fail
  refine (awake_any _).mono ?_
  rintro e w1 ⟨rfl, hb1⟩
  have HB1 := Lib.hid hb1
  clear hb1
  go_wp2_with fail
  refine (uses_is _ _ _ _ _ _ ua.out ub.out uc.out uk.out).mono ?_
  rintro e w' ⟨rfl, rfl⟩
  go_wp2_with fail
  refine (may_is _ _ _ _ _ _ _ _ (by omega) (by omega) h1.out).mono ?_
  rintro e w2 ⟨rfl, hb2⟩
  have HB2 : Hid (Below w1.heap.size w1 w2) := ((Below.refl _ _).alloc (Nat.le_refl _) _).trans (hb2.mono (by simp))
  have hs2 : w1.heap.size < w2.heap.size := by have := hb2.size; simp at this; omega
  have hc2 := bcell hb2
  have g0 := hc2 w1.heap.size 0 (by simp)
  have g1 := hc2 w1.heap.size 1 (by simp)
  have g2 := hc2 w1.heap.size 2 (by simp)
  have g3 := hc2 w1.heap.size 3 (by simp)
  have g4 := hc2 w1.heap.size 4 (by simp)
  have hs2a : w1.heap.size < w2.heap.size + 1 := by omega
  have hs2b : w1.heap.size < w2.heap.size + 1 + 1 := by omega
  have hs2c : w1.heap.size < w2.heap.size + 1 + 1 + 1 := by omega
  clear hc2 hb2
  simp [go_sem] at g0 g1 g2 g3 g4
  go_wp2_with fail
  refine (may_is _ _ _ _ _ _ _ _ (by omega) (by omega) h2.out).mono ?_
  rintro e w3 ⟨rfl, hb3⟩
  have HB3 : Hid (Below w2.heap.size w2 w3) := (((((Below.refl _ _).alloc (Nat.le_refl _) _).alloc (by simp) _).alloc (by simp; omega) _).alloc (by simp; omega) _).trans (hb3.mono (by simp; omega))
  have hs3 : w2.heap.size + 3 < w3.heap.size := by have := hb3.size; simp at this; omega
  have hc3 := bcell hb3
  have hs3w : w2.heap.size < w3.heap.size := by omega
  have hs3x : w2.heap.size + 1 < w3.heap.size := by omega
  have hs3y : w2.heap.size + 1 + 1 < w3.heap.size := by omega
  have hs3z : w2.heap.size + 1 + 1 + 1 < w3.heap.size := by omega
  clear hb3 g0 g1 g2 g3 g4
  go_wp2_with fail
  refine (may_is _ _ _ _ _ _ _ _ (by omega) (by omega) h3.out).mono ?_
  rintro e w4 ⟨rfl, hb4⟩
  have HB4 := Lib.hid hb4
  have hs4 : w2.heap.size + 3 < w4.heap.size := by have := hb4.size; omega
  have hc4 := bcell hb4
  have hs4w : w2.heap.size < w4.heap.size := by omega
  have hs4x : w2.heap.size + 1 < w4.heap.size := by omega
  have hs4y : w2.heap.size + 1 + 1 < w4.heap.size := by omega
  have hs4z : w2.heap.size + 1 + 1 + 1 < w4.heap.size := by omega
  clear hb4
  go_wp2_with fail
  refine (may_is _ _ _ _ _ _ _ _ (by omega) (by omega) h4.out).mono ?_
  rintro e w5 ⟨rfl, hb5⟩
  have HB5 := Lib.hid hb5
  have hs5 : w2.heap.size + 3 < w5.heap.size := by have := hb5.size; omega
  have hc5 := bcell hb5
  have hs5w : w2.heap.size < w5.heap.size := by omega
  have hs5x : w2.heap.size + 1 < w5.heap.size := by omega
  have hs5y : w2.heap.size + 1 + 1 < w5.heap.size := by omega
  have hs5z : w2.heap.size + 1 + 1 + 1 < w5.heap.size := by omega
  clear hb5
  go_wp2_with fail
  refine (may_is _ _ _ _ _ _ _ _ (by omega) (by omega) h5.out).mono ?_
  rintro e w6 ⟨rfl, hb6⟩
  have HB6 := Lib.hid hb6
  clear hb6 hc3 hc4 hc5
  go_wp2
  go_ret
  refine ⟨rfl, ?_⟩
  have q2 := HB1.out.trans (HB2.out.mono HB1.out.size)
  have q3 := q2.trans (HB3.out.mono q2.size)
  have q4 := q3.trans (HB4.out.mono q3.size)
  have q5 := q4.trans (HB5.out.mono q4.size)
  exact q5.trans (HB6.out.mono q5.size)

set_option maxRecDepth 100000 in
set_option maxHeartbeats 2000000 in
theorem walkO (op a b c k m : Int) (w : World) (a0 : 0 ≤ a) (a1 : a ≤ 255) (b0 : 0 ≤ b) (b1 : b ≤ 255) (c0 : 0 ≤ c) (c1 : c ≤ 255) (k0 : 0 ≤ k) (k1 : k ≤ 4294967295) (m0 : 0 ≤ m) (m1 : m ≤ 255) (ho : op = 12 ∨ op = 16) :
    Calls Try.prog 4 #[.int .i64 op, .int .u8 a, .int .u8 b, .int .u8 c, .int .u32 k, .int .u8 m] w fun e w' => e = .returned (.bool true) ∧ Below w.heap.size w w' := by
  have ua := Lib.hid (show useA op = false from decide_eq_false (by omega))
  have ub := Lib.hid (show useB op = false from decide_eq_false (by omega))
  have uc := Lib.hid (show useC op = false from decide_eq_false (by omega))
  have uk := Lib.hid (show useK op = false from decide_eq_false (by omega))
  have h1 := Lib.hid (show mayB ⟨op, 0, 0, 0, 0⟩ (m % 64 + 1) = true by rw [may_low (by omega) (by omega) (by omega) (.inr rfl) (by omega) (by omega) (.inr rfl) (by omega) (by omega) (.inr rfl), uk.out]; exact con_zero)
  have h2 := Lib.hid (show mayB ⟨op, 8 + a, 0, 0, 0⟩ (m % 64 + 1) = false from may_high_a (by omega))
  have h3 := Lib.hid (show mayB ⟨op, 0, 8 + b, 0, 0⟩ (m % 64 + 1) = false from may_high_b (by omega))
  have h4 := Lib.hid (show mayB ⟨op, 0, 0, 8 + c, 0⟩ (m % 64 + 1) = false from may_high_c (by omega))
  have h5 := Lib.hid (show mayB ⟨op, 0, 0, 0, m % 64 + 1 + k % 1000⟩ (m % 64 + 1) = false by rw [may_low (by omega) (by omega) (by omega) (.inr rfl) (by omega) (by omega) (.inr rfl) (by omega) (by omega) (.inr rfl), uk.out]; exact con_more (by omega))
  have e1 : (op == 1) = false := by simp; omega
  have d1 : decide (op < 1) = false := decide_eq_false (by omega)
  have d2 : decide (16 < op) = false := decide_eq_false (by omega)
  clear ho
  go_enter Try.func4, Try.ntmps4
  go_wp2_with fail
  refine (awake_any _).mono ?_
  rintro e w1 ⟨rfl, hb1⟩
  have HB1 := Lib.hid hb1
  clear hb1
  go_wp2_with fail
  refine (uses_is _ _ _ _ _ _ ua.out ub.out uc.out uk.out).mono ?_
  rintro e w' ⟨rfl, rfl⟩
  go_wp2_with fail
  refine (may_is _ _ _ _ _ _ _ _ (by omega) (by omega) h1.out).mono ?_
  rintro e w2 ⟨rfl, hb2⟩
  have HB2 : Hid (Below w1.heap.size w1 w2) := ((Below.refl _ _).alloc (Nat.le_refl _) _).trans (hb2.mono (by simp))
  have hs2 : w1.heap.size < w2.heap.size := by have := hb2.size; simp at this; omega
  have hc2 := bcell hb2
  have g0 := hc2 w1.heap.size 0 (by simp)
  have g1 := hc2 w1.heap.size 1 (by simp)
  have g2 := hc2 w1.heap.size 2 (by simp)
  have g3 := hc2 w1.heap.size 3 (by simp)
  have g4 := hc2 w1.heap.size 4 (by simp)
  have hs2a : w1.heap.size < w2.heap.size + 1 := by omega
  have hs2b : w1.heap.size < w2.heap.size + 1 + 1 := by omega
  have hs2c : w1.heap.size < w2.heap.size + 1 + 1 + 1 := by omega
  clear hc2 hb2
  simp [go_sem] at g0 g1 g2 g3 g4
  go_wp2_with fail
  refine (may_is _ _ _ _ _ _ _ _ (by omega) (by omega) h2.out).mono ?_
  rintro e w3 ⟨rfl, hb3⟩
  have HB3 : Hid (Below w2.heap.size w2 w3) := (((((Below.refl _ _).alloc (Nat.le_refl _) _).alloc (by simp) _).alloc (by simp; omega) _).alloc (by simp; omega) _).trans (hb3.mono (by simp; omega))
  have hs3 : w2.heap.size + 3 < w3.heap.size := by have := hb3.size; simp at this; omega
  have hc3 := bcell hb3
  have hs3w : w2.heap.size < w3.heap.size := by omega
  have hs3x : w2.heap.size + 1 < w3.heap.size := by omega
  have hs3y : w2.heap.size + 1 + 1 < w3.heap.size := by omega
  have hs3z : w2.heap.size + 1 + 1 + 1 < w3.heap.size := by omega
  clear hb3 g0 g1 g2 g3 g4
  go_wp2_with fail
  refine (may_is _ _ _ _ _ _ _ _ (by omega) (by omega) h3.out).mono ?_
  rintro e w4 ⟨rfl, hb4⟩
  have HB4 := Lib.hid hb4
  have hs4 : w2.heap.size + 3 < w4.heap.size := by have := hb4.size; omega
  have hc4 := bcell hb4
  have hs4w : w2.heap.size < w4.heap.size := by omega
  have hs4x : w2.heap.size + 1 < w4.heap.size := by omega
  have hs4y : w2.heap.size + 1 + 1 < w4.heap.size := by omega
  have hs4z : w2.heap.size + 1 + 1 + 1 < w4.heap.size := by omega
  clear hb4
  go_wp2_with fail
  refine (may_is _ _ _ _ _ _ _ _ (by omega) (by omega) h4.out).mono ?_
  rintro e w5 ⟨rfl, hb5⟩
  have HB5 := Lib.hid hb5
  have hs5 : w2.heap.size + 3 < w5.heap.size := by have := hb5.size; omega
  have hc5 := bcell hb5
  have hs5w : w2.heap.size < w5.heap.size := by omega
  have hs5x : w2.heap.size + 1 < w5.heap.size := by omega
  have hs5y : w2.heap.size + 1 + 1 < w5.heap.size := by omega
  have hs5z : w2.heap.size + 1 + 1 + 1 < w5.heap.size := by omega
  clear hb5
  go_wp2_with fail
  refine (may_is _ _ _ _ _ _ _ _ (by omega) (by omega) h5.out).mono ?_
  rintro e w6 ⟨rfl, hb6⟩
  have HB6 := Lib.hid hb6
  clear hb6 hc3 hc4 hc5
  go_wp2
  go_ret
  refine ⟨rfl, ?_⟩
  have q2 := HB1.out.trans (HB2.out.mono HB1.out.size)
  have q3 := q2.trans (HB3.out.mono q2.size)
  have q4 := q3.trans (HB4.out.mono q3.size)
  have q5 := q4.trans (HB5.out.mono q4.size)
  exact q5.trans (HB6.out.mono q5.size)
end Go.Proofs.Ytafilmbldgimmaa.isaUses
