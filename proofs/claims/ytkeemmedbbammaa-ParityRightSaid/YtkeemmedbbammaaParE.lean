/- Whether there is such a bank, such a word, and what is read; no condition but that they read. -/
import Derived.Test.YtkeemmedbbammaaParD
namespace Go.Proofs.Ytkeemmedbbammaa
set_option linter.unusedVariables false
open Go.ChangeShapes Go.WideShapes Go.ChangeAt Go.RowKit

set_option maxHeartbeats 1000000 in
theorem hasbank_any (p : Option Addr) (n c : Nat) (xs : List Value) (pp : Option Addr) (m cc : Nat) (B : Bk) (k : Int) (w : World) (h : Bn w p n c xs pp m cc B) :
    Calls Try.prog 26 #[.agg #[.slice p n c, .slice pp m cc, .int .i64 B.lost], .int .i64 k] w fun e w' => e = .returned (.bool (hasB B k)) ∧ Below w.heap.size w w' := by
  have hm := h.m100
  have hn := h.n100
  have hri := fun w' hb => right_any p n c xs pp m cc B w' (h.below hb)
  obtain ⟨r, hr⟩ : ∃ r, r = rightB B := ⟨_, rfl⟩
  obtain ⟨z, hz⟩ : ∃ z, z = B.lost := ⟨_, rfl⟩
  obtain ⟨y, hy⟩ : ∃ y, y = hasB B k := ⟨_, rfl⟩
  have hy2 : y = (r && decide (0 ≤ k ∧ k < n)) := by rw [hy, hr]; unfold hasB; rw [h.zn]
  rw [← hr, ← hz] at hri
  rw [← hz, ← hy]
  have HRI := Lib.hid hri
  have HY := Lib.hid hy2
  clear h hr hz hy hy2 hri
  go_enter Try.func26, Try.ntmps26
  go_wp2_with fail
  have HB0 : Hid (Below w.heap.size w (w.alloc (.cells #[.slice p n c, .slice pp m cc, .int .i64 z] 25))) := Lib.hid ((Below.refl _ _).alloc (Nat.le_refl _) _)
  refine (HRI.out _ HB0.out).mono ?_
  rintro e w1 ⟨rfl, hb1⟩
  have kc := (Blk.track1 hb1).c
  have HB1 : Hid (Below w.heap.size w w1) := Lib.hid (HB0.out.trans (hb1.mono HB0.out.size))
  clear hb1 HB0 HRI
  cases r with
  | false =>
    go_wp2_with fail
    go_ret
    exact ⟨by rw [HY.out]; rfl, HB1.out⟩
  | true =>
    by_cases h0 : 0 ≤ k
    · have e0 : decide (0 ≤ k) = true := decide_eq_true h0
      by_cases h1 : k < (n : Int)
      · have e1 : decide (k < (n : Int)) = true := decide_eq_true h1
        have hf : y = true := by rw [HY.out, decide_eq_true ⟨h0, h1⟩]; rfl
        subst hf
        clear h0 h1
        go_wp2_with fail
        go_ret
        exact ⟨rfl, HB1.out⟩
      · have e1 : decide (k < (n : Int)) = false := decide_eq_false h1
        have hf : y = false := by rw [HY.out, decide_eq_false (by omega)]; rfl
        subst hf
        clear h0 h1
        go_wp2_with fail
        go_ret
        exact ⟨rfl, HB1.out⟩
    · have e0 : decide (0 ≤ k) = false := decide_eq_false h0
      have hf : y = false := by rw [HY.out, decide_eq_false (by omega)]; rfl
      subst hf
      clear h0
      go_wp2_with fail
      go_ret
      exact ⟨rfl, HB1.out⟩

set_option maxHeartbeats 1000000 in
theorem hasword_any (p : Option Addr) (n c : Nat) (xs : List Value) (pp : Option Addr) (m cc : Nat) (B : Bk) (k a : Int) (w : World) (h : Bn w p n c xs pp m cc B) :
    Calls Try.prog 21 #[.agg #[.slice p n c, .slice pp m cc, .int .i64 B.lost], .int .i64 k, .int .i64 a] w fun e w' => e = .returned (.bool (hasW B k a)) ∧ Below w.heap.size w w' := by
  have hm := h.m100
  have hri := fun w' hb => hasbank_any p n c xs pp m cc B k w' (h.below hb)
  obtain ⟨r, hr⟩ : ∃ r, r = hasB B k := ⟨_, rfl⟩
  obtain ⟨z, hz⟩ : ∃ z, z = B.lost := ⟨_, rfl⟩
  obtain ⟨y, hy⟩ : ∃ y, y = hasW B k a := ⟨_, rfl⟩
  have hy2 : y = (r && decide (0 ≤ a ∧ a < m)) := by rw [hy, hr]; unfold hasW; rw [h.zm]
  rw [← hr, ← hz] at hri
  rw [← hz, ← hy]
  have HRI := Lib.hid hri
  have HY := Lib.hid hy2
  clear h hr hz hy hy2 hri
  go_enter Try.func21, Try.ntmps21
  go_wp2_with fail
  have HB0 : Hid (Below w.heap.size w (w.alloc (.cells #[.slice p n c, .slice pp m cc, .int .i64 z] 25))) := Lib.hid ((Below.refl _ _).alloc (Nat.le_refl _) _)
  refine (HRI.out _ HB0.out).mono ?_
  rintro e w1 ⟨rfl, hb1⟩
  have kc := (Blk.track1 hb1).c
  have HB1 : Hid (Below w.heap.size w w1) := Lib.hid (HB0.out.trans (hb1.mono HB0.out.size))
  clear hb1 HB0 HRI
  cases r with
  | false =>
    go_wp2_with fail
    go_ret
    exact ⟨by rw [HY.out]; rfl, HB1.out⟩
  | true =>
    by_cases h0 : 0 ≤ a
    · have e0 : decide (0 ≤ a) = true := decide_eq_true h0
      by_cases h1 : a < (m : Int)
      · have e1 : decide (a < (m : Int)) = true := decide_eq_true h1
        have hf : y = true := by rw [HY.out, decide_eq_true ⟨h0, h1⟩]; rfl
        subst hf
        clear h0 h1
        go_wp2_with fail
        go_ret
        exact ⟨rfl, HB1.out⟩
      · have e1 : decide (a < (m : Int)) = false := decide_eq_false h1
        have hf : y = false := by rw [HY.out, decide_eq_false (by omega)]; rfl
        subst hf
        clear h0 h1
        go_wp2_with fail
        go_ret
        exact ⟨rfl, HB1.out⟩
    · have e0 : decide (0 ≤ a) = false := decide_eq_false h0
      have hf : y = false := by rw [HY.out, decide_eq_false (by omega)]; rfl
      subst hf
      clear h0
      go_wp2_with fail
      go_ret
      exact ⟨rfl, HB1.out⟩

set_option maxHeartbeats 1000000 in
theorem read_any (p : Option Addr) (n c : Nat) (xs : List Value) (pp : Option Addr) (m cc : Nat) (B : Bk) (k a : Int) (w : World) (h : Bn w p n c xs pp m cc B) :
    Calls Try.prog 8 #[.agg #[.slice p n c, .slice pp m cc, .int .i64 B.lost], .int .i64 k, .int .i64 a] w fun e w' => e = .returned (.tuple #[.int .u32 (readN B k a : Nat), .int .i64 (readE B k a)]) ∧ Below w.heap.size w w' := by
  have hm := h.m100
  have hn := h.n100
  have HH := Lib.hid h
  have hri := fun w' hb => hasword_any p n c xs pp m cc B k a w' (h.below hb)
  obtain ⟨r, hr⟩ : ∃ r, r = hasW B k a := ⟨_, rfl⟩
  obtain ⟨z, hz⟩ : ∃ z, z = B.lost := ⟨_, rfl⟩
  rw [← hr, ← hz] at hri
  rw [← hz]
  have HRI := Lib.hid hri
  have HR := Lib.hid hr
  have HZ := Lib.hid hz
  clear h hr hz hri
  have HB0 : Hid (Below w.heap.size w (w.alloc (.cells #[.slice p n c, .slice pp m cc, .int .i64 z] 25))) := Lib.hid ((Below.refl _ _).alloc (Nat.le_refl _) _)
  cases r with
  | false =>
    have e1 : readN B k a = 0 := by unfold readN; rw [← HR.out]; rfl
    have e2 : readE B k a = 1 := by unfold readE; rw [← HR.out]; rfl
    rw [e1, e2]
    clear e1 e2
    go_enter Try.func8, Try.ntmps8
    go_wp2_with fail
    refine (HRI.out _ HB0.out).mono ?_
    rintro e w1 ⟨rfl, hb1⟩
    have HB1 : Hid (Below w.heap.size w w1) := Lib.hid (HB0.out.trans (hb1.mono HB0.out.size))
    clear hb1
    go_wp2_with fail
    go_ret2
    exact ⟨rfl, HB1.out⟩
  | true =>
    have hw := hasW_inv HR.out.symm
    obtain ⟨hright, hk0, hk1, ha0, ha1⟩ := hw
    have hri := right_inv hright
    rw [HH.out.zn] at hk1 hri
    rw [HH.out.zm] at ha1 hri
    have HRT := Lib.hid hright
    have hn8 : n ≤ 8 := by omega
    have hall : allB B.rows m = true := hri.2.2.2.2.1
    have HALL := Lib.hid hall
    have e1 : readN B k a = if z = k + 1 then 0 else wordB B k a := by unfold readN; rw [← HR.out, if_pos rfl, HZ.out]
    have e2 : readE B k a = if z = k + 1 then 8 else 0 := by unfold readE; rw [← HR.out, if_pos rfl, HZ.out]
    rw [e1, e2]
    obtain ⟨j, rfl⟩ := Int.eq_ofNat_of_zero_le hk0
    obtain ⟨i, rfl⟩ := Int.eq_ofNat_of_zero_le ha0
    have wk : IntKind.i64.wrap ((j : Int) + 1) = (j : Int) + 1 := by rw [IntKind.wrap_i64]; omega
    clear e1 e2 hright hri hall
    by_cases hl : z = (j : Int) + 1
    · rw [if_pos hl, if_pos hl]
      have e0 : (z == (j : Int) + 1) = true := by simpa using hl
      have HL := Lib.hid hl
      clear hl
      go_enter Try.func8, Try.ntmps8
      go_wp2_with fail
      refine (HRI.out _ HB0.out).mono ?_
      rintro e w1 ⟨rfl, hb1⟩
      have kc := (Blk.track1 hb1).c
      have HB1 : Hid (Below w.heap.size w w1) := Lib.hid (HB0.out.trans (hb1.mono HB0.out.size))
      clear hb1
      go_wp2_with fail
      go_ret2
      exact ⟨rfl, HB1.out⟩
    · rw [if_neg hl, if_neg hl]
      have hd : wordB B (j : Int) (i : Int) = (B.rows.getD j []).getD i 0 := by unfold wordB; simp only [Int.toNat_natCast]
      rw [hd]
      obtain ⟨v0, hv0⟩ : ∃ v, v = (B.rows.getD j []).getD i 0 := ⟨_, rfl⟩
      rw [← hv0]
      have HV0 := Lib.hid hv0
      clear hd hv0
      have e0 : (z == (j : Int) + 1) = false := by simpa using hl
      have HL := Lib.hid hl
      clear hl
      go_enter Try.func8, Try.ntmps8
      go_wp2_with fail
      refine (HRI.out _ HB0.out).mono ?_
      rintro e w1 ⟨rfl, hb1⟩
      have kc := (Blk.track1 hb1).c
      have HB1 : Hid (Below w.heap.size w w1) := Lib.hid (HB0.out.trans (hb1.mono HB0.out.size))
      clear hb1
      obtain ⟨b, off, q, x, c2, rfl, hrow⟩ := (HH.out.rw_.below HB1.out).rowAt j (by rw [HH.out.zn]; omega)
      have hck := hrow.cell
      have hxm : x = m := by rw [← hrow.len]; exact all_at HALL.out j (by rw [HH.out.zn]; omega)
      subst hxm
      obtain ⟨b2, off2, hb2l, hq, hcr⟩ := hrow.nm.cellAt i (by rw [hrow.len]; omega)
      subst hq
      rw [← HV0.out] at hcr
      clear hrow hb2l
      go_wp2_with fail
      go_ret2
      exact ⟨rfl, HB1.out⟩
end Go.Proofs.Ytkeemmedbbammaa
