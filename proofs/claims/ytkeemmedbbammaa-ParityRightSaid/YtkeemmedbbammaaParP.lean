/- The document's own Read and Lose; no condition but that the banks read. -/
import Derived.Test.YtkeemmedbbammaaParO
namespace Go.Proofs.Ytkeemmedbbammaa
set_option linter.unusedVariables false
open Go.ChangeShapes Go.WideShapes Go.ChangeAt Go.RowKit

theorem hasW_split {B : Bk} {k a : Int} {m : Nat} (hm : B.par.length = m) : hasW B k a = (hasB B k && decide (0 ≤ a ∧ a < m)) := by unfold hasW; rw [hm]
set_option maxHeartbeats 1000000 in
theorem rread_any (p : Option Addr) (n c : Nat) (xs : List Value) (pp : Option Addr) (m cc : Nat) (B : Bk) (k a : Int) (w : World) (h : Bn w p n c xs pp m cc B) :
    Calls Try.prog 9 #[.agg #[.slice p n c, .slice pp m cc, .int .i64 B.lost], .int .i64 k, .int .i64 a] w fun e w' => e = .returned (.tuple #[.int .u32 (readN B k a : Nat), .int .i64 (readE B k a)]) ∧ Below w.heap.size w w' := by
  have hm := h.m100
  have hn := h.n100
  have HH := Lib.hid h
  have hri := fun w' hb => rhas_any p n c xs pp m cc B k w' (h.below hb)
  have hsp := hasW_split (k := k) (a := a) h.zm
  obtain ⟨r, hr⟩ : ∃ r, r = hasB B k := ⟨_, rfl⟩
  obtain ⟨z, hz⟩ : ∃ z, z = B.lost := ⟨_, rfl⟩
  rw [← hr] at hsp
  rw [← hr, ← hz] at hri
  rw [← hz]
  have HRI := Lib.hid hri
  have HR := Lib.hid hr
  have HZ := Lib.hid hz
  have HSP := Lib.hid hsp
  clear h hr hz hri hsp
  have HB0 : Hid (Below w.heap.size w (w.alloc (.cells #[.slice p n c, .slice pp m cc, .int .i64 z] 25))) := Lib.hid ((Below.refl _ _).alloc (Nat.le_refl _) _)
  have HNO : Hid (hasW B k a = false → readN B k a = 0 ∧ readE B k a = 1) := Lib.hid (fun e => by unfold readN readE; rw [e]; exact ⟨rfl, rfl⟩)
  cases r with
  | false =>
    obtain ⟨e1, e2⟩ := HNO.out (by rw [HSP.out]; rfl)
    rw [e1, e2]
    clear e1 e2
    go_enter Try.func9, Try.ntmps9
    go_wp2_with fail
    refine (HRI.out _ HB0.out).mono ?_
    rintro e w1 ⟨rfl, hb1⟩
    have HB1 : Hid (Below w.heap.size w w1) := Lib.hid (HB0.out.trans (hb1.mono HB0.out.size))
    clear hb1
    go_wp2_with fail
    go_ret2
    exact ⟨rfl, HB1.out⟩
  | true =>
    by_cases h0 : a < 0
    · obtain ⟨e1, e2⟩ := HNO.out (by rw [HSP.out, decide_eq_false (by omega)]; rfl)
      rw [e1, e2]
      have d0 : decide (a < 0) = true := decide_eq_true h0
      clear e1 e2 h0
      go_enter Try.func9, Try.ntmps9
      go_wp2_with fail
      refine (HRI.out _ HB0.out).mono ?_
      rintro e w1 ⟨rfl, hb1⟩
      have kc := (Blk.track1 hb1).c
      have HB1 : Hid (Below w.heap.size w w1) := Lib.hid (HB0.out.trans (hb1.mono HB0.out.size))
      clear hb1
      go_wp2_with fail
      go_ret2
      exact ⟨rfl, HB1.out⟩
    have d0 : decide (a < 0) = false := decide_eq_false h0
    by_cases h1 : (m : Int) ≤ a
    · obtain ⟨e1, e2⟩ := HNO.out (by rw [HSP.out, decide_eq_false (by omega)]; rfl)
      rw [e1, e2]
      have d1 : decide ((m : Int) ≤ a) = true := decide_eq_true h1
      clear e1 e2 h0 h1
      go_enter Try.func9, Try.ntmps9
      go_wp2_with fail
      refine (HRI.out _ HB0.out).mono ?_
      rintro e w1 ⟨rfl, hb1⟩
      have kc := (Blk.track1 hb1).c
      have HB1 : Hid (Below w.heap.size w w1) := Lib.hid (HB0.out.trans (hb1.mono HB0.out.size))
      clear hb1
      go_wp2_with fail
      go_ret2
      exact ⟨rfl, HB1.out⟩
    have d1 : decide ((m : Int) ≤ a) = false := decide_eq_false h1
    have hW : hasW B k a = true := by rw [HSP.out, decide_eq_true (by omega)]; rfl
    obtain ⟨hright, hk0, hk1, ha0, ha1⟩ := hasW_inv hW
    have hri := right_inv hright
    rw [HH.out.zn] at hk1 hri
    rw [HH.out.zm] at ha1 hri
    have hn8 : n ≤ 8 := by omega
    have HALL : Hid (allB B.rows m = true) := Lib.hid hri.2.2.2.2.1
    have e1 : readN B k a = if z = k + 1 then 0 else wordB B k a := by unfold readN; rw [hW, if_pos rfl, HZ.out]
    have e2 : readE B k a = if z = k + 1 then 8 else 0 := by unfold readE; rw [hW, if_pos rfl, HZ.out]
    rw [e1, e2]
    obtain ⟨j, rfl⟩ := Int.eq_ofNat_of_zero_le hk0
    obtain ⟨i, rfl⟩ := Int.eq_ofNat_of_zero_le ha0
    have wk : IntKind.i64.wrap ((j : Int) + 1) = (j : Int) + 1 := by rw [IntKind.wrap_i64]; omega
    clear e1 e2 hright hri h0 h1 hW
    by_cases hl : z = (j : Int) + 1
    · rw [if_pos hl, if_pos hl]
      have e0 : (z == (j : Int) + 1) = true := by simpa using hl
      have HL := Lib.hid hl
      clear hl
      go_enter Try.func9, Try.ntmps9
      go_wp2_with fail
      refine (HRI.out _ HB0.out).mono ?_
      rintro e w1 ⟨rfl, hb1⟩
      have kc := (Blk.track1 hb1).c
      have HB1 : Hid (Below w.heap.size w w1) := Lib.hid (HB0.out.trans (hb1.mono HB0.out.size))
      clear hb1
      go_wp2_with fail
      go_ret2
      exact ⟨rfl, HB1.out⟩
    · rw [if_neg hl, if_neg hl]
      have hd : wordB B (j : Int) (i : Int) = (B.rows.getD j []).getD i 0 := by unfold wordB; simp only [Int.toNat_natCast]
      rw [hd]
      obtain ⟨v0, hv0⟩ : ∃ v, v = (B.rows.getD j []).getD i 0 := ⟨_, rfl⟩
      rw [← hv0]
      have HV0 := Lib.hid hv0
      clear hd hv0
      have e0 : (z == (j : Int) + 1) = false := by simpa using hl
      have HL := Lib.hid hl
      clear hl
      go_enter Try.func9, Try.ntmps9
      go_wp2_with fail
      refine (HRI.out _ HB0.out).mono ?_
      rintro e w1 ⟨rfl, hb1⟩
      have kc := (Blk.track1 hb1).c
      have HB1 : Hid (Below w.heap.size w w1) := Lib.hid (HB0.out.trans (hb1.mono HB0.out.size))
      clear hb1
      obtain ⟨b, off, q, x, c2, rfl, hrow⟩ := (HH.out.rw_.below HB1.out).rowAt j (by rw [HH.out.zn]; omega)
      have hck := hrow.cell
      have hxm : x = m := by rw [← hrow.len]; exact all_at HALL.out j (by rw [HH.out.zn]; omega)
      subst hxm
      obtain ⟨b2, off2, hb2l, hq, hcr⟩ := hrow.nm.cellAt i (by rw [hrow.len]; omega)
      subst hq
      rw [← HV0.out] at hcr
      clear hrow hb2l
      go_wp2_with fail
      go_ret2
      exact ⟨rfl, HB1.out⟩

theorem Bn.lost {w : World} {p : Option Addr} {n c : Nat} {xs : List Value} {pp : Option Addr} {m cc : Nat} {B : Bk} (h : Bn w p n c xs pp m cc B) (z : Int) : Bn w p n c xs pp m cc ⟨B.rows, B.par, z⟩ :=
  ⟨h.zn, h.rw_, h.cn, h.zm, h.nm, h.cm, h.m100⟩
theorem Bn.tm {w : World} {p : Option Addr} {n c : Nat} {xs : List Value} {pp : Option Addr} {m cc : Nat} {B : Bk} (h : Bn w p n c xs pp m cc B) : m ≤ 100 := h.m100
end Go.Proofs.Ytkeemmedbbammaa
