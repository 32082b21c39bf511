/- What a line is; no condition but that the cache reads. -/
import Derived.Test.YtoddmgaihggkjaaCacheH
namespace Go.Proofs.Ytoddmgaihggkjaa
set_option linter.unusedVariables false
open Go.ChangeShapes Go.WideShapes Go.ChangeAt Go.RowKit

theorem has_iff {C : Ch} {a : Int} : hasC C a = true ↔ (Rt C ∧ 0 ≤ a) ∧ 0 ≤ atC C a := by
  unfold hasC; rw [Bool.and_eq_true, mayC_iff, decide_eq_true_eq]
theorem look_has {C : Ch} {a : Int} (h : hasC C a = true) : findS C a = (setNo C a : Int) ∧ findA C a = atC C a ∧ dropE C a = 0 ∧ lookC C a = lineAt C a := by
  have hm := has_may h
  have ha := (has_iff.1 h).2
  refine ⟨by unfold findS; rw [hm]; rfl, by unfold findA; rw [h]; rfl, by unfold dropE; rw [hm, if_pos rfl, if_pos ha], by unfold lookC; rw [h]; rfl⟩
theorem drop_no {C : Ch} {a : Int} (h : hasC C a = false) : dropE C a ≠ 0 ∧ lookC C a = zL := by
  refine ⟨?_, by unfold lookC; rw [h]; rfl⟩
  unfold dropE
  by_cases hm : mayC C a = true
  · rw [if_pos hm]
    have : ¬ 0 ≤ atC C a := fun e => by unfold hasC at h; rw [hm, decide_eq_true e] at h; cases h
    rw [if_neg this]; decide
  · rw [if_neg hm]; decide

set_option maxHeartbeats 4000000 in
theorem look_any (S : Nat → Prop) (v : Value) (C : Ch) (a : Int) (w : World) (h : Co S w v C) : Calls Try.prog 8 #[v, .int .i64 a] w fun e w' => e = .returned (.tuple #[.agg #[.int .i64 (lookC C a).addr, .int .i64 (lookC C a).state, .int .u32 (lookC C a).val, .int .i64 (lookC C a).used], .bool (hasC C a)]) ∧ Below w.heap.size w w' := by
  have HF := Lib.hid (fun W hW => find_any S v C a W (h.below (w := w) (w' := W) hW))
  obtain ⟨p, n, c, xs, rfl, hc, -⟩ := h
  have hn := hc.n100
  have HC := Lib.hid hc
  obtain ⟨r, hr⟩ : ∃ x, x = hasC C a := ⟨_, rfl⟩
  obtain ⟨y, hy⟩ : ∃ x, x = lookC C a := ⟨_, rfl⟩
  rw [← hr, ← hy]
  have HRR := Lib.hid hr
  have HY := Lib.hid hy
  clear hc hr hy
  obtain ⟨w0, hw0⟩ : ∃ w0, w0 = (w.alloc (.cells #[.int .i64 C.sets, .int .i64 C.ways, .int .i64 C.clock, .slice p n c] 24)).alloc (.cells #[.int .i64 0, .int .i64 0, .int .u32 0, .int .i64 0] 30) := ⟨_, rfl⟩
  have HB0 : Hid (Below w.heap.size w w0) := Lib.hid (by rw [hw0]; exact ((Below.refl _ _).alloc (Nat.le_refl _) _).alloc (by simp) _)
  have HA0 : Hid (Blk w0 w.heap.size #[.int .i64 C.sets, .int .i64 C.ways, .int .i64 C.clock, .slice p n c]) := Lib.hid (by rw [hw0]; exact (Blk.new _ _ _).alloc _)
  have HT0 : Hid (Blk w0 (w.heap.size + 1) #[.int .i64 0, .int .i64 0, .int .u32 0, .int .i64 0]) := Lib.hid (by
    have := Blk.new (w.alloc (.cells #[.int .i64 C.sets, .int .i64 C.ways, .int .i64 C.clock, .slice p n c] 24)) #[.int .i64 0, .int .i64 0, .int .u32 0, .int .i64 0] 30
    rw [World.size_alloc] at this
    rw [hw0]; exact this)
  have HQ := Lib.hid (HF.out w0 HB0.out)
  have HW0 := Lib.hid hw0
  clear HF hw0
  go_enter Try.func8, Try.ntmps8
  go_wp2_with fail
  rw [← HW0.out]
  refine HQ.out.mono ?_
  rintro e w1 ⟨rfl, hb1⟩
  have HA1 := Lib.hid (HA0.out.below hb1)
  have HT1 := Lib.hid (HT0.out.below hb1)
  have HB1 : Hid (Below w.heap.size w w1) := Lib.hid (HB0.out.trans (hb1.mono HB0.out.size))
  clear hb1 HA0 HB0 HQ HT0 HW0
  cases r with
  | false =>
    obtain ⟨e1, e2⟩ := drop_no HRR.out.symm
    have hy : y = zL := HY.out.trans e2
    subst hy
    have e3 : (dropE C a != 0) = true := by simpa using e1
    have cT := HT1.out.c
    have fT := HT1.out.f
    have lT := HT1.out.lt
    clear e1 e2
    generalize dropE C a = E at e3 ⊢
    generalize findS C a = E1
    generalize findA C a = E2
    go_wp2_with fail
    exact bodyPost_ret (v := .tuple #[.agg #[.int .i64 0, .int .i64 0, .int .u32 0, .int .i64 0], .bool false]) (by simp [results, Try.results8, go_sem, *]) rfl ⟨rfl, set4_below HB1.out (by omega) _ _ _ _⟩
  | true =>
    have hh := HRR.out.symm
    obtain ⟨e1, e2, e3, e4⟩ := look_has hh
    obtain ⟨⟨hrt, ha⟩, hat0⟩ := has_iff.1 hh
    obtain ⟨j, hj, hjl, hl⟩ := atC_lt2 hat0
    have hk := hrt.set_lt a
    have hzn := HC.out.zn
    have hkn : setNo C a < n := by omega
    obtain ⟨b, off, q, x, c2, rfl, hat⟩ := HC.out.setAt (setNo C a) (by omega)
    rw [setC_eq] at hat
    have hjx : j < x := by rw [← hat.len]; exact hjl
    obtain ⟨b2, off2, rfl, hline⟩ := hat.lm.at_ j hjl
    rw [← hl, ← e4, ← HY.out] at hline
    rw [e1, e2, e3, hj]
    have c0 := (hat.below HB1.out).cell
    have l0 := (hat.below HB1.out).lt
    have hline2 := hline.below HB1.out
    obtain ⟨l1, d0, d1, d2, d3⟩ := hline2
    obtain ⟨k, hke⟩ : ∃ k, k = setNo C a := ⟨_, rfl⟩
    rw [← hke] at c0 hkn ⊢
    obtain ⟨ya, ys, yv, yu⟩ := y
    dsimp only at d0 d1 d2 d3 ⊢
    have HX := Lib.hid hat.x100
    clear hat hline hke e1 e2 e3 e4 hj hjl hl hk hzn hrt ha hat0 hh HY HRR HC
    have kA := HA1.out.c
    have cT := HT1.out.c
    have fT := HT1.out.f
    have lT := HT1.out.lt
    have hx := HX.out
    have hkI : (k : Int) < (n : Int) := by omega
    have hjI : (j : Int) < (x : Int) := by omega
    go_wp2_with fail
    exact bodyPost_ret (v := .tuple #[.agg #[.int .i64 ya, .int .i64 ys, .int .u32 yv, .int .i64 yu], .bool true]) (by simp [results, Try.results8, go_sem, *]) rfl ⟨rfl, set4_below HB1.out (by omega) _ _ _ _⟩
end Go.Proofs.Ytoddmgaihggkjaa
