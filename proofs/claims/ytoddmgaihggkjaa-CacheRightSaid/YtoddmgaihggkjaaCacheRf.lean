/- The document's own: what a line is; no condition but that the cache reads. -/
import Derived.Test.YtoddmgaihggkjaaCacheRe
import Derived.Test.YtoddmgaihggkjaaCacheI
namespace Go.Proofs.Ytoddmgaihggkjaa
set_option linter.unusedVariables false
open Go.ChangeShapes Go.WideShapes Go.ChangeAt Go.RowKit

theorem has_right {C : Ch} {a : Int} (h : rightC C = false) : hasC C a = false := by unfold hasC mayC; rw [h]; rfl
theorem has_neg {C : Ch} {a : Int} (h : a < 0) : hasC C a = false := by
  unfold hasC mayC
  rw [decide_eq_false (by omega), Bool.and_false, Bool.false_and]
theorem has_at {C : Ch} {a : Int} (h : atC C a < 0) : hasC C a = false := by
  unfold hasC
  rw [decide_eq_false (by omega), Bool.and_false]
theorem has_yes {C : Ch} {a : Int} (h : rightC C = true) (ha : ¬ a < 0) (h2 : ¬ atC C a < 0) : hasC C a = true := by
  unfold hasC mayC
  rw [h, decide_eq_true (by omega), decide_eq_true (by omega)]
  rfl
set_option maxHeartbeats 4000000 in
set_option maxRecDepth 100000 in
theorem reflook_any (S : Nat → Prop) (v : Value) (C : Ch) (a : Int) (w : World) (h : Co S w v C) : Calls Try.prog 9 #[v, .int .i64 a] w fun e w' => e = .returned (.tuple #[.agg #[.int .i64 (lookC C a).addr, .int .i64 (lookC C a).state, .int .u32 (lookC C a).val, .int .i64 (lookC C a).used], .bool (hasC C a)]) ∧ Below w.heap.size w w' := by
  have HF := Lib.hid (fun W hW => refright_any S v C W (h.below (w := w) (w' := W) hW))
  obtain ⟨p, n, c, xs, rfl, hc, -⟩ := h
  have hn := hc.n100
  have HC := Lib.hid hc
  obtain ⟨y, hy⟩ : ∃ x, x = lookC C a := ⟨_, rfl⟩
  rw [← hy]
  obtain ⟨H, hH⟩ : ∃ x, x = hasC C a := ⟨_, rfl⟩
  rw [← hH]
  have HHE := Lib.hid hH
  clear hH
  have HNO : Hid (hasC C a = false → y = zL) := Lib.hid (fun h => by rw [hy]; exact (drop_no h).2)
  have HY := Lib.hid hy
  clear hc hy
  obtain ⟨w0, hw0⟩ : ∃ w0, w0 = (w.alloc (.cells #[.int .i64 C.sets, .int .i64 C.ways, .int .i64 C.clock, .slice p n c] 24)).alloc (.cells #[.int .i64 0, .int .i64 0, .int .u32 0, .int .i64 0] 30) := ⟨_, rfl⟩
  have HB0 : Hid (Below w.heap.size w w0) := Lib.hid (by rw [hw0]; exact ((Below.refl _ _).alloc (Nat.le_refl _) _).alloc (by simp) _)
  have HA0 : Hid (Blk w0 w.heap.size #[.int .i64 C.sets, .int .i64 C.ways, .int .i64 C.clock, .slice p n c]) := Lib.hid (by rw [hw0]; exact (Blk.new _ _ _).alloc _)
  have HT0 : Hid (Blk w0 (w.heap.size + 1) #[.int .i64 0, .int .i64 0, .int .u32 0, .int .i64 0]) := Lib.hid (by
    have := Blk.new (w.alloc (.cells #[.int .i64 C.sets, .int .i64 C.ways, .int .i64 C.clock, .slice p n c] 24)) #[.int .i64 0, .int .i64 0, .int .u32 0, .int .i64 0] 30
    rw [World.size_alloc] at this
    rw [hw0]; exact this)
  have HQ := Lib.hid (HF.out w0 HB0.out)
  have HW0 := Lib.hid hw0
  clear HF hw0
  go_enter Try.func9, Try.ntmps9
  have kA := HA0.out.c
  go_upto_region 1 with fail
  rw [← HW0.out]
  clear HW0
  go_wp2_with fail
  refine HQ.out.mono ?_
  rintro e w1 ⟨rfl, hb1⟩
  have HA1 := Lib.hid (HA0.out.below hb1)
  have HT1 := Lib.hid (HT0.out.below hb1)
  have HB1 : Hid (Below w.heap.size w w1) := Lib.hid (HB0.out.trans (hb1.mono HB0.out.size))
  clear hb1 HA0 HB0 HQ HT0 kA
  have kA := HA1.out.c
  have cT := HT1.out.c
  have fT := HT1.out.f
  have lT := HT1.out.lt
  cases hr : rightC C with
  | false =>
    have hh := has_right (a := a) hr
    have hy := HNO.out hh
    subst hy
    have hH := HHE.out.trans hh
    subst hH
    clear HNO hh hr HY HHE
    go_wp2_with fail
    exact bodyPost_ret (v := .tuple #[.agg #[.int .i64 0, .int .i64 0, .int .u32 0, .int .i64 0], .bool false]) (by simp [results, Try.results9, go_sem, *]) rfl ⟨rfl, set4_below HB1.out (by omega) _ _ _ _⟩
  | true =>
    by_cases ha : a < 0
    · have d1 : decide (a < 0) = true := decide_eq_true ha
      have hh := has_neg (C := C) ha
      have hy := HNO.out hh
      subst hy
      have hH := HHE.out.trans hh
      subst hH
      clear HNO hh hr HY HHE
      go_wp2_with fail
      exact bodyPost_ret (v := .tuple #[.agg #[.int .i64 0, .int .i64 0, .int .u32 0, .int .i64 0], .bool false]) (by simp [results, Try.results9, go_sem, *]) rfl ⟨rfl, set4_below HB1.out (by omega) _ _ _ _⟩
    · have d1 : decide (a < 0) = false := decide_eq_false ha
      have HNA := Lib.hid ha
      clear ha
      have HRT := Lib.hid (right_rt hr)
      have hAT := at_any p n c xs C a w1 (HC.out.below HB1.out) (right_rt hr) (by have := HNA.out; omega)
      have HAT := Lib.hid hAT
      clear hAT cT fT lT
      go_wp2_with fail
      refine HAT.out.mono ?_
      rintro e w2 ⟨rfl, hb2⟩
      have HA2 := Lib.hid (HA1.out.below hb2)
      have HT2 := Lib.hid (HT1.out.below hb2)
      have HB2 : Hid (Below w.heap.size w w2) := Lib.hid (HB1.out.trans (hb2.mono HB1.out.size))
      clear hb2 kA HA1 HT1 HB1 HAT
      by_cases hat : atC C a < 0
      · have hh := has_at hat
        have hy := HNO.out hh
        subst hy
        have hH := HHE.out.trans hh
        subst hH
        have d2 : decide (atC C a < 0) = true := decide_eq_true hat
        clear HNO hh hr HY HHE
        generalize atC C a = T at d2 ⊢
        have cT := HT2.out.c
        have fT := HT2.out.f
        have lT := HT2.out.lt
        go_wp2_with fail
        exact bodyPost_ret (v := .tuple #[.agg #[.int .i64 0, .int .i64 0, .int .u32 0, .int .i64 0], .bool false]) (by simp [results, Try.results9, go_sem, *]) rfl ⟨rfl, set4_below HB2.out (by omega) _ _ _ _⟩
      · have d2 : decide (atC C a < 0) = false := decide_eq_false hat
        have HAN := Lib.hid hat
        have hh := has_yes (a := a) hr (by have := HNA.out; omega) (by have := HAN.out; omega)
        have hH := HHE.out.trans hh
        subst hH
        obtain ⟨e1, e2, e3, e4⟩ := look_has hh
        obtain ⟨j, hj, hjl, hl⟩ := atC_lt2 (show 0 ≤ atC C a by have := HAN.out; omega)
        have hkn : setNo C a < n := by have := HRT.out.set_lt a; have := HC.out.zn; omega
        have hk2 := HRT.out.set_as a
        have hs1 := HRT.out.n1
        have hCAT := at_any p n c xs C a
        obtain ⟨b, off, q, x, c2, rfl, hat2⟩ := HC.out.setAt (setNo C a) hkn
        rw [setC_eq] at hat2
        have hjx : j < x := by rw [← hat2.len]; exact hjl
        obtain ⟨b2, off2, rfl, hline⟩ := hat2.lm.at_ j hjl
        rw [← hl, ← e4, ← HY.out] at hline
        have HCAT : Hid (∀ V, Below w.heap.size w V → Calls Try.prog 25 #[.agg #[.int .i64 C.sets, .int .i64 C.ways, .int .i64 C.clock, .slice (some ⟨b, off, none⟩) n c], .int .i64 a] V fun e w' => e = .returned (.int .i64 (j : Int)) ∧ Below V.heap.size V w') := Lib.hid (fun V hV => by
          have := hCAT V (HC.out.below hV) HRT.out (by have := HNA.out; omega)
          rw [hj] at this
          exact this)
        obtain ⟨ya, ys, yv, yu⟩ := y
        have HS : Hid (∀ V, Below w2.heap.size w2 V → (∀ t, V.cell? ⟨w.heap.size, t, none⟩ = (#[.int .i64 C.sets, .int .i64 C.ways, .int .i64 C.clock, .slice (some ⟨b, off, none⟩) n c] : Array Value)[t]?) ∧ V.cell? ⟨b, off + setNo C a, none⟩ = some (.slice (some ⟨b2, off2, none⟩) x c2) ∧ V.cell? ⟨b2, off2 + j * 4, none⟩ = some (.int .i64 ya) ∧ V.cell? ⟨b2, off2 + j * 4 + 1, none⟩ = some (.int .i64 ys) ∧ V.cell? ⟨b2, off2 + j * 4 + 2, none⟩ = some (.int .u32 (yv : Int)) ∧ V.cell? ⟨b2, off2 + j * 4 + 3, none⟩ = some (.int .i64 yu)) := Lib.hid (fun V hV => by
          have hWV : Below w.heap.size w V := HB2.out.trans (hV.mono HB2.out.size)
          obtain ⟨_, k0, k1, k2, k3⟩ := hline.below hWV
          exact ⟨(HA2.out.below hV).c, (hat2.below hWV).cell, k0, k1, k2, k3⟩)
        rw [hj] at d2 ⊢
        obtain ⟨k, hke⟩ : ∃ k, k = setNo C a := ⟨_, rfl⟩
        rw [← hke] at hkn HS hk2
        obtain ⟨A, W, K, hA, hW, hK⟩ : ∃ A W K, A = C.sets ∧ W = C.ways ∧ K = C.clock := ⟨_, _, _, rfl, rfl, rfl⟩
        rw [← hA] at hk2 hs1
        rw [← hA, ← hW, ← hK] at HS HCAT HA2 ⊢
        have htm : a.tmod A = (k : Int) := by rw [Int.tmod_eq_emod_of_nonneg (by have := HNA.out; omega), hk2]
        have hA0 : A ≠ 0 := by omega
        have hkI : (k : Int) < (n : Int) := by omega
        have hjI : (j : Int) < (x : Int) := by omega
        clear HHE hA hW hK hke e1 e2 e3 e4 hl hjl hj hat hat2 hline hh hr HNO HY hCAT hk2 HNA HAN HC HRT
        go_upto_region 3 with fail
        refine region_plan (fun V : World => (∀ t, V.cell? ⟨w.heap.size, t, none⟩ = (#[.int .i64 A, .int .i64 W, .int .i64 K, .slice (some ⟨b, off, none⟩) n c] : Array Value)[t]?) ∧ V.cell? ⟨b, off + k, none⟩ = some (.slice (some ⟨b2, off2, none⟩) x c2) ∧ V.cell? ⟨b2, off2 + j * 4, none⟩ = some (.int .i64 ya) ∧ V.cell? ⟨b2, off2 + j * 4 + 1, none⟩ = some (.int .i64 ys) ∧ V.cell? ⟨b2, off2 + j * 4 + 2, none⟩ = some (.int .u32 (yv : Int)) ∧ V.cell? ⟨b2, off2 + j * 4 + 3, none⟩ = some (.int .i64 yu)) 13 [(0, true), (1, true), (2, true), (3, true), (4, true), (5, true), (6, true), (7, true), (8, true), (9, true), (10, false), (11, true), (12, true)] (by kernel_rfl) (by kernel_rfl) (HS.out _ (Below.refl _ _).drew) ?_
        iterate 10
          refine plan_read (v := ?_) rfl (by rfl) ?_ ?_
          rotate_left
          · intro w' hS
            try dsimp only at hS
            go_simp
            try with_reducible rfl
          try simp only [Act.put, List.setIfInBounds_toArray, List.set_cons_zero, List.set_cons_succ, List.getElem_toArray, List.getElem_cons_zero, List.getElem_cons_succ]
        refine plan_call (F := 25) (args := ?_) rfl (by rfl) ?_ ?_
        rotate_left
        · go_simp
          rfl
        refine (HCAT.out w2.drew HB2.out.drew).mono ?_
        rintro e w3 ⟨rfl, hb3⟩
        have HB3 : Hid (Below w2.heap.size w2 w3) := Lib.hid ((Below.refl _ _).drew.trans hb3)
        clear hb3
        refine ⟨_, rfl, HS.out _ HB3.out, ?_⟩
        try simp only [Act.put, List.setIfInBounds_toArray, List.set_cons_zero, List.set_cons_succ, List.getElem_toArray, List.getElem_cons_zero, List.getElem_cons_succ]
        iterate 2
          refine plan_read (v := ?_) rfl (by rfl) ?_ ?_
          rotate_left
          · intro w' hS
            try dsimp only at hS
            go_simp
            try with_reducible rfl
          try simp only [Act.put, List.setIfInBounds_toArray, List.set_cons_zero, List.set_cons_succ, List.getElem_toArray, List.getElem_cons_zero, List.getElem_cons_succ]
        refine plan_nil ?_
        simp only [List.drop_succ_cons, List.drop_zero]
        have HT3 := Lib.hid (HT2.out.below HB3.out)
        have HBW : Hid (Below w.heap.size w w3) := Lib.hid (HB2.out.trans (HB3.out.mono HB2.out.size))
        clear HS HCAT HT2 HA2 HB3
        have cT := HT3.out.c
        have fT := HT3.out.f
        have lT := HT3.out.lt
        go_wp2_with fail
        exact bodyPost_ret (v := .tuple #[.agg #[.int .i64 ya, .int .i64 ys, .int .u32 yv, .int .i64 yu], .bool true]) (by simp [results, Try.results9, go_sem, *]) rfl ⟨rfl, set4_below HBW.out (by omega) _ _ _ _⟩
end Go.Proofs.Ytoddmgaihggkjaa
