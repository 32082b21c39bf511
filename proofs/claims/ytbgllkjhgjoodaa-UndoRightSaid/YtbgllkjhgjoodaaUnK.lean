/- A word that is written, by the program; no condition but that the log reads. -/
import Derived.Test.YtbgllkjhgjoodaaUnJ
namespace Go.Proofs.Ytbgllkjhgjoodaa
set_option linter.unusedVariables false
open Go.ChangeShapes Go.WideShapes Go.ChangeAt Go.RowKit Go.Maps

theorem hasU_at {l : List Un} (hw : wfL l) {n : Nat} (hl : l.length = n) {s a : Int} (hs : (Lit.int .i64 s).wf = true) (ha : (Lit.int .i64 a).wf = true) : Maps.has (beM l n) (keyU s a) = hasU l s a := by rw [← hl]; exact be_hasU hw hs ha
theorem rt_wf {L : Lg} (h : Rt L) : wfL L.list := fun u hu => by
  have h2 := h.fit u hu
  have h3 := h.st
  have h4 := h.m64
  unfold FitU at h2
  unfold topS at h3
  exact ⟨WalkArith.wf_i64 (by omega), WalkArith.wf_i64 (by omega)⟩
theorem rt_wfs {L : Lg} (h : Rt L) : (Lit.int .i64 L.span).wf = true := by
  have h2 := h.s0
  have h3 := h.st
  unfold topS at h3
  exact WalkArith.wf_i64 (by omega)

set_option maxHeartbeats 4000000 in
set_option maxRecDepth 100000 in
theorem write_any {T : Nat → Prop} (S : Nat → Prop) (v : Value) (L : Lg) (a x : Int) (w : World) (h : Lo T w v L) (hS : ∀ R, S R → R < w.heap.size) : Calls Try.prog 7 #[v, .int .i64 a, .int .u32 x] w fun e w' => OutL S w w' e (writeL L a x) (writeE L a) := by
  obtain ⟨M, s, l⟩ := L
  obtain ⟨p0, m, c0, q0, n, d0, rfl, hc, -⟩ := h
  have hm := hc.m10
  have hn := hc.n10
  have HML : Hid (M.length = m) := Lib.hid hc.ml
  have HLL : Hid (l.length = n) := Lib.hid hc.ll
  have HSS := Lib.hid hS
  have HCP : Hid (∀ W, Below w.heap.size w W → Calls Try.prog 21 #[.agg #[.slice p0 m c0, .int .i64 s, .slice q0 n d0]] W fun e w' => ∃ p' c' q' d', e = .returned (.agg #[.slice p' m c', .int .i64 s, .slice q' n d']) ∧ OwnL (W.heap.size + 2) w' p' m c' q' n d' ⟨M, s, l⟩ ∧ Below W.heap.size W w') := Lib.hid (fun W hW => copied_any p0 q0 m c0 n d0 ⟨M, s, l⟩ W (hc.below hW))
  have HNO : Hid (okW ⟨M, s, l⟩ a = false → writeL ⟨M, s, l⟩ a x = ⟨M, s, l⟩ ∧ writeE ⟨M, s, l⟩ a = 1) := Lib.hid (fun e => by unfold writeL writeE; rw [e]; exact ⟨rfl, rfl⟩)
  have HOK : Hid (okW ⟨M, s, l⟩ a = (rightL ⟨M, s, l⟩ && hasW ⟨M, s, l⟩ a)) := Lib.hid rfl
  have HOLD : Hid (okW ⟨M, s, l⟩ a = true → hasU l s a = true → writeL ⟨M, s, l⟩ a x = ⟨M.set a.toNat x, s, l⟩ ∧ writeE ⟨M, s, l⟩ a = 0) := Lib.hid (fun e e2 => by unfold writeL writeE fullW putL setM; dsimp only; rw [e, e2]; exact ⟨rfl, rfl⟩)
  have HFULL : Hid (okW ⟨M, s, l⟩ a = true → hasU l s a = false → n = 256 → writeL ⟨M, s, l⟩ a x = ⟨M, s, l⟩ ∧ writeE ⟨M, s, l⟩ a = 6) := Lib.hid (fun e e2 e3 => by
    have hll := hc.ll
    dsimp only at hll
    unfold writeL writeE fullW; dsimp only; rw [e, e2, hll, e3]; exact ⟨rfl, rfl⟩)
  have HNEW : Hid (okW ⟨M, s, l⟩ a = true → hasU l s a = false → ¬ n = 256 → writeL ⟨M, s, l⟩ a x = ⟨M.set a.toNat x, s, l ++ [⟨s, a, M.getD a.toNat 0⟩]⟩ ∧ writeE ⟨M, s, l⟩ a = 0) := Lib.hid (fun e e2 e3 => by
    have hll := hc.ll
    dsimp only at hll
    unfold writeL writeE fullW putL setM; dsimp only; rw [e, e2, hll, decide_eq_false e3]; exact ⟨rfl, rfl⟩)
  dsimp only
  clear hc hS
  obtain ⟨w0, hw0⟩ : ∃ w0, w0 = (w.alloc (.cells #[.slice p0 m c0, .int .i64 s, .slice q0 n d0] 25)).alloc (.cells #[.slice none 0 0, .int .i64 0, .slice none 0 0] 25) := ⟨_, rfl⟩
  have HB0 : Hid (Below w.heap.size w w0) := Lib.hid (by rw [hw0]; exact ((Below.refl _ _).alloc (Nat.le_refl _) _).alloc (by simp) _)
  have HA0 : Hid (Blk w0 w.heap.size #[.slice p0 m c0, .int .i64 s, .slice q0 n d0]) := Lib.hid (by rw [hw0]; exact (Blk.new _ _ _).alloc _)
  have HT0 : Hid (Blk w0 (w.heap.size + 1) #[.slice none 0 0, .int .i64 0, .slice none 0 0]) := Lib.hid (by
    have := Blk.new (w.alloc (.cells #[.slice p0 m c0, .int .i64 s, .slice q0 n d0] 25)) #[.slice none 0 0, .int .i64 0, .slice none 0 0] 25
    rw [World.size_alloc] at this
    rw [hw0]; exact this)
  have HSZ : Hid (w0.heap.size = w.heap.size + 2) := Lib.hid (by rw [hw0, World.size_alloc, World.size_alloc])
  have HW0 := Lib.hid hw0
  clear hw0
  go_enter Try.func7, Try.ntmps7
  have kA := HA0.out.c
  go_upto_region 1 with fail
  rw [← HW0.out]
  clear HW0
  go_wp2_with fail
  refine (HCP.out w0 HB0.out).mono ?_
  rintro e w1 ⟨p, c, q, d, rfl, ho, hb⟩
  have HO1 : Hid (OwnL (w.heap.size + 2) w1 p m c q n d ⟨M, s, l⟩) := Lib.hid (ho.mono (by rw [HSZ.out]; omega))
  have HT1 := Lib.hid (HT0.out.below hb)
  have HB1 : Hid (Below w.heap.size w w1) := Lib.hid (HB0.out.trans (hb.mono HB0.out.size))
  have HGE : Hid (w.heap.size + 2 ≤ w1.heap.size) := Lib.hid (by rw [← HSZ.out]; exact hb.size)
  clear ho hb kA HA0 HT0 HB0 HSZ HCP
  go_upto_region 2 with fail
  have HST : Hid (St w (w1.alloc (.cells #[.slice p m c, .int .i64 s, .slice q n d] 25)) w1.heap.size p m c s q n d M l) := Lib.hid (St.make HO1.out HB1.out HT1.out HGE.out)
  obtain ⟨bo, hbo⟩ : ∃ b, b = w1.heap.size := ⟨_, rfl⟩
  obtain ⟨w2, hw2⟩ : ∃ z, z = w1.alloc (.cells #[.slice p m c, .int .i64 s, .slice q n d] 25) := ⟨_, rfl⟩
  rw [← hw2, ← hbo] at HST ⊢
  clear hw2 hbo HO1 HT1 HB1 HGE
  have HQ := Lib.hid (right_any _ _ _ w2 HST.out.lo)
  have HRT : Hid (rightL ⟨M, s, l⟩ = true → wfL l ∧ (Lit.int .i64 s).wf = true ∧ n ≤ 256) := Lib.hid (fun e => ⟨rt_wf (right_iff.1 e), rt_wfs (right_iff.1 e), by rw [← HLL.out]; exact (right_iff.1 e).n256⟩)
  obtain ⟨r, hr⟩ : ∃ r, r = rightL ⟨M, s, l⟩ := ⟨_, rfl⟩
  rw [← hr] at HQ HOK HRT
  clear hr
  have kK := HST.out.hk.c
  go_wp2_with fail
  refine HQ.out.mono ?_
  rintro e w3 ⟨rfl, hb⟩
  have HS3 := Lib.hid (HST.out.below hb)
  clear hb kK HST HQ
  cases r with
  | false =>
    have HN := Lib.hid (HNO.out (by rw [HOK.out]; rfl))
    clear HNO HOLD HFULL HNEW HOK HRT
    have kK := HS3.out.hk.c
    have fK := HS3.out.hk.f
    have lK := HS3.out.hk.lt
    have kT := HS3.out.ht.c
    have fT := HS3.out.ht.f
    have lT := HS3.out.ht.lt
    go_wp2_with fail
    exact bodyPost_ret (v := .tuple #[.agg #[.slice p m c, .int .i64 s, .slice q n d], .int .i64 1]) (by simp [results, Try.results7, go_sem, *]) rfl (HS3.out.out HSS.out 1 HN.out.1 HN.out.2)
  | true =>
    have HQ := Lib.hid (hasWord_any _ _ _ a w3 HS3.out.lo)
    have HHW : Hid (hasW ⟨M, s, l⟩ a = true → ∃ k : Nat, a = k ∧ k < m) := Lib.hid (fun e => by
      have := of_decide_eq_true (p := 0 ≤ a ∧ a < (M.length : Int)) e
      rw [HML.out] at this
      exact ⟨a.toNat, by omega, by omega⟩)
    obtain ⟨r, hr⟩ : ∃ r, r = hasW ⟨M, s, l⟩ a := ⟨_, rfl⟩
    rw [← hr] at HQ HOK HHW
    clear hr
    have kK := HS3.out.hk.c
    go_wp2_with fail
    refine HQ.out.mono ?_
    rintro e w4 ⟨rfl, hb⟩
    have HS4 := Lib.hid (HS3.out.below hb)
    clear hb kK HS3 HQ
    cases r with
    | false =>
      have HN := Lib.hid (HNO.out (by rw [HOK.out]; rfl))
      clear HNO HOLD HFULL HNEW HOK HRT HHW
      have kK := HS4.out.hk.c
      have fK := HS4.out.hk.f
      have lK := HS4.out.hk.lt
      have kT := HS4.out.ht.c
      have fT := HS4.out.ht.f
      have lT := HS4.out.ht.lt
      go_wp2_with fail
      exact bodyPost_ret (v := .tuple #[.agg #[.slice p m c, .int .i64 s, .slice q n d], .int .i64 1]) (by simp [results, Try.results7, go_sem, *]) rfl (HS4.out.out HSS.out 1 HN.out.1 HN.out.2)
    | true =>
      obtain ⟨k, rfl, hkm⟩ := HHW.out (by first | rfl | trivial)
      have hok : okW ⟨M, s, l⟩ (k : Int) = true := HOK.out.trans rfl
      have HO1 := Lib.hid (HOLD.out hok)
      have HO2 := Lib.hid (HFULL.out hok)
      have HO3 := Lib.hid (HNEW.out hok)
      rw [Int.toNat_natCast] at HO1 HO3
      have HWF := HRT.out (by first | rfl | trivial)
      have hn256 := HWF.2.2
      have hwk : (Lit.int .i64 (k : Int)).wf = true := WalkArith.wf_i64 (by omega)
      have HKEY : Hid (keyOf Try.prog 58 (.agg #[.int .i64 s, .int .i64 (k : Int)]) = some (keyU s k)) := Lib.hid (key_lit HWF.2.1 hwk)
      have HHAS : Hid (Maps.has (beM l n) (keyU s k) = hasU l s k) := Lib.hid (hasU_at HWF.1 HLL.out HWF.2.1 hwk)
      have HBE : Hid (∀ W, Below w4.heap.size w4 W → Calls Try.prog 23 #[.slice q n d] W fun e w' => e = .returned (.map (some W.heap.size)) ∧ w'.ownsMap Try.prog 58 rawE W.heap.size n (beM l n) ∧ Below W.heap.size W w') := Lib.hid (fun W hW => before_any q n d l W HLL.out (HS4.out.ho.lc.ls.below hW) hn HWF.1)
      obtain ⟨hu, hhu⟩ : ∃ z, z = hasU l s (k : Int) := ⟨_, rfl⟩
      rw [← hhu] at HO1 HO2 HO3 HHAS
      obtain ⟨g, rfl, -, -, -, -⟩ := own_go HS4.out.ho.mo (by omega)
      have hkI : (k : Int) < (m : Int) := by omega
      clear HNO HOLD HFULL HNEW HOK HRT HHW hok hwk hhu HWF
      have HS : Hid (∀ V, Below w4.heap.size w4 V → ∀ j, V.cell? ⟨bo, j, none⟩ = (#[.slice (some ⟨g, 0, none⟩) m c, .int .i64 s, .slice q n d] : Array Value)[j]?) := Lib.hid (fun V hV => (HS4.out.below hV).hk.c)
      have kK := HS4.out.hk.c
      go_upto_region 4 with fail
      clear kK
      refine region_plan (fun V : World => ∀ j, V.cell? ⟨bo, j, none⟩ = (#[.slice (some ⟨g, 0, none⟩) m c, .int .i64 s, .slice q n d] : Array Value)[j]?) 12 [(0, true), (1, true), (3, true), (4, true), (5, true), (6, true), (2, false), (7, false), (8, true), (9, true), (10, true), (11, true)] (by kernel_rfl) (by kernel_rfl) (HS.out _ (Below.refl _ _).drew) ?_
      iterate 6
        refine plan_read (v := ?_) rfl (by rfl) ?_ ?_
        rotate_left
        · intro w' hS
          try dsimp only at hS
          go_simp
          try with_reducible rfl
        try simp only [Act.put, List.setIfInBounds_toArray, List.set_cons_zero, List.set_cons_succ, List.getElem_toArray, List.getElem_cons_zero, List.getElem_cons_succ]
      refine plan_call (F := 23) (args := ?_) rfl (by rfl) ?_ ?_
      rotate_left
      · go_simp
        rfl
      refine (HBE.out w4.drew (Below.refl _ _).drew).mono ?_
      rintro e w5 ⟨rfl, ho, hb⟩
      have HB5 : Hid (Below w4.heap.size w4 w5) := Lib.hid ((Below.refl _ _).drew.trans hb)
      have HM : Hid (w5.ownsMap Try.prog 58 rawE w4.heap.size n (beM l n)) := Lib.hid ho
      clear hb ho
      refine ⟨_, rfl, HS.out _ HB5.out, ?_⟩
      try simp only [Act.put, List.setIfInBounds_toArray, List.set_cons_zero, List.set_cons_succ, List.getElem_toArray, List.getElem_cons_zero, List.getElem_cons_succ]
      obtain ⟨v0, ps, hrun, hv⟩ := HM.out.look_ok law58 Try.underlying56 (zero26 w5) (show rawE (.int .u32 0) = some (.lit (.int .u32 0), []) from rfl) HKEY.out
      obtain ⟨a0, rfl⟩ := rawE_inv hv
      rw [HHAS.out] at hrun
      refine plan_make (v := .tuple #[.int .u32 a0, .bool hu]) (w1 := w5) rfl (by rfl) ?_ (HS.out _ HB5.out) ?_
      · go_simp
      try simp only [Act.put, List.setIfInBounds_toArray, List.set_cons_zero, List.set_cons_succ, List.getElem_toArray, List.getElem_cons_zero, List.getElem_cons_succ]
      clear hrun hv
      iterate 4
        refine plan_read (v := ?_) rfl (by rfl) ?_ ?_
        rotate_left
        · intro w' hS
          try dsimp only at hS
          go_simp
          try with_reducible rfl
        try simp only [Act.put, List.setIfInBounds_toArray, List.set_cons_zero, List.set_cons_succ, List.getElem_toArray, List.getElem_cons_zero, List.getElem_cons_succ]
      refine plan_nil ?_
      simp only [List.drop_succ_cons, List.drop_zero]
      have HS5 := Lib.hid (HS4.out.below HB5.out)
      clear HS HB5 HM HBE HS4 HHAS
      cases hu with
      | true =>
        have HN := Lib.hid (HO1.out (by first | rfl | trivial))
        clear HO1 HO2 HO3
        have HS9 := Lib.hid (HS5.out.mem k x)
        have cM : w5.cell? ⟨g, k, none⟩ = some (.int .u32 (M.getD k 0)) := by rw [HS5.out.ho.mo.cellAt k (by omega), wdC_at M k (by rw [HML.out]; exact hkm)]
        have fM : w5.frozen? ⟨g, k, none⟩ = false := HS5.out.ho.mo.frozenAt k
        have kK := HS5.out.hk.c
        go_upto_region 10 with fail
        obtain ⟨w9, hw9⟩ : ∃ z, z = w5.setCell ⟨g, k, none⟩ (.int .u32 x) := ⟨_, rfl⟩
        rw [← hw9] at HS9 ⊢
        clear hw9 kK cM fM HS5
        have kK := HS9.out.hk.c
        have fK := HS9.out.hk.f
        have lK := HS9.out.hk.lt
        have kT := HS9.out.ht.c
        have fT := HS9.out.ht.f
        have lT := HS9.out.ht.lt
        go_wp2_with fail
        exact bodyPost_ret (v := .tuple #[.agg #[.slice (some ⟨g, 0, none⟩) m c, .int .i64 s, .slice q n d], .int .i64 0]) (by simp [results, Try.results7, go_sem, *]) rfl (HS9.out.out HSS.out 0 HN.out.1 HN.out.2)
      | false =>
        have kK := HS5.out.hk.c
        by_cases h256 : n = 256
        · have d1 : ((n : Int) == 256) = true := by simp [h256]
          have HN := Lib.hid (HO2.out (by first | rfl | trivial) h256)
          clear HO1 HO2 HO3 h256 kK
          have kK := HS5.out.hk.c
          have fK := HS5.out.hk.f
          have lK := HS5.out.hk.lt
          have kT := HS5.out.ht.c
          have fT := HS5.out.ht.f
          have lT := HS5.out.ht.lt
          go_wp2_with fail
          exact bodyPost_ret (v := .tuple #[.agg #[.slice (some ⟨g, 0, none⟩) m c, .int .i64 s, .slice q n d], .int .i64 6]) (by simp [results, Try.results7, go_sem, *]) rfl (HS5.out.out HSS.out 6 HN.out.1 HN.out.2)
        · have d1 : ((n : Int) == 256) = false := by simp; omega
          have HN := Lib.hid (HO3.out (by first | rfl | trivial) h256)
          clear HO1 HO2 HO3
          obtain ⟨i0, hi, hz0, hz1, hz2⟩ := info_parts info51
          have HI := Lib.hid (And.intro hi (And.intro hz0 (And.intro hz1 hz2)))
          clear hi hz0 hz1 hz2
          have HH6 := Lib.hid h256
          clear h256
          have HS : Hid (∀ V, Below w5.heap.size w5 V → (∀ j, V.cell? ⟨bo, j, none⟩ = (#[.slice (some ⟨g, 0, none⟩) m c, .int .i64 s, .slice q n d] : Array Value)[j]?) ∧ V.cell? ⟨g, k, none⟩ = some (.int .u32 (M.getD k 0))) := Lib.hid (fun V hV => ⟨(HS5.out.below hV).hk.c, by rw [(HS5.out.below hV).ho.mo.cellAt k (by omega), wdC_at M k (by rw [HML.out]; exact hkm)]⟩)
          go_upto_region 8 with fail
          clear kK
          refine region_plan (fun V : World => (∀ j, V.cell? ⟨bo, j, none⟩ = (#[.slice (some ⟨g, 0, none⟩) m c, .int .i64 s, .slice q n d] : Array Value)[j]?) ∧ V.cell? ⟨g, k, none⟩ = some (.int .u32 (M.getD k 0))) 12 [(0, true), (1, true), (2, true), (3, true), (4, true), (5, true), (6, true), (7, true), (8, true), (9, true), (10, true), (11, false)] (by kernel_rfl) (by kernel_rfl) (HS.out _ (Below.refl _ _).drew) ?_
          obtain ⟨y, hy⟩ : ∃ y, y = M.getD k 0 := ⟨_, rfl⟩
          rw [← hy] at HN HS
          simp only [← hy]
          iterate 11
            refine plan_read (v := ?_) rfl (by rfl) ?_ ?_
            rotate_left
            · intro w' hS
              try dsimp only at hS
              go_simp
              try with_reducible rfl
            try simp only [Act.put, List.setIfInBounds_toArray, List.set_cons_zero, List.set_cons_succ, List.getElem_toArray, List.getElem_cons_zero, List.getElem_cons_succ]
          obtain ⟨w6, hw6⟩ : ∃ z, z = w5.drew.alloc (.cells #[.int .i64 s, .int .i64 (k : Int), .int .u32 y] 51) := ⟨_, rfl⟩
          have HB6 : Hid (Below w5.heap.size w5 w6) := Lib.hid (by rw [hw6]; exact (Below.refl _ _).drew.alloc (Nat.le_refl _) _)
          have HNW : Hid (Blk w6 w5.heap.size (unC [⟨s, k, y⟩]).toArray) := Lib.hid (by rw [hw6]; exact Blk.new w5.drew _ _)
          refine plan_make (v := .slice (some ⟨w5.heap.size, 0, none⟩) 1 1) (w1 := w6) rfl (by rfl) (by rw [hw6]; go_simp) (HS.out _ HB6.out) ?_
          try simp only [Act.put, List.setIfInBounds_toArray, List.set_cons_zero, List.set_cons_succ, List.getElem_toArray, List.getElem_cons_zero, List.getElem_cons_succ]
          refine plan_nil ?_
          simp only [List.drop_succ_cons, List.drop_zero]
          have HS6 := Lib.hid (HS5.out.below HB6.out)
          clear hw6
          have HLE : Hid (n + 1 ≤ 10000) := Lib.hid (by have := HH6.out; omega)
          go_upto_region 9 with (first | (at_builtin; refine wpList_append_sl rfl _ _ 23 rfl (w.heap.size + 2) 51 i0 _ 3 24 Try.underlying23 HI.out.1 HI.out.2.1 HI.out.2.2.1 HI.out.2.2.2 rfl (by decide) _ n (unC l) rfl HS6.out.ho.lo (some ⟨w5.heap.size, 0, none⟩) 1 1 (unC [⟨s, (k : Int), y⟩]) rfl rfl (blk_sl HNW.out) (unC_oneCell _) (by unfold maxLen; omega) (by omega) (by have := HS6.out.hk.lt; have := HS6.out.ge; omega) ?_; intro v' w7 g1 g2 g3; obtain ⟨q', d', rfl, -⟩ := own_cap g1; have HS8 := Lib.hid (HS6.out.list (l' := l ++ [⟨s, (k : Int), y⟩]) HLE.out (by rw [unC_app]; exact g1) g2 (by rcases g3 with g3 | g3; exact .inl g3; exact .inr (fun g' e => by rw [g3] at e; injection e with e; omega))); have HK7 := Lib.hid (HS6.out.hk.grown g2 (fun e => HS6.out.nq bo e rfl)); clear g1 g2 g3 HS6 HS5 HNW; have kK := HK7.out.c; have fK := HK7.out.f; have lK := HK7.out.lt))
          obtain ⟨w8, hw8⟩ : ∃ z, z = w7.setCell ⟨bo, 2, none⟩ (.slice q' (n + 1) d') := ⟨_, rfl⟩
          rw [← hw8] at HS8 ⊢
          clear hw8 kK fK lK HK7
          obtain ⟨n2, hn2⟩ : ∃ z, z = n + 1 := ⟨_, rfl⟩
          rw [← hn2] at HS8 ⊢
          clear hn2
          have HS9 := Lib.hid (HS8.out.mem k x)
          have cM : w8.cell? ⟨g, k, none⟩ = some (.int .u32 (M.getD k 0)) := by rw [HS8.out.ho.mo.cellAt k (by omega), wdC_at M k (by rw [HML.out]; exact hkm)]
          have fM : w8.frozen? ⟨g, k, none⟩ = false := HS8.out.ho.mo.frozenAt k
          have kK := HS8.out.hk.c
          go_upto_region 10 with fail
          obtain ⟨w9, hw9⟩ : ∃ z, z = w8.setCell ⟨g, k, none⟩ (.int .u32 x) := ⟨_, rfl⟩
          rw [← hw9] at HS9 ⊢
          clear hw9 kK cM fM HS8
          have kK := HS9.out.hk.c
          have fK := HS9.out.hk.f
          have lK := HS9.out.hk.lt
          have kT := HS9.out.ht.c
          have fT := HS9.out.ht.f
          have lT := HS9.out.ht.lt
          go_wp2_with fail
          exact bodyPost_ret (v := .tuple #[.agg #[.slice (some ⟨g, 0, none⟩) m c, .int .i64 s, .slice q' n2 d'], .int .i64 0]) (by simp [results, Try.results7, go_sem, *]) rfl (HS9.out.out HSS.out 0 HN.out.1 HN.out.2)
end Go.Proofs.Ytbgllkjhgjoodaa
