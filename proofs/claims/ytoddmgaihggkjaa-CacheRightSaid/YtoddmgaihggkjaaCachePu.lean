/- A line is put; no condition but that the cache reads. -/
import Derived.Test.YtoddmgaihggkjaaCachePn
namespace Go.Proofs.Ytoddmgaihggkjaa
set_option linter.unusedVariables false
open Go.ChangeShapes Go.WideShapes Go.ChangeAt Go.RowKit Go.Maps Go.Shelf

set_option maxHeartbeats 16000000 in
set_option maxRecDepth 100000 in
theorem put_any (S : Nat → Prop) (v : Value) (C : Ch) (a s : Int) (x : Nat) (w : World) (h : Co S w v C) (hS : ∀ R, S R → R < w.heap.size) (hx : x < 4294967296) : Calls Try.prog 18 #[v, .int .i64 a, .int .i64 s, .int .u32 x] w fun e w' => OutP S w w' e (putC C a s x) (putO C a s) (putE C a s) := by
  obtain ⟨p, n, c, xs, rfl, hc, -⟩ := h
  have hn := hc.n100
  have HCP := Lib.hid (fun w' hb => copied_any p n c xs C w' (hc.below (w' := w') hb))
  obtain ⟨C', hC'⟩ : ∃ z, z = putC C a s x := ⟨_, rfl⟩
  obtain ⟨X, hX⟩ : ∃ z, z = putO C a s := ⟨_, rfl⟩
  obtain ⟨E, hE⟩ : ∃ z, z = putE C a s := ⟨_, rfl⟩
  rw [← hC', ← hX, ← hE]
  have HBAD : Hid (okP C a s = false → C' = C ∧ X = zL ∧ E = 1) := Lib.hid (fun e => by rw [hC', hX, hE]; exact put_bad e)
  have HOLD : Hid (okP C a s = true → hasC C a = true → C' = withC C a (C.clock + 1) ((setC C a).set (atC C a).toNat ⟨a, s, x, C.clock + 1⟩) ∧ X = zL ∧ E = 0) := Lib.hid (fun e e2 => by rw [hC', hX, hE]; exact put_old e e2)
  have HNEW : Hid (okP C a s = true → hasC C a = false → C' = withC C a (C.clock + 1) (roomL (setC C a) C.ways ++ [⟨a, s, x, C.clock + 1⟩]) ∧ X = roomO (setC C a) C.ways ∧ E = 0) := Lib.hid (fun e e2 => by rw [hC', hX, hE]; exact put_new e e2)
  clear hC' hX hE hc
  have HSS := Lib.hid hS
  clear hS
  go_enter Try.func18, Try.ntmps18
  go_wp2_with fail
  obtain ⟨w0, hw0⟩ : ∃ w0, w0 = ((w.alloc (.cells #[.int .i64 C.sets, .int .i64 C.ways, .int .i64 C.clock, .slice p n c] 24)).alloc (.cells #[.int .i64 0, .int .i64 0, .int .i64 0, .slice none 0 0] 24)).alloc (.cells #[.int .i64 0, .int .i64 0, .int .u32 0, .int .i64 0] 30) := ⟨_, rfl⟩
  have HS0 : Hid (w0.heap.size = w.heap.size + 3) := Lib.hid (by rw [hw0]; simp)
  have HB0 : Hid (Below w.heap.size w w0) := Lib.hid (by rw [hw0]; exact (((Below.refl _ _).alloc (Nat.le_refl _) _).alloc (by simp) _).alloc (by simp; omega) _)
  have HRC0 : Hid (Blk w0 (w.heap.size + 1) #[.int .i64 0, .int .i64 0, .int .i64 0, .slice none 0 0]) := Lib.hid (by
    have := Blk.new (w.alloc (.cells #[.int .i64 C.sets, .int .i64 C.ways, .int .i64 C.clock, .slice p n c] 24)) #[.int .i64 0, .int .i64 0, .int .i64 0, .slice none 0 0] 24
    rw [World.size_alloc] at this
    rw [hw0]; exact this.alloc _)
  have HRL0 : Hid (Blk w0 (w.heap.size + 1 + 1) #[.int .i64 0, .int .i64 0, .int .u32 0, .int .i64 0]) := Lib.hid (by
    have := Blk.new ((w.alloc (.cells #[.int .i64 C.sets, .int .i64 C.ways, .int .i64 C.clock, .slice p n c] 24)).alloc (.cells #[.int .i64 0, .int .i64 0, .int .i64 0, .slice none 0 0] 24)) #[.int .i64 0, .int .i64 0, .int .u32 0, .int .i64 0] 30
    rw [World.size_alloc, World.size_alloc] at this
    rw [hw0]; exact this)
  rw [← hw0]
  clear hw0
  refine (HCP.out _ HB0.out).mono ?_
  rintro e w1 ⟨q, d, ys, rfl, ho, hb1⟩
  have HB1 : Hid (Below w.heap.size w w1) := Lib.hid (HB0.out.trans (hb1.mono HB0.out.size))
  have HRC1 := Lib.hid (HRC0.out.below hb1)
  have HRL1 := Lib.hid (HRL0.out.below hb1)
  have HO : Hid (OwnC (w.heap.size + 3) w1 q n d ys C) := Lib.hid (by rw [HS0.out] at ho; exact ho)
  clear hb1 ho HB0 HCP HRC0 HRL0 HS0
  obtain ⟨O, hO⟩ : ∃ O, O = w1.heap.size := ⟨_, rfl⟩
  obtain ⟨w2, hw2⟩ : ∃ w2, w2 = w1.alloc (.cells #[.int .i64 C.sets, .int .i64 C.ways, .int .i64 C.clock, .slice q n d] 24) := ⟨_, rfl⟩
  have HKO : Hid (Blk w2 O #[.int .i64 C.sets, .int .i64 C.ways, .int .i64 C.clock, .slice q n d]) := Lib.hid (by rw [hw2, hO]; exact Blk.new _ _ _)
  have HA1 : Hid (Below w1.heap.size w1 w2) := Lib.hid (by rw [hw2]; exact (Below.refl _ _).alloc (Nat.le_refl _) _)
  have HO2 := Lib.hid (HO.out.below HA1.out)
  have HRC2 := Lib.hid (HRC1.out.below HA1.out)
  have HRL2 := Lib.hid (HRL1.out.below HA1.out)
  have HB2 : Hid (Below w.heap.size w w2) := Lib.hid (HB1.out.trans (HA1.out.mono HB1.out.size))
  have HNE : Hid (w.heap.size + 3 ≤ O) := Lib.hid (by have := HRL1.out.lt; omega)
  have HOL : Hid ((∀ g, (Value.slice q n d).ownBlock = some g → g ≠ O) ∧ ∀ k, k < n → ∀ g, (ys.getD k vz).ownBlock = some g → g ≠ O) := Lib.hid (by
    obtain ⟨h1, h2⟩ := HO.out.lt
    exact ⟨fun g e => by have := h1 g e; omega, fun k hk g e => by have := h2 k hk g e; omega⟩)
  have HW2 := Lib.hid hw2
  have HOE := Lib.hid hO
  clear hO hw2 HO HRC1 HRL1 HB1 HA1
  go_wp2_with fail
  rw [← HW2.out, ← HOE.out]
  clear HW2 HOE
  refine (find_any (fun _ => False) _ C a w2 (HO2.out.co (fun R hR => hR.elim))).mono ?_
  rintro e w3 ⟨rfl, hb3⟩
  have HK3 := Lib.hid (HKO.out.below hb3)
  have HO3 := Lib.hid (HO2.out.below hb3)
  have HRC3 := Lib.hid (HRC2.out.below hb3)
  have HRL3 := Lib.hid (HRL2.out.below hb3)
  have HB3 : Hid (Below w.heap.size w w3) := Lib.hid (HB2.out.trans (hb3.mono HB2.out.size))
  clear hb3 HKO HO2 HRC2 HRL2 HB2
  have cK := HK3.out.c
  have HST := Lib.hid (fun r (hr : stB s = r) W => isState_any s r W hr)
  by_cases hok : okP C a s = true
  · obtain ⟨hmay, hclk, hst⟩ := okP_iff.1 hok
    have e1 : (dropE C a == 1) = false := by
      have : dropE C a ≠ 1 := fun e => by rw [drop_one.1 e] at hmay; cases hmay
      simpa using this
    have e2 : (C.clock == 1099511627776) = false := by
      have : C.clock ≠ 1099511627776 := hclk
      simpa using this
    go_wp2_with fail
    refine (HST.out _ hst _).mono ?_
    rintro e w' ⟨rfl, rfl⟩
    clear HBAD HST e1 e2
    have hrt := (mayC_iff.1 hmay).1
    have hk0 := hrt.k0
    have hkt : C.clock < 1099511627776 := by have := hrt.kt; have : C.clock ≠ 1099511627776 := hclk; unfold clockTop at *; omega
    have hw : wrap64 (C.clock + 1) = C.clock + 1 := by unfold wrap64; omega
    have lK := HK3.out.lt
    have fK := HK3.out.f
    go_upto_region 6 with fail
    obtain ⟨A, W, K, hA, hW, hK⟩ : ∃ A W K, A = C.sets ∧ W = C.ways ∧ K = C.clock := ⟨_, _, _, rfl, rfl, rfl⟩
    have hW1 : 1 ≤ W := by rw [hW]; exact hrt.m1
    rw [← hA, ← hW, ← hK] at HK3 ⊢
    rw [← hK] at HOLD HNEW hk0 hkt hw
    rw [← hW] at HNEW
    have HA := Lib.hid hA
    have HWW := Lib.hid hW
    have HKK := Lib.hid hK
    have HRT := Lib.hid hrt
    clear hA hW hK hrt hst hclk cK lK fK
    obtain ⟨w4, hw4⟩ : ∃ w4, w4 = w3.setCell ⟨O, 2, none⟩ (.int .i64 (K + 1)) := ⟨_, rfl⟩
    have HK4 : Hid (Blk w4 O #[.int .i64 A, .int .i64 W, .int .i64 (K + 1), .slice q n d]) := Lib.hid (by rw [hw4]; exact HK3.out.set (n := 2) _ (by simp))
    have HO4 : Hid (OwnC (w.heap.size + 3) w4 q n d ys C) := Lib.hid (by rw [hw4]; exact HO3.out.setNot HOL.out.1 HOL.out.2 2 _)
    have HRC4 : Hid (Blk w4 (w.heap.size + 1) #[.int .i64 0, .int .i64 0, .int .i64 0, .slice none 0 0]) := Lib.hid (by rw [hw4]; exact HRC3.out.other _ (by have := HNE.out; omega))
    have HRL4 : Hid (Blk w4 (w.heap.size + 1 + 1) #[.int .i64 0, .int .i64 0, .int .u32 0, .int .i64 0]) := Lib.hid (by rw [hw4]; exact HRL3.out.other _ (by have := HNE.out; omega))
    have HB4 : Hid (Below w.heap.size w w4) := Lib.hid (by rw [hw4]; exact HB3.out.setCell (p := ⟨O, 2, none⟩) (by show w.heap.size ≤ O; have := HNE.out; omega) _)
    rw [← hw4]
    clear hw4 HK3 HO3 HRC3 HRL3 HB3
    have cK := HK4.out.c
    obtain ⟨T, hT⟩ : ∃ T, T = w4.heap.size := ⟨_, rfl⟩
    obtain ⟨w5, hw5⟩ : ∃ w5, w5 = w4.alloc (.cells #[.int .i64 a, .int .i64 s, .int .u32 x, .int .i64 (K + 1)] 30) := ⟨_, rfl⟩
    have HA5 : Hid (Below w4.heap.size w4 w5) := Lib.hid (by rw [hw5]; exact (Below.refl _ _).alloc (Nat.le_refl _) _)
    have HT5 : Hid (Blk w5 T #[.int .i64 a, .int .i64 s, .int .u32 x, .int .i64 (K + 1)]) := Lib.hid (by rw [hw5, hT]; exact Blk.new _ _ _)
    have HK5 := Lib.hid (HK4.out.below HA5.out)
    have HO5 := Lib.hid (HO4.out.below HA5.out)
    have HRC5 := Lib.hid (HRC4.out.below HA5.out)
    have HRL5 := Lib.hid (HRL4.out.below HA5.out)
    have HB5 : Hid (Below w.heap.size w w5) := Lib.hid (HB4.out.trans (HA5.out.mono HB4.out.size))
    have HTN : Hid (O < T) := Lib.hid (by rw [hT]; exact HK4.out.lt)
    have HTL : Hid ((∀ g, (Value.slice q n d).ownBlock = some g → g ≠ T) ∧ ∀ k, k < n → ∀ g, (ys.getD k vz).ownBlock = some g → g ≠ T) := Lib.hid (by
      obtain ⟨h1, h2⟩ := HO4.out.lt
      exact ⟨fun g e => by have := h1 g e; omega, fun k hk g e => by have := h2 k hk g e; omega⟩)
    have HW5 := Lib.hid hw5
    have HTE := Lib.hid hT
    clear hw5 hT HK4 HO4 HRC4 HRL4 HB4 HA5
    go_upto_region 7 with fail
    rw [← HW5.out, ← HTE.out]
    clear HW5 HTE cK hw
    cases hh : hasC C a with
    | true =>
      obtain ⟨e1, rfl, rfl⟩ := HOLD.out hok hh
      obtain ⟨f1, f2, f3, -⟩ := look_has hh
      obtain ⟨-, hat0⟩ := has_iff.1 hh
      obtain ⟨j, hj, hjl, hl⟩ := atC_lt2 hat0
      have hkn : setNo C a < n := by have := HRT.out.set_lt a; have := HO5.out.zn; omega
      obtain ⟨g, q2, cr, rfl, hyj, hg0, hg1, hcr, hnd, hcg, hfg, hfr⟩ := HO5.out.rowAt hkn
      rw [setC_eq] at hyj hcr hcg hfr
      obtain ⟨gr, rfl, -, -, hgr0, hgr1⟩ := own_go hfr (by omega)
      rw [f1, f2, f3, hj]
      rw [hj] at e1
      have HE1 := Lib.hid e1
      obtain ⟨l, hle⟩ : ∃ l, l = setC C a := ⟨_, rfl⟩
      obtain ⟨k, hke⟩ : ∃ k, k = setNo C a := ⟨_, rfl⟩
      rw [← hle] at hyj hcr hcg hfr hjl HE1
      rw [← hke] at hyj hcg hkn hfg ⊢
      have hx100 : l.length ≤ 100 := by rw [hle]; exact HO5.out.l100 _
      have HFR := Lib.hid hfr
      have HYJ := Lib.hid hyj
      have HKE := Lib.hid hke
      obtain ⟨y, hy⟩ : ∃ y, y = l.length := ⟨_, rfl⟩
      rw [← hy] at HFR HYJ hcr hcg hjl hx100
      have HX := Lib.hid hy
      have HG0 := Lib.hid hg0
      have HGR0 := Lib.hid hgr0
      clear hy hle hke hyj hfr e1 f1 f2 f3 hat0 hj hl hh HOLD HNEW hg0 hgr0 hmay hok
      have HGO : Hid (gr ≠ O ∧ g ≠ O ∧ gr ≠ T ∧ g ≠ T) := Lib.hid ⟨HOL.out.2 k hkn gr (by rw [HYJ.out]; rfl), HOL.out.1 g rfl, HTL.out.2 k hkn gr (by rw [HYJ.out]; rfl), HTL.out.1 g rfl⟩
      have hz : ∀ i, i < 4 → w5.cell? ⟨gr, j * 4 + i, none⟩ = (lnR (l.getD j zL))[i]? := fun i hi => by
        rw [HFR.out.cellAt (j * 4 + i) (by omega), lnC_at l j i (by rw [← HX.out]; exact hjl) hi]
      have z0 : w5.cell? ⟨gr, j * 4, none⟩ = some (.int .i64 (l.getD j zL).addr) := hz 0 (by decide)
      have z1 : w5.cell? ⟨gr, j * 4 + 1, none⟩ = some (.int .i64 (l.getD j zL).state) := hz 1 (by decide)
      have z2 : w5.cell? ⟨gr, j * 4 + 2, none⟩ = some (.int .u32 (l.getD j zL).val) := hz 2 (by decide)
      have z3 : w5.cell? ⟨gr, j * 4 + 3, none⟩ = some (.int .i64 (l.getD j zL).used) := hz 3 (by decide)
      have zf : ∀ i, w5.frozen? ⟨gr, i, none⟩ = false := fun i => HFR.out.frozenAt i
      clear hz
      have cK := HK5.out.c
      have cT := HT5.out.c
      have hkI : (k : Int) < (n : Int) := by omega
      have hjI : (j : Int) < (y : Int) := by omega
      go_upto_region 8 with fail
      refine region_plan (fun w' : World => w' = w5.drew) 7 [(0, true), (1, true), (2, true), (3, true), (4, true), (5, true), (6, true)] (by kernel_rfl) (by kernel_rfl) rfl ?_
      iterate 7
        refine plan_read (v := ?_) rfl (by rfl) ?_ ?_
        rotate_left
        · intro w' hS
          try dsimp only at hS
          go_simp
          try with_reducible rfl
        try simp only [Act.put, List.setIfInBounds_toArray, List.set_cons_zero, List.set_cons_succ, List.getElem_toArray, List.getElem_cons_zero, List.getElem_cons_succ]
      refine plan_nil ?_
      simp only [List.drop_succ_cons, List.drop_zero]
      go_upto_region 9 with fail
      obtain ⟨w6, hw6⟩ : ∃ w6, w6 = ((((w5.setCell ⟨gr, j * 4, none⟩ (.int .i64 a)).setCell ⟨gr, j * 4 + 1, none⟩ (.int .i64 s)).setCell ⟨gr, j * 4 + 2, none⟩ (.int .u32 x)).setCell ⟨gr, j * 4 + 3, none⟩ (.int .i64 (K + 1))).drew := ⟨_, rfl⟩
      have HS1 := Lib.hid (HFR.out.stored (j * 4) (.int .i64 a))
      have HS2 := Lib.hid (HS1.out.1.stored (j * 4 + 1) (.int .i64 s))
      have HS3 := Lib.hid (HS2.out.1.stored (j * 4 + 2) (.int .u32 x))
      have HS4 := Lib.hid (HS3.out.1.stored (j * 4 + 3) (.int .i64 (K + 1)))
      have HGW : Hid (w5.grownBy w6 (some gr)) := Lib.hid (by
        have h1 := grown_trans (grown_trans (grown_trans HS1.out.2 HS2.out.2) HS3.out.2) HS4.out.2
        rw [hw6]
        exact ⟨h1.os, h1.tape, h1.output, h1.size, h1.block⟩)
      have HK6 := Lib.hid (HK5.out.grown HGW.out (fun e => HGO.out.1 (by injection e)))
      have HRC6 := Lib.hid (HRC5.out.grown HGW.out (fun e => by injection e with e; have := HGR0.out; omega))
      have HRL6 := Lib.hid (HRL5.out.grown HGW.out (fun e => by injection e with e; have := HGR0.out; omega))
      have HB6 : Hid (Below w.heap.size w w6) := Lib.hid (HB5.out.grown HGW.out HB5.out.size (fun b e => by injection e with e; have := HGR0.out; omega))
      have HO6 : Hid (OwnC (w.heap.size + 3) w6 (some ⟨g, 0, none⟩) n d ys C') := Lib.hid (by
        rw [HE1.out]
        unfold withC
        rw [← HKE.out]
        simp only [Int.toNat_natCast]
        refine HO5.out.writeRow hkn HYJ.out HGW.out ?_ (by rw [List.length_set]; exact HX.out.symm) hx100 _ _ _
        have h1 := HS4.out.1
        have h2 := lnC_put l j (by rw [← HX.out]; exact hjl) ⟨a, s, x, K + 1⟩
        rw [h2, hw6]
        exact h1)
      have HCE : Hid (C'.sets = A ∧ C'.ways = W ∧ C'.clock = K + 1) := Lib.hid (by rw [HE1.out, HA.out, HWW.out]; exact ⟨rfl, rfl, rfl⟩)
      rw [← hw6]
      clear hw6 cK cT z0 z1 z2 z3 zf HS1 HS2 HS3 HS4 HGW HK5 HT5 HO5 HRC5 HRL5 HB5 HFR hcg hfg hgr1 hg1
      have cK := HK6.out.c
      have cRC := HRC6.out.c
      have fRC := HRC6.out.f
      have lRC := HRC6.out.lt
      have cRL := HRL6.out.c
      have fRL := HRL6.out.f
      have lRL := HRL6.out.lt
      go_wp2_with fail
      have hOUT := outP_of (x := zL) (E := 0) ((res8_own HO6.out (s := w.heap.size + 1) (t := w.heap.size + 1 + 1) (by omega) (by omega) (.int .i64 A) (.int .i64 W) (.int .i64 (K + 1)) (.slice (some ⟨g, 0, none⟩) n d) (.int .i64 0) (.int .i64 0) (.int .u32 0) (.int .i64 0)).mono (by omega)) HSS.out (res8_below HB6.out (by omega) (by omega) _ _ _ _ _ _ _ _)
      rw [HCE.out.1, HCE.out.2.1, HCE.out.2.2] at hOUT
      have HOUT := Lib.hid hOUT
      clear hOUT
      exact bodyPost_ret (v := .tuple #[.agg #[.int .i64 A, .int .i64 W, .int .i64 (K + 1), .slice (some ⟨g, 0, none⟩) n d], .agg #[.int .i64 0, .int .i64 0, .int .u32 0, .int .i64 0], .int .i64 0]) (by simp [results, Try.results18, go_sem, *]) rfl HOUT.out
    | false =>
      obtain ⟨e1, e2, rfl⟩ := HNEW.out hok hh
      have hdr := (drop_no hh).1
      have hdr' : (dropE C a == 0) = false := by simpa using hdr
      have hfs : findS C a = (setNo C a : Int) := by unfold findS; rw [hmay]; rfl
      have hkn : setNo C a < n := by have := HRT.out.set_lt a; have := HO5.out.zn; omega
      obtain ⟨g, q2, cr, rfl, hyj, hg0, hg1, hcr, hnd, hcg, hfg, hfr⟩ := HO5.out.rowAt hkn
      rw [setC_eq] at hyj hcr hcg hfr
      have HAP := Lib.hid (HRT.out.apart a)
      have HWF := Lib.hid (wf_of HRT.out a)
      have HE1 := Lib.hid e1
      have HE2 := Lib.hid e2
      obtain ⟨l, hle⟩ : ∃ l, l = setC C a := ⟨_, rfl⟩
      obtain ⟨k, hke⟩ : ∃ k, k = setNo C a := ⟨_, rfl⟩
      have hle' := hle
      rw [← hle] at hyj hcr hcg hfr HE1 HE2 HAP HWF
      rw [← hke] at hyj hcg hkn hfg hfs
      rw [hfs]
      have hx100 : l.length ≤ 100 := by rw [hle]; exact HO5.out.l100 _
      have HFR := Lib.hid hfr
      have HYJ := Lib.hid hyj
      have HKE := Lib.hid hke
      obtain ⟨y, hy⟩ : ∃ y, y = l.length := ⟨_, rfl⟩
      rw [← hy] at HFR HYJ hcr hcg hx100
      have HX := Lib.hid hy
      have HG0 := Lib.hid hg0
      have HRO : Hid (∀ V, Below w5.heap.size w5 V → Calls Try.prog 36 #[.slice q2 y cr, .int .i64 W] V fun e w' => e = .returned (.tuple #[.slice q2 (roomL l W).length cr, .agg #[.int .i64 X.addr, .int .i64 X.state, .int .u32 X.val, .int .i64 X.used]]) ∧
          w'.ownsRow (w.heap.size + 3) 30 4 (.slice q2 (roomL l W).length cr) (roomL l W).length (lnC (roomL l W)) ∧ V.grownBy w' (Value.slice q2 y cr).ownBlock) := Lib.hid (fun V hV => by
        rw [HE2.out]
        exact room_any (w.heap.size + 3) q2 y cr l W V (own_below HFR.out hV) HX.out.symm hx100 hW1 HAP.out HWF.out)
      clear hy hle hke hyj hfr e1 e2 hfs hh hdr HOLD HNEW hg0 hmay hok
      have hdE : ∃ f, f = dropE C a := ⟨_, rfl⟩
      obtain ⟨fe, hfe⟩ := hdE
      obtain ⟨fa, hfa⟩ : ∃ f, f = findA C a := ⟨_, rfl⟩
      rw [← hfe] at hdr' ⊢
      rw [← hfa]
      clear hfe hfa
      have cK := HK5.out.c
      have cT := HT5.out.c
      have HQB : Hid (∀ g', (Value.slice q2 y cr).ownBlock = some g' → g' ≠ O ∧ g' ≠ T ∧ g' ≠ g ∧ w.heap.size + 3 ≤ g' ∧ g' < w5.heap.size) := Lib.hid (fun g' e => by
        have e2 : (ys.getD k vz).ownBlock = some g' := by rw [HYJ.out]; exact e
        refine ⟨HOL.out.2 k hkn g' e2, HTL.out.2 k hkn g' e2, fun e3 => HO5.out.own.sep k (by rw [HO5.out.zn]; exact hkn) g' e2 (by rw [e3]; rfl), (HFR.out.lt g' e).1, (HFR.out.lt g' e).2⟩)
      have HGO : Hid (g ≠ O ∧ g ≠ T) := Lib.hid ⟨HOL.out.1 g rfl, HTL.out.1 g rfl⟩
      obtain ⟨row, hrow⟩ : ∃ row, row = (Value.slice q2 y cr).ownBlock := ⟨_, rfl⟩
      rw [← hrow] at HRO HQB
      have HROW := Lib.hid hrow
      have HS0 : Hid (∀ V, w5.grownBy V row → (∀ j, V.cell? ⟨O, j, none⟩ = (#[.int .i64 A, .int .i64 W, .int .i64 (K + 1), .slice (some ⟨g, 0, none⟩) n d] : Array Value)[j]?) ∧ V.cell? ⟨g, k, none⟩ = some (.slice q2 y cr)) := Lib.hid (fun V hV => by
        refine ⟨(HK5.out.grown hV (fun e => (HQB.out O e).1 rfl)).c, ?_⟩
        rw [World.cell?_of_block (hV.block g hg1 (fun e => (HQB.out g e.symm).2.2.1 rfl))]; exact hcg)
      have hkI : (k : Int) < (n : Int) := by omega
      clear hrow
      obtain ⟨lr, hlr⟩ : ∃ lr, lr = roomL l W := ⟨_, rfl⟩
      rw [← hlr] at HRO HE1
      have HLR : Hid (lr.length + 1 ≤ 100) := Lib.hid (by rw [hlr, hle']; exact room_len2 (by rw [HWW.out]; exact HRT.out.len_le a) (by rw [HWW.out]; exact HRT.out.m8) hW1)
      have HBQ2 : Hid (∀ m g', (Value.slice q2 m cr).ownBlock = some g' → row = some g') := Lib.hid (fun m g' e => by rw [HROW.out]; cases q2 <;> exact e)
      clear hlr HE2 hle'
      go_upto_region 10 with fail
      go_cut [16, 17] (fun s16 s17 wd => ∃ b, s17 = .pointer (some ⟨b, 0, none⟩) ∧ s16 = .slice q2 lr.length cr ∧ Gone (w.heap.size + 3) w5 wd b q2 cr lr X row)
      case first =>
        refine region_planT (fun V : World => (∀ j, V.cell? ⟨O, j, none⟩ = (#[.int .i64 A, .int .i64 W, .int .i64 (K + 1), .slice (some ⟨g, 0, none⟩) n d] : Array Value)[j]?) ∧ V.cell? ⟨g, k, none⟩ = some (.slice q2 y cr)) 13 (.read 0 (.read 1 (.read 2 (.read 3 (.read 4 (.read 5 (.read 6 (.two 7 11 (.read 8 (.read 9 (.read 10 (.one 11 (.read 12 .stop))))) (.one 7 (.read 8 (.read 9 (.read 10 (.read 12 .stop)))))))))))))
          (by kernel_rfl) (by kernel_rfl) (HS0.out _ (grown_below (Below.refl _ _).drew)) ?_
        iterate 7
          refine planT_read (v := ?_) rfl (by rfl) ?_ ?_
          rotate_left
          · intro w' hS
            try dsimp only at hS
            go_simp
            try with_reducible rfl
          try simp only [Act.put, List.setIfInBounds_toArray, List.set_cons_zero, List.set_cons_succ, List.getElem_toArray, List.getElem_cons_zero, List.getElem_cons_succ]
        refine planT_two ?_ ?_
        · have hcall := HRO.out w5.drew ((Below.refl _ _).drew)
          refine op_call (F := 36) (args := ?_) rfl (by rfl) ?_ ?_
          rotate_left
          · go_simp
            rfl
          refine (hcall).mono ?_
          rintro e w6 ⟨rfl, ho, hg⟩
          have HG6 : Hid (w5.grownBy w6 row) := Lib.hid (grown_trans (grown_below (Below.refl _ _).drew) hg)
          have HO6 := Lib.hid ho
          clear ho hg
          refine ⟨_, rfl, HS0.out _ HG6.out, ?_⟩
          try simp only [Act.put, List.setIfInBounds_toArray, List.set_cons_zero, List.set_cons_succ, List.getElem_toArray, List.getElem_cons_zero, List.getElem_cons_succ]
          iterate 3
            refine planT_read (v := ?_) rfl (by rfl) ?_ ?_
            rotate_left
            · intro w' hS
              try dsimp only at hS
              go_simp
              try with_reducible rfl
            try simp only [Act.put, List.setIfInBounds_toArray, List.set_cons_zero, List.set_cons_succ, List.getElem_toArray, List.getElem_cons_zero, List.getElem_cons_succ]
          refine planT_one ?_
          refine op_make (v := .pointer (some ⟨w6.heap.size, 0, none⟩)) (w1 := w6.alloc (.cells #[.int .i64 0, .int .i64 0, .int .u32 0, .int .i64 0] 30)) rfl (by rfl) (by go_simp) ⟨HS0.out _ (grown_trans HG6.out (World.grownBy_alloc _ _ _)), ?_⟩
          try simp only [Act.put, List.setIfInBounds_toArray, List.set_cons_zero, List.set_cons_succ, List.getElem_toArray, List.getElem_cons_zero, List.getElem_cons_succ]
          iterate 1
            refine planT_read (v := ?_) rfl (by rfl) ?_ ?_
            rotate_left
            · intro w' hS
              try dsimp only at hS
              go_simp
              try with_reducible rfl
            try simp only [Act.put, List.setIfInBounds_toArray, List.set_cons_zero, List.set_cons_succ, List.getElem_toArray, List.getElem_cons_zero, List.getElem_cons_succ]
          refine planT_stop ?_
          simp only [List.drop_succ_cons, List.drop_zero]
          have HFR6 := Lib.hid (Gone.first (X := X) HO6.out HG6.out)
          go_wp2_with fail
          go_meet
          case rel => exact ⟨_, rfl, rfl, HFR6.out⟩
        · have HA5 : Hid (Below w5.heap.size w5 (w5.drew.alloc (.cells #[.int .i64 0, .int .i64 0, .int .u32 0, .int .i64 0] 30))) := Lib.hid ((Below.refl _ _).drew.alloc (Nat.le_refl _) _)
          refine op_make (v := .pointer (some ⟨w5.heap.size, 0, none⟩)) (w1 := w5.drew.alloc (.cells #[.int .i64 0, .int .i64 0, .int .u32 0, .int .i64 0] 30)) rfl (by rfl) (by go_simp) ⟨HS0.out _ (grown_below HA5.out), ?_⟩
          try simp only [Act.put, List.setIfInBounds_toArray, List.set_cons_zero, List.set_cons_succ, List.getElem_toArray, List.getElem_cons_zero, List.getElem_cons_succ]
          refine planT_one ?_
          have hcall := HRO.out _ HA5.out
          refine op_call (F := 36) (args := ?_) rfl (by rfl) ?_ ?_
          rotate_left
          · go_simp
            rfl
          refine (hcall).mono ?_
          rintro e w6 ⟨rfl, ho, hg⟩
          have HG6 : Hid (w5.grownBy w6 row) := Lib.hid (grown_trans (grown_below HA5.out) hg)
          have HO6 := Lib.hid ho
          have HZ6 : Hid (Blk w6 w5.heap.size #[.int .i64 0, .int .i64 0, .int .u32 0, .int .i64 0]) := Lib.hid ((Blk.new w5.drew #[.int .i64 0, .int .i64 0, .int .u32 0, .int .i64 0] 30).grown hg (fun e => Nat.lt_irrefl _ (HQB.out _ e).2.2.2.2))
          clear ho hg
          refine ⟨_, rfl, HS0.out _ HG6.out, ?_⟩
          try simp only [Act.put, List.setIfInBounds_toArray, List.set_cons_zero, List.set_cons_succ, List.getElem_toArray, List.getElem_cons_zero, List.getElem_cons_succ]
          iterate 4
            refine planT_read (v := ?_) rfl (by rfl) ?_ ?_
            rotate_left
            · intro w' hS
              try dsimp only at hS
              go_simp
              try with_reducible rfl
            try simp only [Act.put, List.setIfInBounds_toArray, List.set_cons_zero, List.set_cons_succ, List.getElem_toArray, List.getElem_cons_zero, List.getElem_cons_succ]
          refine planT_stop ?_
          simp only [List.drop_succ_cons, List.drop_zero]
          have HFR6 := Lib.hid (Gone.later (X := X) HO6.out HG6.out HZ6.out (fun g' e => (HQB.out g' (HBQ2.out _ g' e)).2.2.2.2))
          have cZ := HZ6.out.c
          have fZ := HZ6.out.f
          have lZ := HZ6.out.lt
          go_wp2_with fail
          go_meet
          case rel => exact ⟨_, rfl, rfl, HFR6.out⟩
      case rest =>
        obtain ⟨G, rfl, rfl, hgone⟩ := hcut
        obtain ⟨hGge, hGk, hGr, hGg⟩ := hgone
        obtain ⟨w6, hw6⟩ : ∃ w6, w6 = wc := ⟨_, rfl⟩
        rw [← hw6] at hGk hGr hGg ⊢
        have HGK6 := Lib.hid hGk
        have HOW6 := Lib.hid hGr
        have HGG6 := Lib.hid hGg
        have HGE := Lib.hid hGge
        have HK6 := Lib.hid (HK5.out.grown hGg (fun e => (HQB.out O e).1 rfl))
        have HT6 := Lib.hid (HT5.out.grown hGg (fun e => (HQB.out T e).2.1 rfl))
        have HRC6 := Lib.hid (HRC5.out.grown hGg (fun e => by have := (HQB.out _ e).2.2.2.1; omega))
        have HRL6 := Lib.hid (HRL5.out.grown hGg (fun e => by have := (HQB.out _ e).2.2.2.1; omega))
        have HB6 : Hid (Below w.heap.size w w6) := Lib.hid (HB5.out.grown hGg HB5.out.size (fun b e => by have := (HQB.out b e).2.2.2.1; omega))
        have hcg6 : w6.cell? ⟨g, k, none⟩ = some (.slice q2 y cr) := (HS0.out w6 hGg).2
        have HFG6 : Hid (w6.frozen? ⟨g, k, none⟩ = false ∧ g < w6.heap.size) := Lib.hid ⟨by rw [World.frozen?_of_block (hGg.block g hg1 (fun e => (HQB.out g e.symm).2.2.1 rfl))]; exact hfg, Nat.lt_of_lt_of_le hg1 hGg.size⟩
        have HGN : Hid (T < G ∧ O < G) := Lib.hid ⟨by have := HT5.out.lt; omega, by have := HK5.out.lt; omega⟩
        have HCG6 := Lib.hid hcg6
        clear hGk hGr hGg hGge hw6 hcg6 hcg hfg HS0 HRO cK cT HRC5 HRL5 HB5
        obtain ⟨i0, hi, hz0, hz1, hz2⟩ := info_parts info30
        have HI := Lib.hid (And.intro hi (And.intro hz0 (And.intro hz1 hz2)))
        clear hi hz0 hz1 hz2
        have hlr := HLR.out
        go_upto_region 11 with fail
        have HS6 : Hid (∀ V, w6.grownBy V row → (∀ j, V.cell? ⟨O, j, none⟩ = (#[.int .i64 A, .int .i64 W, .int .i64 (K + 1), .slice (some ⟨g, 0, none⟩) n d] : Array Value)[j]?) ∧ ∀ j, V.cell? ⟨T, j, none⟩ = (#[.int .i64 a, .int .i64 s, .int .u32 x, .int .i64 (K + 1)] : Array Value)[j]?) := Lib.hid (fun V hV =>
          ⟨(HK6.out.grown hV (fun e => (HQB.out O e).1 rfl)).c, (HT6.out.grown hV (fun e => (HQB.out T e).2.1 rfl)).c⟩)
        have HAL : Hid (Below w6.heap.size w6 (w6.drew.alloc (.cells #[.int .i64 a, .int .i64 s, .int .u32 x, .int .i64 (K + 1)] 30))) := Lib.hid ((Below.refl _ _).drew.alloc (Nat.le_refl _) _)
        have HSL : Hid (Sl (w6.drew.alloc (.cells #[.int .i64 a, .int .i64 s, .int .u32 x, .int .i64 (K + 1)] 30)) (some ⟨w6.heap.size, 0, none⟩) 1 (lnC [⟨a, s, x, K + 1⟩])) := Lib.hid (fun _ => ⟨w6.heap.size, 0, by simp, rfl, fun j hj => by
          have h1 := (Blk.new w6.drew #[.int .i64 a, .int .i64 s, .int .u32 x, .int .i64 (K + 1)] 30).c j
          rw [Nat.zero_add]
          exact h1.trans Array.getElem?_toList.symm⟩)
        refine region_plan (fun V : World => (∀ j, V.cell? ⟨O, j, none⟩ = (#[.int .i64 A, .int .i64 W, .int .i64 (K + 1), .slice (some ⟨g, 0, none⟩) n d] : Array Value)[j]?) ∧ ∀ j, V.cell? ⟨T, j, none⟩ = (#[.int .i64 a, .int .i64 s, .int .u32 x, .int .i64 (K + 1)] : Array Value)[j]?) 7 [(0, true), (1, true), (2, true), (3, true), (4, true), (5, false), (6, false)] (by kernel_rfl) (by kernel_rfl) (HS6.out _ (grown_below (Below.refl _ _).drew)) ?_
        iterate 5
          refine plan_read (v := ?_) rfl (by rfl) ?_ ?_
          rotate_left
          · intro w' hS
            try dsimp only at hS
            go_simp
            try with_reducible rfl
          try simp only [Act.put, List.setIfInBounds_toArray, List.set_cons_zero, List.set_cons_succ, List.getElem_toArray, List.getElem_cons_zero, List.getElem_cons_succ]
        refine plan_make (v := .slice (some ⟨w6.heap.size, 0, none⟩) 1 1) (w1 := w6.drew.alloc (.cells #[.int .i64 a, .int .i64 s, .int .u32 x, .int .i64 (K + 1)] 30)) rfl (by rfl) (by go_simp) (HS6.out _ (grown_below HAL.out)) ?_
        try simp only [Act.put, List.setIfInBounds_toArray, List.set_cons_zero, List.set_cons_succ, List.getElem_toArray, List.getElem_cons_zero, List.getElem_cons_succ]
        refine op_wp rfl (by rfl) (wp_append_sl (.tmp 77) (.tmp 79) 28 rfl (w.heap.size + 3) 30 i0 _ 4 32 Try.underlying28 HI.out.1 HI.out.2.1 HI.out.2.2.1 HI.out.2.2.2 rfl (by decide) (.slice q2 lr.length cr) lr.length (lnC lr) rfl (own_below HOW6.out HAL.out) (some ⟨w6.heap.size, 0, none⟩) 1 1 (lnC [⟨a, s, x, K + 1⟩]) rfl rfl HSL.out (lnC_one _) (by unfold maxLen; omega) (by omega) (by have := HFG6.out.2; have := HG0.out; have := HAL.out.size; omega) ?_)
        intro v' w7 g1 g2 g3
        have hr2 : (Value.slice q2 lr.length cr).ownBlock = row := by rw [HROW.out]; cases q2 <;> rfl
        rw [hr2] at g2 g3
        have HG7 : Hid (w6.grownBy w7 row) := Lib.hid (grown_trans (grown_below HAL.out) g2)
        obtain ⟨q3, c3, rfl, -⟩ := own_cap g1
        have HO7 : Hid (w7.ownsRow (w.heap.size + 3) 30 4 (.slice q3 (lr.length + 1) c3) (lr.length + 1) (lnC (lr ++ [⟨a, s, x, K + 1⟩]))) := Lib.hid (by rw [lnC_app]; exact g1)
        have HB3 : Hid (∀ b, (Value.slice q3 (lr.length + 1) c3).ownBlock = some b → row = some b ∨ w6.heap.size < b) := Lib.hid (fun b e => by
          rcases g3 with g3 | g3
          · left; rw [← g3]; exact e
          · right
            rw [e] at g3
            injection g3 with g3
            rw [g3]
            simp)
        refine ⟨HS6.out _ HG7.out, ?_⟩
        clear g1 g2 g3 hr2 HAL HSL HS6 HI
        try simp only [Act.put, List.setIfInBounds_toArray, List.set_cons_zero, List.set_cons_succ, List.getElem_toArray, List.getElem_cons_zero, List.getElem_cons_succ]
        refine plan_nil ?_
        simp only [List.drop_succ_cons, List.drop_zero]
        have HK7 := Lib.hid (HK6.out.grown HG7.out (fun e => (HQB.out O e).1 rfl))
        have HGK7 := Lib.hid (HGK6.out.grown HG7.out (fun e => by have := (HQB.out G e).2.2.2.2; have := HGE.out; omega))
        have HRC7 := Lib.hid (HRC6.out.grown HG7.out (fun e => by have := (HQB.out _ e).2.2.2.1; omega))
        have HRL7 := Lib.hid (HRL6.out.grown HG7.out (fun e => by have := (HQB.out _ e).2.2.2.1; omega))
        have HB7 : Hid (Below w.heap.size w w7) := Lib.hid (HB6.out.grown HG7.out HB6.out.size (fun b e => by have := (HQB.out b e).2.2.2.1; omega))
        have hcg7 : w7.cell? ⟨g, k, none⟩ = some (.slice q2 y cr) := by
          rw [World.cell?_of_block (HG7.out.block g HFG6.out.2 (fun e => (HQB.out g e.symm).2.2.1 rfl))]; exact HCG6.out
        have hfg7 : w7.frozen? ⟨g, k, none⟩ = false := by
          rw [World.frozen?_of_block (HG7.out.block g HFG6.out.2 (fun e => (HQB.out g e.symm).2.2.1 rfl))]; exact HFG6.out.1
        have HO8 : Hid (OwnC (w.heap.size + 3) (w7.setCell ⟨g, k, none⟩ (.slice q3 (lr.length + 1) c3)) (some ⟨g, 0, none⟩) n d (ys.set k (.slice q3 (lr.length + 1) c3)) C') := Lib.hid (by
          rw [HE1.out]
          unfold withC
          rw [← HKE.out]
          have hel : (lr ++ [(⟨a, s, x, K + 1⟩ : Ln)]).length = lr.length + 1 := by simp
          refine HO5.out.putRow hkn (grown_trans HGG6.out HG7.out) (.inr (by rw [HYJ.out]; exact HROW.out)) (by rw [hel]; exact HO7.out) (fun b e => ?_) (by rw [hel]; exact hlr) _ _ _
          rcases HB3.out b e with h1 | h1
          · left; rw [HYJ.out, ← h1]; exact HROW.out.symm
          · right; have := HGG6.out.size; omega)
        have HCE : Hid (C'.sets = A ∧ C'.ways = W ∧ C'.clock = K + 1) := Lib.hid (by rw [HE1.out, HA.out, HWW.out]; exact ⟨rfl, rfl, rfl⟩)
        clear HK6 HT6 HRC6 HRL6 HB6 HGK6 HOW6 HO7 HCG6
        go_upto_region 12 with fail
        obtain ⟨w8, hw8⟩ : ∃ w8, w8 = w7.setCell ⟨g, k, none⟩ (.slice q3 (lr.length + 1) c3) := ⟨_, rfl⟩
        have HGNE : Hid (g ≠ G) := Lib.hid (by have := HGE.out; omega)
        have HK8 : Hid (Blk w8 O #[.int .i64 A, .int .i64 W, .int .i64 (K + 1), .slice (some ⟨g, 0, none⟩) n d]) := Lib.hid (by rw [hw8]; exact HK7.out.other _ HGO.out.1)
        have HGK8 : Hid (Blk w8 G #[.int .i64 X.addr, .int .i64 X.state, .int .u32 X.val, .int .i64 X.used]) := Lib.hid (by rw [hw8]; exact HGK7.out.other _ HGNE.out)
        have HRC8 : Hid (Blk w8 (w.heap.size + 1) #[.int .i64 0, .int .i64 0, .int .i64 0, .slice none 0 0]) := Lib.hid (by rw [hw8]; exact HRC7.out.other _ (by have := HG0.out; omega))
        have HRL8 : Hid (Blk w8 (w.heap.size + 1 + 1) #[.int .i64 0, .int .i64 0, .int .u32 0, .int .i64 0]) := Lib.hid (by rw [hw8]; exact HRL7.out.other _ (by have := HG0.out; omega))
        have HB8 : Hid (Below w.heap.size w w8) := Lib.hid (by rw [hw8]; exact HB7.out.setCell (p := ⟨g, k, none⟩) (by show w.heap.size ≤ g; have := HG0.out; omega) _)
        rw [← hw8] at HO8 ⊢
        clear hw8 HK7 HGK7 HRC7 HRL7 HB7 hcg7 hfg7
        have HNR : Hid (O ≠ w.heap.size + 1 ∧ G ≠ w.heap.size + 1) := Lib.hid (by have := HNE.out; have := HGN.out; exact ⟨by omega, by omega⟩)
        have cRC := HRC8.out.c
        have fRC := HRC8.out.f
        have lRC := HRC8.out.lt
        obtain ⟨w9, hw9⟩ : ∃ w9, w9 = (((w8.drew.setCell ⟨w.heap.size + 1, 0, none⟩ (.int .i64 A)).setCell ⟨w.heap.size + 1, 1, none⟩ (.int .i64 W)).setCell ⟨w.heap.size + 1, 2, none⟩ (.int .i64 (K + 1))).setCell ⟨w.heap.size + 1, 3, none⟩ (.slice (some ⟨g, 0, none⟩) n d) := ⟨_, rfl⟩
        have HS9 : Hid ((∀ j, w9.cell? ⟨O, j, none⟩ = (#[.int .i64 A, .int .i64 W, .int .i64 (K + 1), .slice (some ⟨g, 0, none⟩) n d] : Array Value)[j]?) ∧ ∀ j, w9.cell? ⟨G, j, none⟩ = (#[.int .i64 X.addr, .int .i64 X.state, .int .u32 X.val, .int .i64 X.used] : Array Value)[j]?) := Lib.hid (by
          rw [hw9]
          exact ⟨(set4_other HK8.out.drew HNR.out.1.symm _ _ _ _).c, (set4_other HGK8.out.drew HNR.out.2.symm _ _ _ _).c⟩)
        have HRL9 : Hid (Blk w9 (w.heap.size + 1 + 1) #[.int .i64 0, .int .i64 0, .int .u32 0, .int .i64 0]) := Lib.hid (by rw [hw9]; exact set4_other HRL8.out.drew (by omega) _ _ _ _)
        have HRC9 : Hid (Blk w9 (w.heap.size + 1) #[.int .i64 A, .int .i64 W, .int .i64 (K + 1), .slice (some ⟨g, 0, none⟩) n d]) := Lib.hid (by rw [hw9]; exact set4_same HRC8.out.drew _ _ _ _)
        have HO9 : Hid (OwnC (w.heap.size + 3) w9 (some ⟨g, 0, none⟩) n d (ys.set k (.slice q3 (lr.length + 1) c3)) C') := Lib.hid (by rw [hw9]; exact res4_own (HO8.out.below ((Below.refl _ _).drew)) (by omega) _ _ _ _)
        have HB9 : Hid (Below w.heap.size w w9) := Lib.hid (by rw [hw9]; exact set4_below HB8.out.drew (by omega) _ _ _ _)
        have HW9 := Lib.hid hw9
        clear hw9
        refine region_plan (fun V : World => (∀ j, V.cell? ⟨O, j, none⟩ = (#[.int .i64 A, .int .i64 W, .int .i64 (K + 1), .slice (some ⟨g, 0, none⟩) n d] : Array Value)[j]?) ∧ ∀ j, V.cell? ⟨G, j, none⟩ = (#[.int .i64 X.addr, .int .i64 X.state, .int .u32 X.val, .int .i64 X.used] : Array Value)[j]?) 3 [(0, true), (1, true), (2, false)] (by kernel_rfl) (by kernel_rfl) ⟨HK8.out.drew.c, HGK8.out.drew.c⟩ ?_
        iterate 2
          refine plan_read (v := ?_) rfl (by rfl) ?_ ?_
          rotate_left
          · intro w' hS
            try dsimp only at hS
            go_simp
            try with_reducible rfl
          try simp only [Act.put, List.setIfInBounds_toArray, List.set_cons_zero, List.set_cons_succ, List.getElem_toArray, List.getElem_cons_zero, List.getElem_cons_succ]
        refine plan_store (w1 := w9) rfl (by rfl) (by go_simp; rw [HW9.out]; rfl) HS9.out ?_
        try simp only [Act.put, List.setIfInBounds_toArray, List.set_cons_zero, List.set_cons_succ, List.getElem_toArray, List.getElem_cons_zero, List.getElem_cons_succ]
        refine plan_nil ?_
        simp only [List.drop_succ_cons, List.drop_zero]
        clear cRC fRC lRC HK8 HGK8 HRC8 HRL8 HO8 HB8
        have cRL := HRL9.out.c
        have fRL := HRL9.out.f
        have lRL := HRL9.out.lt
        have cRC : ∀ j, w9.cell? ⟨w.heap.size + 1, j, none⟩ = (#[.int .i64 A, .int .i64 W, .int .i64 (K + 1), .slice (some ⟨g, 0, none⟩) n d] : Array Value)[j]? := HRC9.out.c
        go_wp2_with fail
        have hOUT := outP_of (x := X) (E := 0) ((res4_own HO9.out (s := w.heap.size + 1 + 1) (by omega) (.int .i64 X.addr) (.int .i64 X.state) (.int .u32 X.val) (.int .i64 X.used)).mono (by omega)) HSS.out (set4_below HB9.out (by omega) _ _ _ _)
        rw [HCE.out.1, HCE.out.2.1, HCE.out.2.2] at hOUT
        have HOUT := Lib.hid hOUT
        clear hOUT
        exact bodyPost_ret (v := .tuple #[.agg #[.int .i64 A, .int .i64 W, .int .i64 (K + 1), .slice (some ⟨g, 0, none⟩) n d], .agg #[.int .i64 X.addr, .int .i64 X.state, .int .u32 X.val, .int .i64 X.used], .int .i64 0]) (by simp [results, Try.results18, go_sem, *]) rfl HOUT.out
  · have hok : okP C a s = false := by simpa using hok
    obtain ⟨rfl, rfl, rfl⟩ := HBAD.out hok
    have cRC := HRC3.out.c
    have fRC := HRC3.out.f
    have lRC := HRC3.out.lt
    have cRL := HRL3.out.c
    have fRL := HRL3.out.f
    have lRL := HRL3.out.lt
    clear HBAD HOLD HNEW
    have HOUT := Lib.hid (outP_of (x := zL) (E := 1) ((res8_own HO3.out (s := w.heap.size + 1) (t := w.heap.size + 1 + 1) (by omega) (by omega) (.int .i64 C'.sets) (.int .i64 C'.ways) (.int .i64 C'.clock) (.slice q n d) (.int .i64 0) (.int .i64 0) (.int .u32 0) (.int .i64 0)).mono (by omega)) HSS.out (res8_below HB3.out (by omega) (by omega) _ _ _ _ _ _ _ _))
    by_cases h1 : dropE C' a = 1
    · have e1 : (dropE C' a == 1) = true := by rw [h1]; rfl
      clear h1 hok
      generalize findS C' a = f1
      generalize findA C' a = f2
      generalize dropE C' a = f3 at e1 ⊢
      go_wp2_with fail
      exact bodyPost_ret (v := .tuple #[.agg #[.int .i64 C'.sets, .int .i64 C'.ways, .int .i64 C'.clock, .slice q n d], .agg #[.int .i64 0, .int .i64 0, .int .u32 0, .int .i64 0], .int .i64 1]) (by simp [results, Try.results18, go_sem, *]) rfl HOUT.out
    · have e1 : (dropE C' a == 1) = false := by simpa using h1
      have hmay : mayC C' a = true := by
        cases e : mayC C' a with
        | false => exact absurd (drop_one.2 e) h1
        | true => rfl
      by_cases h2 : C'.clock = clockTop
      · have e2 : (C'.clock == 1099511627776) = true := by rw [h2]; rfl
        clear h1 hok hmay h2
        generalize findS C' a = f1
        generalize findA C' a = f2
        generalize dropE C' a = f3 at e1 ⊢
        go_wp2_with fail
        exact bodyPost_ret (v := .tuple #[.agg #[.int .i64 C'.sets, .int .i64 C'.ways, .int .i64 C'.clock, .slice q n d], .agg #[.int .i64 0, .int .i64 0, .int .u32 0, .int .i64 0], .int .i64 1]) (by simp [results, Try.results18, go_sem, *]) rfl HOUT.out
      · have e2 : (C'.clock == 1099511627776) = false := by
          have : C'.clock ≠ 1099511627776 := h2
          simpa using this
        have h3 : stB s = false := by
          cases e : stB s with
          | false => rfl
          | true => rw [okP_iff.2 ⟨hmay, h2, e⟩] at hok; cases hok
        have HS3 := Lib.hid h3
        clear h1 hok hmay h2 h3
        generalize findS C' a = f1
        generalize findA C' a = f2
        generalize dropE C' a = f3 at e1 ⊢
        go_wp2_with fail
        refine (HST.out _ HS3.out _).mono ?_
        rintro e w' ⟨rfl, rfl⟩
        go_wp2_with fail
        exact bodyPost_ret (v := .tuple #[.agg #[.int .i64 C'.sets, .int .i64 C'.ways, .int .i64 C'.clock, .slice q n d], .agg #[.int .i64 0, .int .i64 0, .int .u32 0, .int .i64 0], .int .i64 1]) (by simp [results, Try.results18, go_sem, *]) rfl HOUT.out
end Go.Proofs.Ytoddmgaihggkjaa
