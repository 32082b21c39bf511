/- A line is used; no condition but that the cache reads. -/
import Derived.Test.YtoddmgaihggkjaaCacheS
import Derived.Test.YtoddmgaihggkjaaPlan3
namespace Go.Proofs.Ytoddmgaihggkjaa
set_option linter.unusedVariables false
open Go.ChangeShapes Go.WideShapes Go.ChangeAt Go.RowKit

theorem use_top {C : Ch} {a : Int} (h : C.clock = clockTop) : useC C a = C ∧ useE C a = 1 := by
  have e : canC C a = false := by
    unfold canC
    rw [Bool.and_eq_false_iff]
    exact .inr (decide_eq_false (by rw [h]; omega))
  unfold useC useE
  rw [e]
  exact ⟨rfl, rfl⟩
theorem can_may {C : Ch} {a : Int} (h : C.clock ≠ clockTop) : canC C a = mayC C a := by
  rw [Bool.eq_iff_iff, canC_iff, mayC_iff]
  exact ⟨fun ⟨h1, h2, _⟩ => ⟨h1, h2⟩, fun ⟨h1, h2⟩ => ⟨h1, h2, by have := h1.kt; omega⟩⟩
theorem use_err {C : Ch} {a : Int} (h : C.clock ≠ clockTop) (hh : hasC C a = false) : useC C a = C ∧ useE C a = dropE C a := by
  unfold useC useE dropE
  rw [can_may h]
  refine ⟨?_, rfl⟩
  unfold hasC at hh
  rw [if_neg (by rw [hh]; decide)]
theorem use_ok {C : Ch} {a : Int} (h : C.clock ≠ clockTop) (hh : hasC C a = true) : useC C a = withC C a (C.clock + 1) ((setC C a).set (atC C a).toNat (usedL (lineAt C a) (C.clock + 1))) ∧ useE C a = 0 := by
  have hm := has_may hh
  have ha := (has_iff.1 hh).2
  unfold useC useE
  rw [can_may h, hm]
  exact ⟨by rw [if_pos (by rw [decide_eq_true ha]; rfl)], by rw [if_pos rfl, if_pos ha]⟩
theorem res4_own {base s : Nat} {w : World} {p : Option Addr} {n c : Nat} {ys : List Value} {C : Ch} (h : OwnC base w p n c ys C) (hs : s < base) (u0 u1 u2 u3 : Value) :
    OwnC base ((((w.setCell ⟨s, 0, none⟩ u0).setCell ⟨s, 1, none⟩ u1).setCell ⟨s, 2, none⟩ u2).setCell ⟨s, 3, none⟩ u3) p n c ys C := (((h.setOff hs 0 u0).setOff hs 1 u1).setOff hs 2 u2).setOff hs 3 u3
theorem outC_of {S : Nat → Prop} {w w' : World} {p : Option Addr} {n c : Nat} {ys : List Value} {C : Ch} {E : Int} (h : OwnC w.heap.size w' p n c ys C) (hS : ∀ R, S R → R < w.heap.size) (hb : Below w.heap.size w w') : OutC S w w' (.returned (.tuple #[.agg #[.int .i64 C.sets, .int .i64 C.ways, .int .i64 C.clock, .slice p n c], .int .i64 E])) C E :=
  ⟨_, rfl, h.co hS, hb⟩

set_option maxHeartbeats 8000000 in
set_option maxRecDepth 100000 in
theorem use_any (S : Nat → Prop) (v : Value) (C : Ch) (a : Int) (w : World) (h : Co S w v C) (hS : ∀ R, S R → R < w.heap.size) : Calls Try.prog 13 #[v, .int .i64 a] w fun e w' => OutC S w w' e (useC C a) (useE C a) := by
  obtain ⟨p, n, c, xs, rfl, hc, -⟩ := h
  have hn := hc.n100
  have HCP := Lib.hid (fun w' hb => copied_any p n c xs C w' (hc.below (w' := w') hb))
  obtain ⟨C', hC'⟩ : ∃ x, x = useC C a := ⟨_, rfl⟩
  obtain ⟨E, hE⟩ : ∃ x, x = useE C a := ⟨_, rfl⟩
  rw [← hC', ← hE]
  have HTOP : Hid (C.clock = clockTop → C' = C ∧ E = 1) := Lib.hid (fun e => by rw [hC', hE]; exact use_top e)
  have HERR : Hid (C.clock ≠ clockTop → hasC C a = false → C' = C ∧ E = dropE C a) := Lib.hid (fun e e2 => by rw [hC', hE]; exact use_err e e2)
  have HOK : Hid (C.clock ≠ clockTop → hasC C a = true → C' = withC C a (C.clock + 1) ((setC C a).set (atC C a).toNat (usedL (lineAt C a) (C.clock + 1))) ∧ E = 0) := Lib.hid (fun e e2 => by rw [hC', hE]; exact use_ok e e2)
  clear hC' hE hc
  have HSS := Lib.hid hS
  clear hS
  go_enter Try.func13, Try.ntmps13
  go_wp2_with fail
  have HBA : Hid (Below w.heap.size w ((w.alloc (.cells #[.int .i64 C.sets, .int .i64 C.ways, .int .i64 C.clock, .slice p n c] 24)).alloc (.cells #[.int .i64 0, .int .i64 0, .int .i64 0, .slice none 0 0] 24))) := Lib.hid (((Below.refl _ _).alloc (Nat.le_refl _) _).alloc (by simp) _)
  refine (HCP.out _ HBA.out).mono ?_
  rintro e w1 ⟨q, d, ys, rfl, ho, hb1⟩
  have HB1 : Hid (Below w.heap.size w w1) := Lib.hid (HBA.out.trans (hb1.mono HBA.out.size))
  have HRES : Hid (Blk w1 (w.heap.size + 1) #[.int .i64 0, .int .i64 0, .int .i64 0, .slice none 0 0]) := Lib.hid (by simpa using Blk.track1 hb1)
  have HO : Hid (OwnC (w.heap.size + 2) w1 q n d ys C) := Lib.hid (by simpa using ho)
  clear hb1 ho HBA HCP
  obtain ⟨O, hO⟩ : ∃ O, O = w1.heap.size := ⟨_, rfl⟩
  obtain ⟨w2, hw2⟩ : ∃ w2, w2 = w1.alloc (.cells #[.int .i64 C.sets, .int .i64 C.ways, .int .i64 C.clock, .slice q n d] 24) := ⟨_, rfl⟩
  have HKO : Hid (Blk w2 O #[.int .i64 C.sets, .int .i64 C.ways, .int .i64 C.clock, .slice q n d]) := Lib.hid (by rw [hw2, hO]; exact Blk.new _ _ _)
  have HA1 : Hid (Below w1.heap.size w1 w2) := Lib.hid (by rw [hw2]; exact (Below.refl _ _).alloc (Nat.le_refl _) _)
  have HO2 := Lib.hid (HO.out.below HA1.out)
  have HR2 := Lib.hid (HRES.out.below HA1.out)
  have HB2 : Hid (Below w.heap.size w w2) := Lib.hid (HB1.out.trans (HA1.out.mono HB1.out.size))
  have HNE : Hid (w.heap.size + 2 ≤ O) := Lib.hid (by have := HRES.out.lt; omega)
  have HOL : Hid ((∀ g, (Value.slice q n d).ownBlock = some g → g ≠ O) ∧ ∀ k, k < n → ∀ g, (ys.getD k vz).ownBlock = some g → g ≠ O) := Lib.hid (by
    obtain ⟨h1, h2⟩ := HO.out.lt
    exact ⟨fun g e => by have := h1 g e; omega, fun k hk g e => by have := h2 k hk g e; omega⟩)
  have HW2 := Lib.hid hw2
  have HOE := Lib.hid hO
  clear hO hw2 HO HRES HB1 HA1
  go_wp2_with fail
  rw [← HW2.out, ← HOE.out]
  clear HW2 HOE
  refine (find_any (fun _ => False) _ C a w2 (HO2.out.co (fun R hR => hR.elim))).mono ?_
  rintro e w3 ⟨rfl, hb3⟩
  have HK3 := Lib.hid (HKO.out.below hb3)
  have HO3 := Lib.hid (HO2.out.below hb3)
  have HR3 := Lib.hid (HR2.out.below hb3)
  have HB3 : Hid (Below w.heap.size w w3) := Lib.hid (HB2.out.trans (hb3.mono HB2.out.size))
  clear hb3 HKO HO2 HR2 HB2
  have cK := HK3.out.c
  have cR := HR3.out.c
  have fR := HR3.out.f
  have lR := HR3.out.lt
  by_cases ht : C.clock = clockTop
  · have ht' : (C.clock == 1099511627776) = true := by rw [ht]; rfl
    obtain ⟨e1, e2⟩ := HTOP.out ht
    subst e1 e2
    clear HTOP HERR HOK ht
    generalize findS C' a = f1
    generalize findA C' a = f2
    generalize dropE C' a = f3
    go_wp2_with fail
    refine bodyPost_ret (v := .tuple #[.agg #[.int .i64 C'.sets, .int .i64 C'.ways, .int .i64 C'.clock, .slice q n d], .int .i64 1]) (by simp [results, Try.results13, go_sem, *]) rfl (outC_of ((res4_own HO3.out (by omega) _ _ _ _).mono (by omega)) HSS.out (set4_below HB3.out (by omega) _ _ _ _))
  · have ht' : (C.clock == 1099511627776) = false := by
      have : C.clock ≠ 1099511627776 := ht
      simpa using this
    cases hh : hasC C a with
    | false =>
      obtain ⟨e1, e2⟩ := HERR.out ht hh
      have hne := (drop_no hh).1
      have hd : (dropE C a != 0) = true := by simpa using hne
      subst e1
      rw [← e2] at hd ⊢
      clear HTOP HERR HOK ht hne e2 hh
      generalize findS C' a = f1
      generalize findA C' a = f2
      go_wp2_with fail
      refine bodyPost_ret (v := .tuple #[.agg #[.int .i64 C'.sets, .int .i64 C'.ways, .int .i64 C'.clock, .slice q n d], .int .i64 E]) (by simp [results, Try.results13, go_sem, *]) rfl (outC_of ((res4_own HO3.out (by omega) _ _ _ _).mono (by omega)) HSS.out (set4_below HB3.out (by omega) _ _ _ _))
    | true =>
      obtain ⟨e1, e2⟩ := HOK.out ht hh
      obtain ⟨f1, f2, f3, f4⟩ := look_has hh
      obtain ⟨⟨hrt, ha⟩, hat0⟩ := has_iff.1 hh
      obtain ⟨j, hj, hjl, hl⟩ := atC_lt2 hat0
      have hkn : setNo C a < n := by have := hrt.set_lt a; have := HO3.out.zn; omega
      have hk0 := hrt.k0
      have hkt : C.clock < 1099511627776 := by have := hrt.kt; have : C.clock ≠ 1099511627776 := ht; unfold clockTop at *; omega
      obtain ⟨g, q2, cr, rfl, hyj, hg0, hg1, hcr, hnd, hcg, hfg, hfr⟩ := HO3.out.rowAt hkn
      rw [setC_eq] at hyj hcr hcg hfr
      obtain ⟨gr, rfl, -, -, hgr0, hgr1⟩ := own_go hfr (by omega)
      rw [f1, f2, f3, hj]
      rw [hj] at e1
      rw [hl] at e1
      have HE1 := Lib.hid e1
      obtain ⟨l, hle⟩ : ∃ l, l = setC C a := ⟨_, rfl⟩
      obtain ⟨k, hke⟩ : ∃ k, k = setNo C a := ⟨_, rfl⟩
      rw [← hle] at hyj hcr hcg hfr hjl HE1
      rw [← hke] at hyj hcg hkn hfg ⊢
      have hx100 : l.length ≤ 100 := by rw [hle]; exact HO3.out.l100 _
      have HFR := Lib.hid hfr
      have HYJ := Lib.hid hyj
      have HLE := Lib.hid hle
      have HKE := Lib.hid hke
      obtain ⟨x, hx⟩ : ∃ x, x = l.length := ⟨_, rfl⟩
      rw [← hx] at HFR HYJ hcr hcg hjl hx100
      have HX := Lib.hid hx
      have HG0 := Lib.hid hg0
      have HGR0 := Lib.hid hgr0
      subst e2
      clear hx hle hke hyj hfr e1 f1 f2 f3 f4 hrt ha hat0 hj hl hh HTOP HERR HOK hg0 hgr0
      obtain ⟨A, W, K, hA, hW, hK⟩ : ∃ A W K, A = C.sets ∧ W = C.ways ∧ K = C.clock := ⟨_, _, _, rfl, rfl, rfl⟩
      rw [← hA, ← hW, ← hK] at HK3 cK ⊢
      rw [← hK] at hk0 hkt ht' HE1
      have HA := Lib.hid hA
      have HWW := Lib.hid hW
      have HKK := Lib.hid hK
      clear hA hW hK ht
      have hw : wrap64 (K + 1) = K + 1 := by unfold wrap64; omega
      have lK := HK3.out.lt
      have fK := HK3.out.f
      go_upto_region 8 with fail
      obtain ⟨w4, hw4⟩ : ∃ w4, w4 = w3.setCell ⟨O, 2, none⟩ (.int .i64 (K + 1)) := ⟨_, rfl⟩
      have HK4 : Hid (Blk w4 O #[.int .i64 A, .int .i64 W, .int .i64 (K + 1), .slice (some ⟨g, 0, none⟩) n d]) := Lib.hid (by rw [hw4]; exact HK3.out.set (n := 2) _ (by simp))
      have HO4 : Hid (OwnC (w.heap.size + 2) w4 (some ⟨g, 0, none⟩) n d ys C) := Lib.hid (by rw [hw4]; exact HO3.out.setNot HOL.out.1 HOL.out.2 2 _)
      have HR4 : Hid (Blk w4 (w.heap.size + 1) #[.int .i64 0, .int .i64 0, .int .i64 0, .slice none 0 0]) := Lib.hid (by rw [hw4]; exact HR3.out.other _ (by have := HNE.out; omega))
      have HB4 : Hid (Below w.heap.size w w4) := Lib.hid (by rw [hw4]; exact HB3.out.setCell (p := ⟨O, 2, none⟩) (by show w.heap.size ≤ O; have := HNE.out; omega) _)
      have HGO : Hid (gr ≠ O ∧ g ≠ O) := Lib.hid ⟨HOL.out.2 k hkn gr (by rw [HYJ.out]; rfl), HOL.out.1 g rfl⟩
      have HF4 : Hid (w4.ownsRow (w.heap.size + 2) 30 4 (.slice (some ⟨gr, 0, none⟩) x cr) x (lnC l)) := Lib.hid (by rw [hw4]; exact own_off HFR.out (fun b e => by injection e with e; rw [← e]; exact HGO.out.1) _ _)
      have hcg4 : w4.cell? ⟨g, k, none⟩ = some (.slice (some ⟨gr, 0, none⟩) x cr) := by
        rw [hw4, World.cell?_setCell_other _ _ _ _ (by intro e; injection e with e1; exact HGO.out.2 e1.symm)]; exact hcg
      rw [← hw4]
      clear hw4 hcg hfg cK fK lK cR fR lR HK3 HO3 HR3 HB3 HFR hgr1 hg1
      have cK := HK4.out.c
      have lK := HK4.out.lt
      have hkI : (k : Int) < (n : Int) := by omega
      have hjI : (j : Int) < (x : Int) := by omega
      have hcell : w4.cell? ⟨gr, j * 4 + 3, none⟩ = some (.int .i64 (l.getD j zL).used) := by
        rw [HF4.out.cellAt (j * 4 + 3) (by rw [← HX.out] at *; omega), lnC_at l j 3 (by rw [← HX.out]; exact hjl) (by decide)]
        rfl
      have hfroz : w4.frozen? ⟨gr, j * 4 + 3, none⟩ = false := HF4.out.frozenAt _
      refine region_plan (fun w' : World => w' = w4.drew) 8 [(0, true), (1, true), (2, true), (3, true), (4, true), (5, true), (6, true), (7, true)] (by kernel_rfl) (by kernel_rfl) rfl ?_
      iterate 8
        refine plan_read (v := ?_) rfl (by rfl) ?_ ?_
        rotate_left
        · intro w' hS
          try dsimp only at hS
          go_simp
          try with_reducible rfl
        try simp only [Act.put, List.setIfInBounds_toArray, List.set_cons_zero, List.set_cons_succ, List.getElem_toArray, List.getElem_cons_zero, List.getElem_cons_succ]
      refine plan_nil ?_
      simp only [List.drop_succ_cons, List.drop_zero]
      go_upto_region 9 with fail
      obtain ⟨w5, hw5⟩ : ∃ w5, w5 = (w4.setCell ⟨gr, j * 4 + 3, none⟩ (.int .i64 (K + 1))).drew := ⟨_, rfl⟩
      have HST := Lib.hid (HF4.out.stored (j * 4 + 3) (.int .i64 (K + 1)))
      have HK5 : Hid (Blk w5 O #[.int .i64 A, .int .i64 W, .int .i64 (K + 1), .slice (some ⟨g, 0, none⟩) n d]) := Lib.hid (by rw [hw5]; exact (HK4.out.other _ HGO.out.1).drew)
      have HR5 : Hid (Blk w5 (w.heap.size + 1) #[.int .i64 0, .int .i64 0, .int .i64 0, .slice none 0 0]) := Lib.hid (by rw [hw5]; exact (HR4.out.other _ (by have := HGR0.out; omega)).drew)
      have HB5 : Hid (Below w.heap.size w w5) := Lib.hid (by rw [hw5]; exact (HB4.out.setCell (p := ⟨gr, j * 4 + 3, none⟩) (by show w.heap.size ≤ gr; have := HGR0.out; omega) _).drew)
      have HO5 : Hid (OwnC (w.heap.size + 2) w5 (some ⟨g, 0, none⟩) n d ys C') := Lib.hid (by
        rw [hw5, HE1.out]
        unfold withC
        rw [← HKE.out]
        simp only [Int.toNat_natCast]
        refine HO4.out.writeRow hkn HYJ.out ?_ ?_ (by rw [List.length_set]; exact HX.out.symm) hx100 _ _ _
        · exact ⟨HST.out.2.os, HST.out.2.tape, HST.out.2.output, HST.out.2.size, HST.out.2.block⟩
        · have h1 := HST.out.1
          rw [← lnC_used l j (by rw [← HX.out]; exact hjl)] at h1
          exact h1)
      have HCE : Hid (C'.sets = A ∧ C'.ways = W ∧ C'.clock = K + 1) := Lib.hid (by rw [HE1.out, HA.out, HWW.out]; exact ⟨rfl, rfl, rfl⟩)
      rw [← hw5]
      clear hw5 cK lK hcell hfroz hcg4 HST HK4 HR4 HB4 HO4 HF4
      have cK := HK5.out.c
      have cR := HR5.out.c
      have fR := HR5.out.f
      have lR := HR5.out.lt
      go_wp2_with fail
      have hOUT := outC_of (E := 0) ((res4_own HO5.out (s := w.heap.size + 1) (by omega) (.int .i64 A) (.int .i64 W) (.int .i64 (K + 1)) (.slice (some ⟨g, 0, none⟩) n d)).mono (by omega)) HSS.out (set4_below HB5.out (by omega) _ _ _ _)
      rw [HCE.out.1, HCE.out.2.1, HCE.out.2.2] at hOUT
      have HOUT := Lib.hid hOUT
      clear hOUT
      exact bodyPost_ret (v := .tuple #[.agg #[.int .i64 A, .int .i64 W, .int .i64 (K + 1), .slice (some ⟨g, 0, none⟩) n d], .int .i64 0]) (by simp [results, Try.results13, go_sem, *]) rfl HOUT.out
end Go.Proofs.Ytoddmgaihggkjaa
