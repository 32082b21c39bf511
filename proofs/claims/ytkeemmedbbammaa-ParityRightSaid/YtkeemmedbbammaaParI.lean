/- What Write answers; no condition but that the banks read. -/
import Derived.Test.YtkeemmedbbammaaParH
namespace Go.Proofs.Ytkeemmedbbammaa
set_option linter.unusedVariables false
open Go.ChangeShapes Go.WideShapes Go.ChangeAt Go.RowKit

/-- Banks that are handed back: in memory of one's own, beside a number. -/
def Back (w w' : World) (e : Ending) (n m : Nat) (B : Bk) (E : Int) : Prop := ∃ p c ys pp cc, e = .returned (.tuple #[.agg #[.slice p n c, .slice pp m cc, .int .i64 B.lost], .int .i64 E]) ∧ OwnB w.heap.size w' p n c ys pp m cc B ∧ Below w.heap.size w w'

set_option maxHeartbeats 4000000 in
theorem write_any (p : Option Addr) (n c : Nat) (xs : List Value) (pp : Option Addr) (m cc : Nat) (B : Bk) (k a : Int) (v : Nat) (w : World) (h : Bn w p n c xs pp m cc B) (hv : v < 4294967296) :
    Calls Try.prog 10 #[.agg #[.slice p n c, .slice pp m cc, .int .i64 B.lost], .int .i64 k, .int .i64 a, .int .u32 v] w fun e w' => Back w w' e n m (writeB B k a v) (writeE B k a) := by
  have hcp := fun w' hb => copied_any p n c xs pp m cc B w' (h.below hb)
  obtain ⟨z, hz⟩ : ∃ z, z = B.lost := ⟨_, rfl⟩
  obtain ⟨r, hr⟩ : ∃ r, r = hasW B k a := ⟨_, rfl⟩
  rw [← hz] at hcp ⊢
  have HCP := Lib.hid hcp
  have HZ := Lib.hid hz
  have HR := Lib.hid hr
  have HH := Lib.hid h
  obtain ⟨B', hB'⟩ : ∃ B', B' = writeB B k a v := ⟨_, rfl⟩
  obtain ⟨E, hE⟩ : ∃ E, E = writeE B k a := ⟨_, rfl⟩
  rw [← hB', ← hE]
  have HB' := Lib.hid hB'
  have HE := Lib.hid hE
  clear h hcp hz hr hB' hE
  go_enter Try.func10, Try.ntmps10
  go_wp2_with fail
  have HBA : Hid (Below w.heap.size w ((w.alloc (.cells #[.slice p n c, .slice pp m cc, .int .i64 z] 25)).alloc (.cells #[.slice none 0 0, .slice none 0 0, .int .i64 0] 25))) := Lib.hid (((Below.refl _ _).alloc (Nat.le_refl _) _).alloc (by simp) _)
  refine (HCP.out _ HBA.out).mono ?_
  rintro e w1 ⟨q, d, ys, qq, dd, rfl, ho, hb1⟩
  have HB1 : Hid (Below w.heap.size w w1) := Lib.hid (HBA.out.trans (hb1.mono HBA.out.size))
  have HRES : Hid (Blk w1 (w.heap.size + 1) #[.slice none 0 0, .slice none 0 0, .int .i64 0]) := Lib.hid (by simpa using Blk.track1 hb1)
  have HO : Hid (OwnB (w.heap.size + 2) w1 q n d ys qq m dd B) := Lib.hid (by simpa using ho)
  clear hb1 ho HBA HCP
  go_wp2_with fail
  have HKO : Hid (Blk (w1.alloc (.cells #[.slice q n d, .slice qq m dd, .int .i64 z] 25)) w1.heap.size #[.slice q n d, .slice qq m dd, .int .i64 z]) := Lib.hid (Blk.new _ _ _)
  have HOA := Lib.hid (HO.out.below ((Below.refl _ _).alloc (Nat.le_refl _) (.cells #[.slice q n d, .slice qq m dd, .int .i64 z] 25)))
  have HRA := Lib.hid (HRES.out.alloc (.cells #[.slice q n d, .slice qq m dd, .int .i64 z] 25))
  have HBA : Hid (Below w.heap.size w (w1.alloc (.cells #[.slice q n d, .slice qq m dd, .int .i64 z] 25))) := Lib.hid (HB1.out.alloc HB1.out.size _)
  have HNE : Hid (w.heap.size + 2 ≤ w1.heap.size) := Lib.hid (by have := HRES.out.lt; omega)
  have HOL : Hid (∀ j, j < n → ∀ g, (ys.getD j vz).ownBlock = some g → g < w1.heap.size) := Lib.hid (fun j hj g e => ((HO.out.own.fr j (by rw [HO.out.zn]; exact hj)).lt g e).2)
  have HOQ : Hid (∀ g, (Value.slice qq m dd).ownBlock = some g → g < w1.heap.size) := Lib.hid (fun g e => (HO.out.par.lt g e).2)
  obtain ⟨O, hO⟩ : ∃ O, O = w1.heap.size := ⟨_, rfl⟩
  obtain ⟨w2, hw2⟩ : ∃ w2, w2 = w1.alloc (.cells #[.slice q n d, .slice qq m dd, .int .i64 z] 25) := ⟨_, rfl⟩
  rw [← hw2] at HKO HOA HRA HBA ⊢
  rw [← hO] at HKO HNE HOL HOQ ⊢
  clear hO hw2 HO HRES HB1
  have hhw := hasword_any q n d ys qq m dd B k a w2 HOA.out.bn
  rw [← HR.out, ← HZ.out] at hhw
  refine hhw.mono ?_
  clear hhw
  rintro e w3 ⟨rfl, hb3⟩
  have HK3 := Lib.hid (HKO.out.below hb3)
  have HO3 := Lib.hid (HOA.out.below hb3)
  have HR3 := Lib.hid (HRA.out.below hb3)
  have HB3 : Hid (Below w.heap.size w w3) := Lib.hid (HBA.out.trans (hb3.mono HBA.out.size))
  clear hb3 HKO HOA HRA HBA
  have cK := HK3.out.c
  have cR := HR3.out.c
  have fR := HR3.out.f
  have lR := HR3.out.lt
  cases r with
  | false =>
    have hB : B' = B := by rw [HB'.out]; unfold writeB; rw [← HR.out]; rfl
    have hE : E = 1 := by rw [HE.out]; unfold writeE; rw [← HR.out]; rfl
    subst hB hE
    go_wp2_with fail
    refine bodyPost_ret (v := .tuple #[.agg #[.slice q n d, .slice qq m dd, .int .i64 z], .int .i64 1]) (by simp [results, Try.results10, go_sem, *]) rfl ⟨q, d, ys, qq, dd, by rw [HZ.out], res3_own HO3.out _ _ _, res3_below HB3.out _ _ _⟩
  | true =>
    by_cases hz0 : z = 0
    · have hw := hasW_inv HR.out.symm
      obtain ⟨hright, hk0, hk1, ha0, ha1⟩ := hw
      have hri := right_inv hright
      rw [HH.out.zn] at hk1
      rw [HH.out.zm] at ha1
      have hall : allB B.rows m = true := by rw [← HH.out.zm]; exact hri.2.2.2.2.1
      obtain ⟨j, rfl⟩ := Int.eq_ofNat_of_zero_le hk0
      obtain ⟨i, rfl⟩ := Int.eq_ofNat_of_zero_le ha0
      have hj : j < n := by omega
      have hi : i < m := by omega
      have hB : B' = putB B j i v := by rw [HB'.out]; unfold writeB; rw [← HR.out, if_pos rfl, if_pos (by rw [← HZ.out]; exact hz0)]
      have hE : E = 0 := by rw [HE.out]; unfold writeE; rw [← HR.out, if_pos rfl, if_pos (by rw [← HZ.out]; exact hz0)]
      subst hE
      have hm := HH.out.m100
      have hn := HH.out.n100
      have hlj : (B.rows.getD j []).length = m := all_at hall j (by rw [HH.out.zn]; exact hj)
      obtain ⟨g, gr, cr, rfl, hyj, hg0, hg1, hgr0, hgr1, hcr, hnd, hcg, hfg, hcw, hfw⟩ := HO3.out.rowAt hj (by rw [hlj]; omega)
      rw [hlj] at hyj hcr hcg hcw
      obtain ⟨gp, rfl, hgp0, hgp1, hmd, hcp, hfp⟩ := HO3.out.parAt (by omega)
      have HBP := Lib.hid hB
      have HYJ := Lib.hid hyj
      have HLJ := Lib.hid hlj
      obtain ⟨x, hx⟩ : ∃ x, x = (B.rows.getD j []).getD i 0 := ⟨_, rfl⟩
      obtain ⟨y, hy⟩ : ∃ y, y = B.par.getD i 0 := ⟨_, rfl⟩
      have c1 := hcw i hi
      have c2 := hcp i hi
      rw [← hx] at c1
      rw [← hy] at c2
      have hx32 : x < 4294967296 := by rw [hx]; exact HH.out.rw_.word_lt j i
      have hy32 : y < 4294967296 := by rw [hy]; exact HH.out.nm.getD_lt i
      have hb1 : bits .xor .u32 (x : Int) (v : Int) = ((x ^^^ v : Nat) : Int) := u32_xor_nat x v (by omega) (by omega)
      have hxv := xor_lt x v hx32 hv
      have hb2 : bits .xor .u32 (y : Int) ((x ^^^ v : Nat) : Int) = ((y ^^^ (x ^^^ v) : Nat) : Int) := u32_xor_nat y (x ^^^ v) (by omega) (by omega)
      have hyxv := xor_lt y (x ^^^ v) hy32 hxv
      have hz0' : (z != 0) = false := by simp; exact hz0
      have hjI : (0 : Int) ≤ (j : Int) := by omega
      have hjI2 : (j : Int) < (n : Int) := by omega
      have hiI : (0 : Int) ≤ (i : Int) := by omega
      have hiI2 : (i : Int) < (m : Int) := by omega
      have HX := Lib.hid hx
      have HY := Lib.hid hy
      have HGP := Lib.hid hgp0
      have HGR := Lib.hid hgr0
      have HGG := Lib.hid hg0
      have HPR : Hid (gp ≠ gr) := Lib.hid (fun e => HO3.out.sep2 j hj gp rfl (by rw [HYJ.out]; show some gr = some gp; rw [e]))
      have HPG : Hid (gp ≠ g) := Lib.hid (fun e => HO3.out.sep1 gp rfl (by show some g = some gp; rw [e]))
      have HOP : Hid (gp ≠ O) := Lib.hid (fun e => Nat.lt_irrefl _ (e ▸ HOQ.out gp rfl))
      have HOR : Hid (gr ≠ O) := Lib.hid (fun e => Nat.lt_irrefl _ (e ▸ HOL.out j hj gr (by rw [HYJ.out]; rfl)))
      have HRG : Hid (gr ≠ g) := Lib.hid (fun e => HO3.out.own.sep j (by rw [HH.out.zn]; exact hj) gr (by rw [HYJ.out]; rfl) (by show some g = some gr; rw [e]))
      clear hright hri hall hk0 hk1 ha0 ha1 hB hyj hlj hx hy hz0 hgp0 hgr0 hg0 hg1 hgr1 hgp1 hcw hcp
      go_upto_region 6 with fail
      obtain ⟨w6, hw6⟩ : ∃ w6, w6 = w3.drew := ⟨_, rfl⟩
      have kc1 : w6.cell? ⟨gr, i, none⟩ = some (.int .u32 (x : Int)) := by rw [hw6]; exact c1
      have kc2 : w6.cell? ⟨gp, i, none⟩ = some (.int .u32 (y : Int)) := by rw [hw6]; exact c2
      have kcg : w6.cell? ⟨g, j, none⟩ = some (.slice (some ⟨gr, 0, none⟩) m cr) := by rw [hw6]; exact hcg
      have kfp : w6.frozen? ⟨gp, i, none⟩ = false := by rw [hw6]; exact hfp i
      have HK6 : Hid (Blk w6 O #[.slice (some ⟨g, 0, none⟩) n d, .slice (some ⟨gp, 0, none⟩) m dd, .int .i64 z]) := Lib.hid (by rw [hw6]; exact HK3.out.drew)
      have HO6 : Hid (OwnB (w.heap.size + 2) w6 (some ⟨g, 0, none⟩) n d ys (some ⟨gp, 0, none⟩) m dd B) := Lib.hid (by rw [hw6]; exact HO3.out.below (Below.refl _ _).drew)
      have HR6 : Hid (Blk w6 (w.heap.size + 1) #[.slice none 0 0, .slice none 0 0, .int .i64 0]) := Lib.hid (by rw [hw6]; exact HR3.out.drew)
      have HB6 : Hid (Below w.heap.size w w6) := Lib.hid (by rw [hw6]; exact HB3.out.drew)
      refine region_plan (fun w' : World => w' = w6) 17 [(0, true), (1, true), (2, true), (3, true), (4, true), (5, true), (6, true), (7, true), (8, true), (9, true), (10, true), (11, true), (12, true), (13, true), (14, true), (15, true), (16, true)] (by kernel_rfl) (by kernel_rfl) hw6.symm ?_
      rw [← hw6]
      clear hw6 cK cR fR lR c1 c2 hcg hfg hfp hfw HK3 HO3 HR3 HB3
      have k6 := HK6.out.c
      iterate 17
        refine plan_read (v := ?_) rfl (by rfl) ?_ ?_
        rotate_left
        · intro w' hS
          try dsimp only at hS
          subst hS
          go_simp
          try with_reducible rfl
        try simp only [Act.put, List.setIfInBounds_toArray, List.set_cons_zero, List.set_cons_succ, List.getElem_toArray, List.getElem_cons_zero, List.getElem_cons_succ]
      refine plan_nil ?_
      simp only [List.drop_succ_cons, List.drop_zero]
      go_upto_region 7 with fail
      obtain ⟨w7, hw7⟩ : ∃ w7, w7 = w6.setCell ⟨gp, i, none⟩ (.int .u32 ((y ^^^ (x ^^^ v) : Nat) : Int)) := ⟨_, rfl⟩
      have HO7 : Hid (OwnB (w.heap.size + 2) w7 (some ⟨g, 0, none⟩) n d ys (some ⟨gp, 0, none⟩) m dd ⟨B.rows, B.par.set i (y ^^^ (x ^^^ v)), B.lost⟩) := Lib.hid (by rw [hw7]; exact HO6.out.putPar i _ hyxv)
      have HK7 : Hid (Blk w7 O #[.slice (some ⟨g, 0, none⟩) n d, .slice (some ⟨gp, 0, none⟩) m dd, .int .i64 z]) := Lib.hid (by rw [hw7]; exact HK6.out.other _ (fun e => HOP.out e))
      have HR7 : Hid (Blk w7 (w.heap.size + 1) #[.slice none 0 0, .slice none 0 0, .int .i64 0]) := Lib.hid (by rw [hw7]; exact HR6.out.other _ (by have := HGP.out; omega))
      have HB7 : Hid (Below w.heap.size w w7) := Lib.hid (by rw [hw7]; exact HB6.out.setCell (p := ⟨gp, i, none⟩) (by show w.heap.size ≤ gp; have := HGP.out; omega) _)
      obtain ⟨g', gr', cr', he, hyj', _, _, _, _, _, _, hcg7, _, hcw7, hfw7⟩ := HO7.out.rowAt (j := j) hj (by show 0 < (B.rows.getD j []).length; rw [HLJ.out]; omega)
      injection he with he
      injection he with he
      subst he
      rw [HYJ.out] at hyj'
      injection hyj' with e1 e2 e3
      injection e1 with e1
      injection e1 with e1
      subst e1 e3
      have hcg8 : w7.cell? ⟨g, j, none⟩ = some (.slice (some ⟨gr, 0, none⟩) m cr) := by
        rw [← HLJ.out]; exact hcg7
      have hfw8 := hfw7 i
      have hcw8 := hcw7 i (by show i < (B.rows.getD j []).length; rw [HLJ.out]; exact hi)
      rw [← hw7]
      clear hw7 kc1 kc2 kcg kfp k6 HK6 HO6 HR6 HB6 hcg7 hcw7 hfw7 e2
      have k7 := HK7.out.c
      go_upto_region 8 with fail
      obtain ⟨w8, hw8⟩ : ∃ w8, w8 = w7.setCell ⟨gr, i, none⟩ (.int .u32 (v : Int)) := ⟨_, rfl⟩
      have HO8 : Hid (OwnB (w.heap.size + 2) w8 (some ⟨g, 0, none⟩) n d ys (some ⟨gp, 0, none⟩) m dd B') := Lib.hid (by
        have hh := HO7.out.putWord hj HYJ.out HLJ.out i v hv
        have e : B' = ⟨B.rows.set j ((B.rows.getD j []).set i v), B.par.set i (y ^^^ (x ^^^ v)), B.lost⟩ := by
          rw [HBP.out]
          unfold putB wordB
          simp only [Int.toNat_natCast]
          rw [← HX.out, ← HY.out]
        rw [e, hw8]
        exact hh)
      have HK8 : Hid (Blk w8 O #[.slice (some ⟨g, 0, none⟩) n d, .slice (some ⟨gp, 0, none⟩) m dd, .int .i64 z]) := Lib.hid (by rw [hw8]; exact HK7.out.other _ (fun e => HOR.out e))
      have HR8 : Hid (Blk w8 (w.heap.size + 1) #[.slice none 0 0, .slice none 0 0, .int .i64 0]) := Lib.hid (by rw [hw8]; exact HR7.out.other _ (by have := HGR.out; omega))
      have HB8 : Hid (Below w.heap.size w w8) := Lib.hid (by rw [hw8]; exact HB7.out.setCell (p := ⟨gr, i, none⟩) (by show w.heap.size ≤ gr; have := HGR.out; omega) _)
      have HLB : Hid (B'.lost = z) := Lib.hid (by rw [HBP.out]; unfold putB; exact HZ.out.symm)
      rw [← hw8]
      clear hw8 k7 HK7 HO7 HR7 HB7 hcg8 hcw8 hfw8
      have k8 := HK8.out.c
      have cR := HR8.out.c
      have fR := HR8.out.f
      have lR := HR8.out.lt
      go_wp2_with fail
      refine bodyPost_ret (v := .tuple #[.agg #[.slice (some ⟨g, 0, none⟩) n d, .slice (some ⟨gp, 0, none⟩) m dd, .int .i64 z], .int .i64 0]) (by simp [results, Try.results10, go_sem, *]) rfl ⟨_, d, ys, _, dd, by rw [HLB.out], res3_own HO8.out _ _ _, res3_below HB8.out _ _ _⟩
    · have hz0' : (z != 0) = true := by simpa using hz0
      have hB : B' = B := by rw [HB'.out]; unfold writeB; rw [← HR.out, if_pos rfl, if_neg (by rw [← HZ.out]; exact hz0)]
      have hE : E = 8 := by rw [HE.out]; unfold writeE; rw [← HR.out, if_pos rfl, if_neg (by rw [← HZ.out]; exact hz0)]
      subst hB hE
      clear hz0
      go_wp2_with fail
      refine bodyPost_ret (v := .tuple #[.agg #[.slice q n d, .slice qq m dd, .int .i64 z], .int .i64 8]) (by simp [results, Try.results10, go_sem, *]) rfl ⟨q, d, ys, qq, dd, by rw [HZ.out], res3_own HO3.out _ _ _, res3_below HB3.out _ _ _⟩
end Go.Proofs.Ytkeemmedbbammaa
