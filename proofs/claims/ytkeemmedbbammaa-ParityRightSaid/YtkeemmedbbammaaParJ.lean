/- What Lose answers; no condition but that the banks read. -/
import Derived.Test.YtkeemmedbbammaaParI
namespace Go.Proofs.Ytkeemmedbbammaa
set_option linter.unusedVariables false
open Go.ChangeShapes Go.WideShapes Go.ChangeAt Go.RowKit

def setL (xs : List Value) : Nat → List Value → List Value
  | _, [] => xs
  | o, v :: vs => setL (xs.set o v) (o + 1) vs
def setN (l : List Nat) : Nat → Nat → List Nat
  | _, 0 => l
  | o, k + 1 => setN (l.set o 0) (o + 1) k
theorem setN_len (l : List Nat) (o k : Nat) : (setN l o k).length = l.length := by
  induction k generalizing l o with
  | zero => rfl
  | succ k ih => show (setN (l.set o 0) (o + 1) k).length = _; rw [ih, List.length_set]
theorem setN_at (l : List Nat) (o k j : Nat) (h : o + k ≤ l.length) : (setN l o k).getD j 0 = if o ≤ j ∧ j < o + k then 0 else l.getD j 0 := by
  induction k generalizing l o with
  | zero => rw [if_neg (by omega)]; rfl
  | succ k ih =>
    show (setN (l.set o 0) (o + 1) k).getD j 0 = _
    rw [ih _ _ (by rw [List.length_set]; omega), getD_set l 0 0 o j (by omega)]
    by_cases h1 : o + 1 ≤ j ∧ j < o + 1 + k
    · rw [if_pos h1, if_pos (by omega)]
    · rw [if_neg h1]
      by_cases h2 : j = o
      · rw [if_pos h2, if_pos (by omega)]
      · rw [if_neg h2, if_neg (by omega)]
theorem setL_u32 (l : List Nat) (o k : Nat) : setL (u32C l) o (List.replicate k (.int .u32 0)) = u32C (setN l o k) := by
  induction k generalizing l o with
  | zero => rfl
  | succ k ih =>
    show setL ((u32C l).set o (.int .u32 ((0 : Nat) : Int))) (o + 1) (List.replicate k (.int .u32 0)) = _
    rw [u32C_set, ih]; rfl
theorem setN_all (l : List Nat) (m : Nat) (h : l.length = m) : setN l 0 m = List.replicate m 0 := by
  refine ext_getD (by rw [setN_len, List.length_replicate, h]) fun k hk => ?_
  rw [setN_len] at hk
  rw [setN_at _ _ _ _ (by omega), if_pos (by omega), getD_rep0]
theorem grown_trans {w w1 w2 : World} {row : Option Nat} (h : w.grownBy w1 row) (h2 : w1.grownBy w2 row) : w.grownBy w2 row :=
  ⟨h2.os.trans h.os, h2.tape.trans h.tape, h2.output.trans h.output, Nat.le_trans h.size h2.size, fun k hk hr => (h2.block k (Nat.lt_of_lt_of_le hk h.size) hr).trans (h.block k hk hr)⟩
theorem own_cells {w : World} {base : Nat} {g n cap : Nat} {xs : List Value} (vs : List Value) (o : Nat) (h : w.ownsRow base 26 1 (.slice (some ⟨g, 0, none⟩) n cap) n xs) :
    (w.setCells g o vs).ownsRow base 26 1 (.slice (some ⟨g, 0, none⟩) n cap) n (setL xs o vs) ∧ w.grownBy (w.setCells g o vs) (some g) := by
  induction vs generalizing w o xs with
  | nil => exact ⟨h, rfl, rfl, rfl, Nat.le_refl _, fun _ _ _ => rfl⟩
  | cons v vs ih =>
    have hs := h.stored o v
    have h2 := ih (o + 1) hs.1
    exact ⟨h2.1, grown_trans hs.2 h2.2⟩
theorem OwnB.zeroRow {base : Nat} {w : World} {p : Option Addr} {n c : Nat} {ys : List Value} {pp : Option Addr} {m cc : Nat} {B : Bk} (h : OwnB base w p n c ys pp m cc B) {j gr x cr : Nat} (hj : j < n) (hv : ys.getD j vz = .slice (some ⟨gr, 0, none⟩) x cr) (hl : (B.rows.getD j []).length = x) :
    OwnB base (w.setCells gr 0 (List.replicate x (.int .u32 0))) p n c ys pp m cc ⟨B.rows.set j (List.replicate x 0), B.par, B.lost⟩ ∧ w.grownBy (w.setCells gr 0 (List.replicate x (.int .u32 0))) (some gr) := by
  have hjl : j < B.rows.length := by rw [h.zn]; exact hj
  have hfr := h.own.fr j hjl
  rw [hv, hl] at hfr
  have hs := own_cells (List.replicate x (.int .u32 0)) 0 hfr
  rw [setL_u32, setN_all _ _ hl] at hs
  exact ⟨h.writeRow hj hv hs.2 hs.1 (by simp) (by rw [← hl]; exact h.l100 _ (mem_getD B.rows [] j hjl)) (rep_lt x), hs.2⟩
/-- All of them lie ahead of a block. -/
structure Under (O : Nat) (p : Option Addr) (n c : Nat) (ys : List Value) (pp : Option Addr) (m cc : Nat) : Prop where
  head : ∀ g, (Value.slice p n c).ownBlock = some g → g < O
  rows : ∀ j, j < n → ∀ g, (ys.getD j vz).ownBlock = some g → g < O
  par : ∀ g, (Value.slice pp m cc).ownBlock = some g → g < O
theorem OwnB.under {base : Nat} {w : World} {p : Option Addr} {n c : Nat} {ys : List Value} {pp : Option Addr} {m cc : Nat} {B : Bk} (h : OwnB base w p n c ys pp m cc B) : Under w.heap.size p n c ys pp m cc :=
  ⟨fun g e => (h.own.row.lt g e).2, fun j hj g e => ((h.own.fr j (by rw [h.zn]; exact hj)).lt g e).2, fun g e => (h.par.lt g e).2⟩
theorem OwnB.setOver {base : Nat} {w : World} {p : Option Addr} {n c : Nat} {ys : List Value} {pp : Option Addr} {m cc : Nat} {B : Bk} (h : OwnB base w p n c ys pp m cc B) {O : Nat} (hu : Under O p n c ys pp m cc) (j : Nat) (u : Value) : OwnB base (w.setCell ⟨O, j, none⟩ u) p n c ys pp m cc B :=
  ⟨h.zn, h.own.off (fun g e => by have := hu.head g e; omega) (fun k hk g e => by have := hu.rows k (by rw [← h.zn]; exact hk) g e; omega) j u, h.zm, own_off h.par (fun g e => by have := hu.par g e; omega) j u, h.plt, h.rlt, h.n100, h.l100, h.m100, h.sep1, h.sep2⟩
theorem zero26 : ∀ w, (zeroValue 26).run Try.prog w = .ok (.int .u32 0) w := by
  obtain ⟨i0, hi, hz0, hz1, hz2⟩ := info_parts info26
  intro w
  simp [zeroValue, typeInfo, hi, hz0]

set_option maxHeartbeats 4000000 in
theorem lose_any (p : Option Addr) (n c : Nat) (xs : List Value) (pp : Option Addr) (m cc : Nat) (B : Bk) (k : Int) (w : World) (h : Bn w p n c xs pp m cc B) :
    Calls Try.prog 13 #[.agg #[.slice p n c, .slice pp m cc, .int .i64 B.lost], .int .i64 k] w fun e w' => Back w w' e n m (loseB B k) (loseE B k) := by
  have hcp := fun w' hb => copied_any p n c xs pp m cc B w' (h.below hb)
  obtain ⟨z, hz⟩ : ∃ z, z = B.lost := ⟨_, rfl⟩
  obtain ⟨r, hr⟩ : ∃ r, r = hasB B k := ⟨_, rfl⟩
  rw [← hz] at hcp ⊢
  have HCP := Lib.hid hcp
  have HZ := Lib.hid hz
  have HR := Lib.hid hr
  have HH := Lib.hid h
  obtain ⟨B', hB'⟩ : ∃ B', B' = loseB B k := ⟨_, rfl⟩
  obtain ⟨E, hE⟩ : ∃ E, E = loseE B k := ⟨_, rfl⟩
  rw [← hB', ← hE]
  have HB' := Lib.hid hB'
  have HE := Lib.hid hE
  clear h hcp hz hr hB' hE
  go_enter Try.func13, Try.ntmps13
  go_wp2_with fail
  have HBA : Hid (Below w.heap.size w ((w.alloc (.cells #[.slice p n c, .slice pp m cc, .int .i64 z] 25)).alloc (.cells #[.slice none 0 0, .slice none 0 0, .int .i64 0] 25))) := Lib.hid (((Below.refl _ _).alloc (Nat.le_refl _) _).alloc (by simp) _)
  refine (HCP.out _ HBA.out).mono ?_
  rintro e w1 ⟨q, d, ys, qq, dd, rfl, ho, hb1⟩
  have HB1 : Hid (Below w.heap.size w w1) := Lib.hid (HBA.out.trans (hb1.mono HBA.out.size))
  have HRES : Hid (Blk w1 (w.heap.size + 1) #[.slice none 0 0, .slice none 0 0, .int .i64 0]) := Lib.hid (by simpa using Blk.track1 hb1)
  have HO : Hid (OwnB (w.heap.size + 2) w1 q n d ys qq m dd B) := Lib.hid (by simpa using ho)
  clear hb1 ho HBA HCP
  go_wp2_with fail
  have HKO : Hid (Blk (w1.alloc (.cells #[.slice q n d, .slice qq m dd, .int .i64 z] 25)) w1.heap.size #[.slice q n d, .slice qq m dd, .int .i64 z]) := Lib.hid (Blk.new _ _ _)
  have HOA := Lib.hid (HO.out.below ((Below.refl _ _).alloc (Nat.le_refl _) (.cells #[.slice q n d, .slice qq m dd, .int .i64 z] 25)))
  have HRA := Lib.hid (HRES.out.alloc (.cells #[.slice q n d, .slice qq m dd, .int .i64 z] 25))
  have HBA : Hid (Below w.heap.size w (w1.alloc (.cells #[.slice q n d, .slice qq m dd, .int .i64 z] 25))) := Lib.hid (HB1.out.alloc HB1.out.size _)
  have HNE : Hid (w.heap.size + 2 ≤ w1.heap.size) := Lib.hid (by have := HRES.out.lt; omega)
  have HUN : Hid (Under w1.heap.size q n d ys qq m dd) := Lib.hid HO.out.under
  have HOL : Hid (∀ j, j < n → ∀ g, (ys.getD j vz).ownBlock = some g → g < w1.heap.size) := Lib.hid (fun j hj g e => ((HO.out.own.fr j (by rw [HO.out.zn]; exact hj)).lt g e).2)
  obtain ⟨O, hO⟩ : ∃ O, O = w1.heap.size := ⟨_, rfl⟩
  obtain ⟨w2, hw2⟩ : ∃ w2, w2 = w1.alloc (.cells #[.slice q n d, .slice qq m dd, .int .i64 z] 25) := ⟨_, rfl⟩
  rw [← hw2] at HKO HOA HRA HBA ⊢
  rw [← hO] at HKO HNE HOL HUN ⊢
  clear hO hw2 HO HRES HB1
  have hhw := hasbank_any q n d ys qq m dd B k w2 HOA.out.bn
  rw [← HR.out, ← HZ.out] at hhw
  refine hhw.mono ?_
  clear hhw
  rintro e w3 ⟨rfl, hb3⟩
  have HK3 := Lib.hid (HKO.out.below hb3)
  have HO3 := Lib.hid (HOA.out.below hb3)
  have HR3 := Lib.hid (HRA.out.below hb3)
  have HB3 : Hid (Below w.heap.size w w3) := Lib.hid (HBA.out.trans (hb3.mono HBA.out.size))
  clear hb3 HKO HOA HRA HBA
  have cK := HK3.out.c
  have cR := HR3.out.c
  have fR := HR3.out.f
  have lR := HR3.out.lt
  cases r with
  | false =>
    have hB : B' = B := by rw [HB'.out]; unfold loseB; rw [← HR.out]; rfl
    have hE : E = 1 := by rw [HE.out]; unfold loseE; rw [← HR.out]; rfl
    subst hB hE
    go_wp2_with fail
    refine bodyPost_ret (v := .tuple #[.agg #[.slice q n d, .slice qq m dd, .int .i64 z], .int .i64 1]) (by simp [results, Try.results13, go_sem, *]) rfl ⟨q, d, ys, qq, dd, by rw [HZ.out], res3_own HO3.out _ _ _, res3_below HB3.out _ _ _⟩
  | true =>
    by_cases hz0 : z = 0
    · have hw := hasB_inv HR.out.symm
      obtain ⟨hright, hk0, hk1⟩ := hw
      have hri := right_inv hright
      rw [HH.out.zn] at hk1
      have hall : allB B.rows m = true := by rw [← HH.out.zm]; exact hri.2.2.2.2.1
      have hm1 : 1 ≤ m := by rw [← HH.out.zm]; exact hri.2.2.1
      obtain ⟨j, rfl⟩ := Int.eq_ofNat_of_zero_le hk0
      have hj : j < n := by omega
      have hB : B' = ⟨B.rows.set j (List.replicate m 0), B.par, (j : Int) + 1⟩ := by rw [HB'.out]; unfold loseB; rw [← HR.out, if_pos rfl, if_pos (by rw [← HZ.out]; exact hz0), HH.out.zm]; simp only [Int.toNat_natCast]
      have hE : E = 0 := by rw [HE.out]; unfold loseE; rw [← HR.out, if_pos rfl, if_pos (by rw [← HZ.out]; exact hz0)]
      subst hE
      have hm := HH.out.m100
      have hn := HH.out.n100
      have hlj : (B.rows.getD j []).length = m := all_at hall j (by rw [HH.out.zn]; exact hj)
      obtain ⟨g, gr, cr, rfl, hyj, hg0, hg1, hgr0, hgr1, hcr, hnd, hcg, hfg, hcw, hfw⟩ := HO3.out.rowAt hj (by rw [hlj]; omega)
      rw [hlj] at hyj hcr hcg hcw
      have HBP := Lib.hid hB
      have HYJ := Lib.hid hyj
      have HLJ := Lib.hid hlj
      have hz0' : (z != 0) = false := by simp; exact hz0
      have hjI : (0 : Int) ≤ (j : Int) := by omega
      have hjI2 : (j : Int) < (n : Int) := by omega
      have HGR := Lib.hid hgr0
      have HOR : Hid (gr ≠ O) := Lib.hid (fun e => Nat.lt_irrefl _ (e ▸ HOL.out j hj gr (by rw [HYJ.out]; rfl)))
      have hcl : ∀ ty, (Builtin.clear_ #[23] ty #[.slice (some ⟨gr, 0, none⟩) m cr]).run Try.prog w3 = .ok (.tuple #[]) (w3.setCells gr 0 (List.replicate m (.int .u32 0))) :=
        fun ty => Lib.run_clear_slice w3 _ _ ty _ Try.underlying23 zero26 rfl rfl gr 0 m cr (by omega) (fun t ht => by rw [Nat.zero_add, hcw t ht]; rfl) (fun t _ => by rw [Nat.zero_add]; exact hfw t)
      have hzr := HO3.out.zeroRow hj HYJ.out HLJ.out
      clear hright hri hall hk0 hk1 hB hyj hlj hz0 hgr0 hg0 hg1 hgr1 hcw hfw
      have wj : IntKind.i64.wrap ((j : Int) + 1) = (j : Int) + 1 := by rw [IntKind.wrap_i64]; omega
      go_upto_region 7 with fail
      obtain ⟨w7, hw7⟩ : ∃ w7, w7 = w3.setCells gr 0 (List.replicate m (.int .u32 0)) := ⟨_, rfl⟩
      rw [← hw7] at hzr ⊢
      have HO7 := Lib.hid hzr.1
      have HK7 : Hid (Blk w7 O #[.slice (some ⟨g, 0, none⟩) n d, .slice qq m dd, .int .i64 z]) := Lib.hid (HK3.out.grown hzr.2 (fun e => HOR.out (by injection e)))
      have HR7 : Hid (Blk w7 (w.heap.size + 1) #[.slice none 0 0, .slice none 0 0, .int .i64 0]) := Lib.hid (HR3.out.grown hzr.2 (fun e => by injection e with e; have := HGR.out; omega))
      have HB7 : Hid (Below w.heap.size w w7) := Lib.hid (HB3.out.grown hzr.2 HB3.out.size (fun k e => by injection e with e; have := HGR.out; omega))
      clear hzr hw7 hcl cK cR fR lR hcg hfg HK3 HO3 HR3 HB3
      have cK := HK7.out.c
      have fK := HK7.out.f
      have lK := HK7.out.lt
      go_upto_region 8 with fail
      obtain ⟨w8, hw8⟩ : ∃ w8, w8 = w7.setCell ⟨O, 2, none⟩ (.int .i64 ((j : Int) + 1)) := ⟨_, rfl⟩
      have HO8 : Hid (OwnB (w.heap.size + 2) w8 (some ⟨g, 0, none⟩) n d ys qq m dd B') := Lib.hid (by
        rw [hw8, HBP.out]
        exact (HO7.out.setOver HUN.out 2 _).lost _)
      have HK8 : Hid (Blk w8 O #[.slice (some ⟨g, 0, none⟩) n d, .slice qq m dd, .int .i64 ((j : Int) + 1)]) := Lib.hid (by rw [hw8]; exact HK7.out.set (n := 2) _ (by simp))
      have HR8 : Hid (Blk w8 (w.heap.size + 1) #[.slice none 0 0, .slice none 0 0, .int .i64 0]) := Lib.hid (by rw [hw8]; exact HR7.out.other _ (by have := HNE.out; omega))
      have HB8 : Hid (Below w.heap.size w w8) := Lib.hid (by rw [hw8]; exact HB7.out.setCell (p := ⟨O, 2, none⟩) (by show w.heap.size ≤ O; have := HNE.out; omega) _)
      have HLB : Hid (B'.lost = (j : Int) + 1) := Lib.hid (by rw [HBP.out])
      rw [← hw8]
      clear hw8 cK fK lK HK7 HO7 HR7 HB7
      have k8 := HK8.out.c
      have cR := HR8.out.c
      have fR := HR8.out.f
      have lR := HR8.out.lt
      go_wp2_with fail
      refine bodyPost_ret (v := .tuple #[.agg #[.slice (some ⟨g, 0, none⟩) n d, .slice qq m dd, .int .i64 ((j : Int) + 1)], .int .i64 0]) (by simp [results, Try.results13, go_sem, *]) rfl ⟨_, d, ys, _, dd, by rw [HLB.out], res3_own HO8.out _ _ _, res3_below HB8.out _ _ _⟩
    · have hz0' : (z != 0) = true := by simpa using hz0
      have hB : B' = B := by rw [HB'.out]; unfold loseB; rw [← HR.out, if_pos rfl, if_neg (by rw [← HZ.out]; exact hz0)]
      have hE : E = 8 := by rw [HE.out]; unfold loseE; rw [← HR.out, if_pos rfl, if_neg (by rw [← HZ.out]; exact hz0)]
      subst hB hE
      clear hz0
      go_wp2_with fail
      refine bodyPost_ret (v := .tuple #[.agg #[.slice q n d, .slice qq m dd, .int .i64 z], .int .i64 8]) (by simp [results, Try.results13, go_sem, *]) rfl ⟨q, d, ys, qq, dd, by rw [HZ.out], res3_own HO3.out _ _ _, res3_below HB3.out _ _ _⟩
end Go.Proofs.Ytkeemmedbbammaa
