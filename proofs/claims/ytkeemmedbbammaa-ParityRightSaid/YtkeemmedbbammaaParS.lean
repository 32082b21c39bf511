/- The document's own Rebuild; no condition but that the banks read. -/
import Derived.Test.YtkeemmedbbammaaParR
namespace Go.Proofs.Ytkeemmedbbammaa
set_option linter.unusedVariables false
open Go.ChangeShapes Go.WideShapes Go.ChangeAt Go.RowKit

def lostL (B : Bk) (k : Nat) (j : Nat) : List Nat := (List.range j).map fun a => B.par.getD a 0 ^^^ colX B.rows a (k : Int)
theorem lostL_len (B : Bk) (k j : Nat) : (lostL B k j).length = j := by unfold lostL; simp
theorem lostL_succ (B : Bk) (k j : Nat) : lostL B k (j + 1) = lostL B k j ++ [B.par.getD j 0 ^^^ colX B.rows j (k : Int)] := by unfold lostL; rw [List.range_succ, List.map_append]; rfl
theorem lostL_back {B : Bk} {k : Nat} (hr : rightB B = true) (hk : B.lost = (k : Int) + 1) : lostL B k B.par.length = backL B := by
  have hkl : k < B.rows.length := by have := right_inv hr; omega
  unfold lostL backL
  refine List.map_congr_left fun a ha => ?_
  have hz := fine_zero hr (by omega) a
  rw [show (B.lost - 1).toNat = k by omega] at hz
  rw [colX_but B.rows a k hkl, hz, Nat.xor_zero]
theorem blk_sl {w : World} {B n : Nat} {l : List Value} (h : Blk w B l.toArray) : Sl w (some ⟨B, 0, none⟩) n l := fun _ => ⟨B, 0, h.lt, rfl, fun j hj => by rw [Nat.zero_add, h.c]; simp⟩

set_option maxHeartbeats 8000000 in
theorem rrebuild_any (p : Option Addr) (n c : Nat) (xs : List Value) (pp : Option Addr) (m cc : Nat) (B : Bk) (w : World) (h : Bn w p n c xs pp m cc B) :
    Calls Try.prog 16 #[.agg #[.slice p n c, .slice pp m cc, .int .i64 B.lost]] w fun e w' => ROut w w' (fun R => Off R p xs B.rows pp B.par) e (rebuildB B) (rebuildE B) := by
  have hri := fun w' hb => rright_any p n c xs pp m cc B w' (h.below hb)
  obtain ⟨z, hz⟩ : ∃ z, z = B.lost := ⟨_, rfl⟩
  obtain ⟨r, hr⟩ : ∃ r, r = rightB B := ⟨_, rfl⟩
  rw [← hr, ← hz] at hri
  rw [← hz]
  have HRI := Lib.hid hri
  have HZ := Lib.hid hz
  have HR := Lib.hid hr
  have HH := Lib.hid h
  obtain ⟨B', hB'⟩ : ∃ B', B' = rebuildB B := ⟨_, rfl⟩
  obtain ⟨E, hE⟩ : ∃ E, E = rebuildE B := ⟨_, rfl⟩
  rw [← hB', ← hE]
  have HB' := Lib.hid hB'
  have HE := Lib.hid hE
  have hm := h.m100
  have hn := h.n100
  obtain ⟨i6, hi6, hz60, hz61, hz62⟩ := info_parts info26
  have HI6 := Lib.hid (And.intro hi6 (And.intro hz60 (And.intro hz61 hz62)))
  clear h hri hz hr hB' hE hi6 hz60 hz61 hz62
  go_enter Try.func16, Try.ntmps16
  have HBA : Hid (Below w.heap.size w ((w.alloc (.cells #[.slice p n c, .slice pp m cc, .int .i64 z] 25)).alloc (.cells #[.slice none 0 0, .slice none 0 0, .int .i64 0] 25))) := Lib.hid (((Below.refl _ _).alloc (Nat.le_refl _) _).alloc (by simp) _)
  go_wp2_with fail
  refine (HRI.out _ HBA.out).mono ?_
  rintro e w1 ⟨rfl, hb1⟩
  have HK1 : Hid (Blk w1 w.heap.size #[.slice p n c, .slice pp m cc, .int .i64 z]) := Lib.hid (Blk.track2 hb1)
  have HR1 : Hid (Blk w1 (w.heap.size + 1) #[.slice none 0 0, .slice none 0 0, .int .i64 0]) := Lib.hid (by simpa using Blk.track1 hb1)
  have HB1 : Hid (Below w.heap.size w w1) := Lib.hid (HBA.out.trans (hb1.mono HBA.out.size))
  have HH1 := Lib.hid (HH.out.below HB1.out)
  clear hb1 HBA HRI
  have cK := HK1.out.c
  have cR := HR1.out.c
  have fR := HR1.out.f
  have lR := HR1.out.lt
  have HOR : Hid (Off (w.heap.size + 1) p xs B.rows pp B.par) := Lib.hid (HH.out.off (by omega))
  have HOK : Hid (Off w.heap.size p xs B.rows pp B.par) := Lib.hid (HH.out.off (Nat.le_refl _))
  cases r with
  | false =>
    have hB : B' = B := by rw [HB'.out]; unfold rebuildB; rw [← HR.out]; rfl
    have hE : E = 1 := by rw [HE.out]; unfold rebuildE; rw [← HR.out]; rfl
    subst hB hE
    go_wp2_with fail
    refine bodyPost_ret (v := .tuple #[.agg #[.slice p n c, .slice pp m cc, .int .i64 z], .int .i64 1]) (by simp [results, Try.results16, go_sem, *]) rfl ⟨p, n, c, xs, pp, m, cc, by rw [HZ.out], HH1.out.set3 HOR.out _ _ _, set3_below HB1.out (by omega) _ _ _, fun R _ h => h⟩
  | true =>
    by_cases hz0 : z = 0
    · have hz0' : (z == 0) = true := by simpa using hz0
      have hB : B' = B := by rw [HB'.out]; unfold rebuildB; rw [← HR.out, if_pos rfl, if_pos (by rw [← HZ.out]; exact hz0)]
      have hE : E = 8 := by rw [HE.out]; unfold rebuildE; rw [← HR.out, if_pos rfl, if_pos (by rw [← HZ.out]; exact hz0)]
      subst hB hE
      clear hz0
      go_wp2_with fail
      refine bodyPost_ret (v := .tuple #[.agg #[.slice p n c, .slice pp m cc, .int .i64 z], .int .i64 8]) (by simp [results, Try.results16, go_sem, *]) rfl ⟨p, n, c, xs, pp, m, cc, by rw [HZ.out], HH1.out.set3 HOR.out _ _ _, set3_below HB1.out (by omega) _ _ _, fun R _ h => h⟩
    · have hri := right_inv HR.out.symm
      have hbk : ∀ k : Nat, z = (k : Int) + 1 → lostL B k m = backL B := fun k e => by rw [← HH.out.zm]; exact lostL_back HR.out.symm (by rw [← HZ.out]; exact e)
      rw [HH.out.zn, HH.out.zm, ← HZ.out] at hri
      obtain ⟨k, hk⟩ : ∃ k : Nat, z = (k : Int) + 1 := ⟨(z - 1).toNat, by omega⟩
      have hbk2 := hbk k hk
      subst hk
      have hkn : k < n := by omega
      have HALL : Hid (allB B.rows m = true) := Lib.hid hri.2.2.2.2.1
      have hm1 : 1 ≤ m := hri.2.2.1
      have hB : B' = ⟨B.rows.set k (lostL B k m), B.par, 0⟩ := by
        rw [HB'.out, hbk2]; unfold rebuildB
        rw [← HR.out, if_pos rfl, if_neg (by rw [← HZ.out]; omega), ← HZ.out]
        congr 2
        omega
      have hE : E = 0 := by rw [HE.out]; unfold rebuildE; rw [← HR.out, if_pos rfl, if_neg (by rw [← HZ.out]; omega)]
      subst hE
      have hz0' : ((k : Int) + 1 == 0) = false := by simp; omega
      have e4 : (k : Int) + 1 - 1 = (k : Int) := by omega
      have wk : IntKind.i64.wrap (k : Int) = (k : Int) := by rw [IntKind.wrap_i64]; omega
      have HBP := Lib.hid hB
      have HN1 : Hid (w.heap.size + 2 ≤ w1.heap.size) := Lib.hid (by have := HR1.out.lt; omega)
      clear hri hbk hbk2 hB hz0
      go_upto_region 6 with fail
      go_wp2_with fail
      clear cK cR fR lR
      go_loopw [4, 5] (fun s t wr => ∃ j : Nat, j ≤ m ∧ t = .int .i64 j ∧ wr.ownsRow w1.heap.size 26 1 s j (u32C (lostL B k j)) ∧ Blk wr w.heap.size #[.slice p n c, .slice pp m cc, .int .i64 ((k : Int) + 1)] ∧ Blk wr (w.heap.size + 1) #[.slice none 0 0, .slice none 0 0, .int .i64 0] ∧ w1.heap.size ≤ wr.heap.size ∧ Below w.heap.size w wr) (fun _ t _ => m - (intOf t).toNat)
      case atStart => exact ⟨0, Nat.zero_le _, rfl, World.ownsRow_nil _ _ _ _, HK1.out, HR1.out, Nat.le_refl _, HB1.out⟩
      case round =>
        obtain ⟨j, hj, rfl, ho, hkk, hrr, hws, hb⟩ := hrel
        have HO := Lib.hid ho
        have HK := Lib.hid hkk
        have HRR := Lib.hid hrr
        have HWS := Lib.hid hws
        have HB := Lib.hid hb
        obtain ⟨pv, cv, rfl, hcv⟩ := own_cap ho
        have HCV := Lib.hid hcv
        clear ho hkk hrr hws hb HK1 HR1 HB1 HH1 hcv
        have cK := HK.out.c
        by_cases hlt : j < m
        · have hltI : decide ((j : Int) < m) = true := decide_eq_true (by omega)
          have hjI : (0 : Int) ≤ (j : Int) := by omega
          have hjI2 : (j : Int) < (m : Int) := by omega
          have HHR := Lib.hid (HH.out.below HB.out)
          obtain ⟨b2, off2, hb2, hq, hc2⟩ := HHR.out.nm.cellAt j (by rw [HH.out.zm]; exact hlt)
          subst hq
          have HC2 := Lib.hid hc2
          have HB2L := Lib.hid hb2
          have hcol := fun W hb => column_any p n c m j (k : Int) xs B.rows W HH.out.zn ((HHR.out.rw_.below hb)) HALL.out hlt
          have hp32 := HHR.out.nm.getD_lt j
          have hc32 := colK_lt B.rows j (k : Int) HHR.out.rw_.lt B.rows.length (Nat.le_refl _)
          have hsucc := lostL_succ B k j
          obtain ⟨x, hx⟩ : ∃ x, x = B.par.getD j 0 := ⟨_, rfl⟩
          obtain ⟨y, hy⟩ : ∃ y, y = colX B.rows j (k : Int) := ⟨_, rfl⟩
          have hy' : colK B.rows j (k : Int) B.rows.length = y := by rw [hy]; rfl
          rw [hy'] at hc32
          rw [← hx, ← hy] at hsucc
          rw [← hx] at hp32 HC2
          rw [← hy] at hcol
          have HCOL := Lib.hid hcol
          have HSU := Lib.hid hsucc
          have hxor : bits .xor .u32 (x : Int) (y : Int) = ((x ^^^ y : Nat) : Int) := u32_xor_nat x y (by omega) (by omega)
          clear hcol hsucc hx hy hy' hb2 hc2
          go_upto_region 9 with fail
          refine region_plan (fun w' : World => ((∀ j, w'.cell? ⟨w.heap.size, j, none⟩ = (#[.slice p n c, .slice (some ⟨b2, off2, none⟩) m cc, .int .i64 ((k : Int) + 1)] : Array Value)[j]?) ∧ w'.cell? ⟨b2, off2 + j, none⟩ = some (.int .u32 (x : Int))) ∧ Below wr.heap.size wr w') 15 [(0, true), (1, true), (2, true), (3, true), (4, true), (5, true), (6, true), (7, true), (8, true), (9, true), (10, true), (11, true), (12, false), (13, true), (14, false)] (by kernel_rfl) (by kernel_rfl) ⟨⟨HK.out.drew.c, HC2.out⟩, (Below.refl _ _).drew⟩ ?_
          iterate 12
            refine plan_read (v := ?_) rfl (by rfl) ?_ ?_
            rotate_left
            · intro w' hS
              try dsimp only at hS
              obtain ⟨⟨hS1, hS2⟩, hS3⟩ := hS
              go_simp
              try with_reducible rfl
            try simp only [Act.put, List.setIfInBounds_toArray, List.set_cons_zero, List.set_cons_succ, List.getElem_toArray, List.getElem_cons_zero, List.getElem_cons_succ]
          refine plan_call (F := 25) (args := ?_) rfl (by rfl) ?_ ?_
          rotate_left
          · go_simp
            rfl
          refine (HCOL.out wr.drew ((Below.refl _ _).drew)).mono ?_
          rintro e w2 ⟨rfl, rfl⟩
          refine ⟨_, rfl, ⟨⟨HK.out.drew.c, HC2.out⟩, (Below.refl _ _).drew⟩, ?_⟩
          try simp only [Act.put, List.setIfInBounds_toArray, List.set_cons_zero, List.set_cons_succ, List.getElem_toArray, List.getElem_cons_zero, List.getElem_cons_succ]
          refine plan_read (v := .int .u32 ((x ^^^ y : Nat) : Int)) rfl (by rfl) (fun w' hS => by go_simp) ?_
          try simp only [Act.put, List.setIfInBounds_toArray, List.set_cons_zero, List.set_cons_succ, List.getElem_toArray, List.getElem_cons_zero, List.getElem_cons_succ]
          have HBA : Hid (Below wr.heap.size wr (wr.drew.alloc (.cells #[.int .u32 ((x ^^^ y : Nat) : Int)] 26))) := Lib.hid ((Below.refl _ _).drew.alloc (Nat.le_refl _) _)
          refine plan_make (v := .slice (some ⟨wr.heap.size, 0, none⟩) 1 1) (w1 := wr.drew.alloc (.cells #[.int .u32 ((x ^^^ y : Nat) : Int)] 26)) rfl (by rfl) (by go_simp) ⟨⟨(HK.out.below HBA.out).c, (HBA.out.cell (p := ⟨b2, off2 + j, none⟩) HB2L.out).trans HC2.out⟩, HBA.out⟩ ?_
          try simp only [Act.put, List.setIfInBounds_toArray, List.set_cons_zero, List.set_cons_succ, List.getElem_toArray, List.getElem_cons_zero, List.getElem_cons_succ]
          refine plan_nil ?_
          simp only [List.drop_succ_cons, List.drop_zero]
          have HNW : Hid (Blk (wr.drew.alloc (.cells #[.int .u32 ((x ^^^ y : Nat) : Int)] 26)) wr.heap.size [Value.int .u32 ((x ^^^ y : Nat) : Int)].toArray) := Lib.hid (Blk.new wr.drew _ _)
          have HK6 := Lib.hid (HK.out.below HBA.out)
          have HR6 := Lib.hid (HRR.out.below HBA.out)
          have HO6 := Lib.hid (own_below HO.out HBA.out)
          have HB6 : Hid (Below w.heap.size w (wr.drew.alloc (.cells #[.int .u32 ((x ^^^ y : Nat) : Int)] 26))) := Lib.hid (HB.out.trans (HBA.out.mono HB.out.size))
          have HS6 : Hid (w1.heap.size ≤ (wr.drew.alloc (.cells #[.int .u32 ((x ^^^ y : Nat) : Int)] 26)).heap.size) := Lib.hid (Nat.le_trans HWS.out HBA.out.size)
          obtain ⟨w6, hw6⟩ : ∃ w6, w6 = wr.drew.alloc (.cells #[.int .u32 ((x ^^^ y : Nat) : Int)] 26) := ⟨_, rfl⟩
          rw [← hw6] at HNW HK6 HR6 HO6 HB6 HS6 ⊢
          clear hw6 HBA HK HRR HO HB cK HHR HC2
          go_wp2_with (first | (at_builtin; refine wpList_append_sl rfl _ _ 23 rfl w1.heap.size 26 i6 (.int .u32 0) 1 4 Try.underlying23 HI6.out.1 HI6.out.2.1 HI6.out.2.2.1 HI6.out.2.2.2 rfl (by decide) _ j (u32C (lostL B k j)) rfl HO6.out (some ⟨wr.heap.size, 0, none⟩) 1 1 [.int .u32 ((x ^^^ y : Nat) : Int)] rfl rfl (blk_sl HNW.out) (by intro u hu; rw [List.mem_singleton.1 hu]; rfl) (by unfold maxLen; omega) (by omega) HS6.out ?_))
          intro v7 w7 g1 g2 g3
          have hob : ∀ g, (Value.slice pv j cv).ownBlock = some g → w1.heap.size ≤ g := fun g e => (HO6.out.lt g e).1
          have HO7 : Hid (w7.ownsRow w1.heap.size 26 1 v7 (j + 1) (u32C (lostL B k (j + 1)))) := Lib.hid (by
            rw [HSU.out, ← u32C_app]
            exact g1)
          have HK7 := Lib.hid (HK6.out.grown g2 (fun e => by have := hob _ e; have := HN1.out; omega))
          have HR7 := Lib.hid (HR6.out.grown g2 (fun e => by have := hob _ e; have := HN1.out; omega))
          have HB7 : Hid (Below w.heap.size w w7) := Lib.hid (HB6.out.grown g2 HB6.out.size (fun g e => by have := hob g e; have := HN1.out; omega))
          have HS7 : Hid (w1.heap.size ≤ w7.heap.size) := Lib.hid (Nat.le_trans HS6.out g2.size)
          obtain ⟨p7, c7, rfl, _⟩ := own_cap g1
          clear g1 g2 g3 hob
          go_wp2_with fail
          go_roundw
          case rel => exact ⟨j + 1, by omega, by go_num, HO7.out, HK7.out, HR7.out, HS7.out, HB7.out⟩
          case measure => simp [intOf]; omega
        · have hltI : decide ((j : Int) < m) = false := decide_eq_false (by omega)
          have hjm : j = m := by omega
          subst hjm
          obtain ⟨LB, hLB⟩ : ∃ LB, LB = lostL B k j := ⟨_, rfl⟩
          rw [← hLB] at HO HBP
          have HLL : Hid (LB.length = j) := Lib.hid (by rw [hLB, lostL_len])
          have HHR := Lib.hid (HH.out.below HB.out)
          have HLT : Hid (∀ y ∈ LB, y < 4294967296) := Lib.hid (fun y hy => by
            rw [hLB] at hy
            obtain ⟨a, ha, rfl⟩ := List.mem_map.1 hy
            exact xor_lt _ _ (HH.out.nm.getD_lt a) (colK_lt _ _ _ HH.out.rw_.lt _ (Nat.le_refl _)))
          have hnm := nm_own HO.out HLL.out HLT.out
          have hkl : k < B.rows.length := by rw [HH.out.zn]; exact hkn
          have hgv : ∀ b, (Value.slice pv j cv).ownBlock = some b → w1.heap.size ≤ b := fun b e => (HO.out.lt b e).1
          have HGV := Lib.hid hgv
          have hwith := with_any p n c xs pp j cc B k pv j cv LB wr HHR.out hkn ⟨pv, cv, by rw [HLL.out], by rw [HLL.out]; exact HCV.out, hnm⟩ hm
          rw [← HZ.out] at hwith
          clear hLB hnm hgv
          go_upto_region 10 with fail
          go_wp2_with fail
          refine hwith.mono ?_
          clear hwith
          rintro e w4 ⟨g, c', rfl, hbn, hb4, hg⟩
          have HBN4 := Lib.hid hbn
          have HK4 := Lib.hid (HK.out.below hb4)
          have HR4 := Lib.hid (HRR.out.below hb4)
          have HBW4 : Hid (Below w.heap.size w w4) := Lib.hid (HB.out.trans (hb4.mono HB.out.size))
          have HG : Hid (w.heap.size + 2 ≤ g) := Lib.hid (by have := HN1.out; have := HWS.out; omega)
          have HOF : Hid (∀ R, R < w.heap.size + 2 → Off R p xs B.rows pp B.par → Off R (some ⟨g, 0, none⟩) (xs.set k (.slice pv j cv)) (B.rows.set k LB) pp B.par) := Lib.hid (fun R hR ho =>
            ho.put HH.out.rw_.len hkl (by have := HG.out; omega) (fun b e => by have := HGV.out b e; have := HN1.out; omega))
          clear hbn hb4 hg cK HK HRR HB
          have cK := HK4.out.c
          have fK := HK4.out.f
          have lK := HK4.out.lt
          go_upto_region 11 with fail
          obtain ⟨w5, hw5⟩ : ∃ w5, w5 = ((w4.setCell ⟨w.heap.size, 0, none⟩ (.slice (some ⟨g, 0, none⟩) n c')).setCell ⟨w.heap.size, 1, none⟩ (.slice pp j cc)).setCell ⟨w.heap.size, 2, none⟩ (.int .i64 ((k : Int) + 1)) := ⟨_, rfl⟩
          have HBN5 := Lib.hid (HBN4.out.set3 (HOF.out w.heap.size (by omega) HOK.out) (.slice (some ⟨g, 0, none⟩) n c') (.slice pp j cc) (.int .i64 ((k : Int) + 1)))
          have HK5 : Hid (Blk w5 w.heap.size #[.slice (some ⟨g, 0, none⟩) n c', .slice pp j cc, .int .i64 ((k : Int) + 1)]) := Lib.hid (by rw [hw5]; exact set3_same HK4.out _ _ _)
          have HR5 : Hid (Blk w5 (w.heap.size + 1) #[.slice none 0 0, .slice none 0 0, .int .i64 0]) := Lib.hid (by rw [hw5]; exact set3_other HR4.out (by omega) _ _ _)
          have HB5 : Hid (Below w.heap.size w w5) := Lib.hid (by rw [hw5]; exact set3_below HBW4.out (Nat.le_refl _) _ _ _)
          rw [← hw5] at HBN5 ⊢
          clear hw5 cK fK lK HK4 HR4 HBW4 HBN4
          have cK := HK5.out.c
          have fK := HK5.out.f
          have lK := HK5.out.lt
          go_upto_region 12 with fail
          obtain ⟨w8, hw8⟩ : ∃ w8, w8 = w5.setCell ⟨w.heap.size, 2, none⟩ (.int .i64 0) := ⟨_, rfl⟩
          have HBN8 := Lib.hid (HBN5.out.set (HOF.out w.heap.size (by omega) HOK.out) 2 (.int .i64 0))
          have HK8 : Hid (Blk w8 w.heap.size #[.slice (some ⟨g, 0, none⟩) n c', .slice pp j cc, .int .i64 0]) := Lib.hid (by rw [hw8]; exact HK5.out.set (n := 2) _ (by simp))
          have HR8 : Hid (Blk w8 (w.heap.size + 1) #[.slice none 0 0, .slice none 0 0, .int .i64 0]) := Lib.hid (by rw [hw8]; exact HR5.out.other _ (by omega))
          have HB8 : Hid (Below w.heap.size w w8) := Lib.hid (by rw [hw8]; exact HB5.out.setCell (p := ⟨w.heap.size, 2, none⟩) (Nat.le_refl _) _)
          rw [← hw8] at HBN8 ⊢
          clear hw8 cK fK lK HK5 HR5 HB5 HBN5
          have cK := HK8.out.c
          have cR := HR8.out.c
          have fR := HR8.out.f
          have lR := HR8.out.lt
          go_wp2_with fail
          refine bodyPost_ret (v := .tuple #[.agg #[.slice (some ⟨g, 0, none⟩) n c', .slice pp j cc, .int .i64 0], .int .i64 0]) (by simp [results, Try.results16, go_sem, *]) rfl ⟨some ⟨g, 0, none⟩, n, c', xs.set k (.slice pv j cv), pp, j, cc, by rw [HBP.out], ?_, set3_below HB8.out (by omega) _ _ _, ?_⟩
          all_goals rw [HBP.out]
          rotate_left
          · exact fun R hR ho => HOF.out R (by omega) ho
          exact (HBN8.out.set3 (HOF.out (w.heap.size + 1) (by omega) HOR.out) _ _ _).lost _
end Go.Proofs.Ytkeemmedbbammaa
