/- The document's own Write; no condition but that the banks read. -/
import Derived.Test.YtkeemmedbbammaaParQ
namespace Go.Proofs.Ytkeemmedbbammaa
set_option linter.unusedVariables false
open Go.ChangeShapes Go.WideShapes Go.ChangeAt Go.RowKit

theorem put_eq {B : Bk} {j i : Nat} {v : Nat} (hr : rightB B = true) (h0 : B.lost = 0) (hj : j < B.rows.length) (hi : i < B.par.length) :
    putB B (j : Int) (i : Int) v = ⟨B.rows.set j ((B.rows.getD j []).set i v), B.par.set i (colX (B.rows.set j ((B.rows.getD j []).set i v)) i (-1)), B.lost⟩ := by
  have hall := (right_inv hr).2.2.2.2.1
  have hlj := all_at hall j hj
  unfold putB wordB
  simp only [Int.toNat_natCast]
  rw [colX_set _ _ _ _ hj, getD_set _ 0 v i i (by omega), if_pos rfl, fine_par hr h0 i hi]

set_option maxHeartbeats 8000000 in
theorem rwrite_any (p : Option Addr) (n c : Nat) (xs : List Value) (pp : Option Addr) (m cc : Nat) (B : Bk) (k a : Int) (v : Nat) (w : World) (h : Bn w p n c xs pp m cc B) (hv : v < 4294967296) :
    Calls Try.prog 11 #[.agg #[.slice p n c, .slice pp m cc, .int .i64 B.lost], .int .i64 k, .int .i64 a, .int .u32 v] w fun e w' => ROut w w' (fun R => Off R p xs B.rows pp B.par) e (writeB B k a v) (writeE B k a) := by
  have hri := fun w' hb => rhas_any p n c xs pp m cc B k w' (h.below hb)
  have hsp := hasW_split (k := k) (a := a) h.zm
  obtain ⟨z, hz⟩ : ∃ z, z = B.lost := ⟨_, rfl⟩
  obtain ⟨r, hr⟩ : ∃ r, r = hasB B k := ⟨_, rfl⟩
  rw [← hr] at hsp
  rw [← hr, ← hz] at hri
  rw [← hz]
  have HRI := Lib.hid hri
  have HZ := Lib.hid hz
  have HR := Lib.hid hr
  have HH := Lib.hid h
  have HSP := Lib.hid hsp
  obtain ⟨B', hB'⟩ : ∃ B', B' = writeB B k a v := ⟨_, rfl⟩
  obtain ⟨E, hE⟩ : ∃ E, E = writeE B k a := ⟨_, rfl⟩
  rw [← hB', ← hE]
  have HB' := Lib.hid hB'
  have HE := Lib.hid hE
  have HNO : Hid (hasW B k a = false → B' = B ∧ E = 1) := Lib.hid (fun e => by rw [hB', hE]; unfold writeB writeE; rw [e]; exact ⟨rfl, rfl⟩)
  have hm := h.m100
  have hn := h.n100
  obtain ⟨i6, hi6, hz60, hz61, hz62⟩ := info_parts info26
  have HI6 := Lib.hid (And.intro hi6 (And.intro hz60 (And.intro hz61 hz62)))
  clear h hri hz hr hB' hE hi6 hz60 hz61 hz62 hsp
  go_enter Try.func11, Try.ntmps11
  have HBA : Hid (Below w.heap.size w ((w.alloc (.cells #[.slice p n c, .slice pp m cc, .int .i64 z] 25)).alloc (.cells #[.slice none 0 0, .slice none 0 0, .int .i64 0] 25))) := Lib.hid (((Below.refl _ _).alloc (Nat.le_refl _) _).alloc (by simp) _)
  go_wp2_with fail
  refine (HRI.out _ HBA.out).mono ?_
  rintro e w1 ⟨rfl, hb1⟩
  have HK1 : Hid (Blk w1 w.heap.size #[.slice p n c, .slice pp m cc, .int .i64 z]) := Lib.hid (Blk.track2 hb1)
  have HR1 : Hid (Blk w1 (w.heap.size + 1) #[.slice none 0 0, .slice none 0 0, .int .i64 0]) := Lib.hid (by simpa using Blk.track1 hb1)
  have HB1 : Hid (Below w.heap.size w w1) := Lib.hid (HBA.out.trans (hb1.mono HBA.out.size))
  have HH1 := Lib.hid (HH.out.below HB1.out)
  clear hb1 HBA HRI
  have cK := HK1.out.c
  have cR := HR1.out.c
  have fR := HR1.out.f
  have lR := HR1.out.lt
  have HOR : Hid (Off (w.heap.size + 1) p xs B.rows pp B.par) := Lib.hid (HH.out.off (by omega))
  have HOK : Hid (Off w.heap.size p xs B.rows pp B.par) := Lib.hid (HH.out.off (Nat.le_refl _))
  cases r with
  | false =>
    obtain ⟨hB, hE⟩ := HNO.out (by rw [HSP.out]; rfl)
    subst hB hE
    go_wp2_with fail
    refine bodyPost_ret (v := .tuple #[.agg #[.slice p n c, .slice pp m cc, .int .i64 z], .int .i64 1]) (by simp [results, Try.results11, go_sem, *]) rfl ⟨p, n, c, xs, pp, m, cc, by rw [HZ.out], HH1.out.set3 HOR.out _ _ _, set3_below HB1.out (by omega) _ _ _, fun R _ h => h⟩
  | true =>
    by_cases h0 : a < 0
    · obtain ⟨hB, hE⟩ := HNO.out (by rw [HSP.out, decide_eq_false (by omega)]; rfl)
      subst hB hE
      have d0 : decide (a < 0) = true := decide_eq_true h0
      clear h0
      go_wp2_with fail
      refine bodyPost_ret (v := .tuple #[.agg #[.slice p n c, .slice pp m cc, .int .i64 z], .int .i64 1]) (by simp [results, Try.results11, go_sem, *]) rfl ⟨p, n, c, xs, pp, m, cc, by rw [HZ.out], HH1.out.set3 HOR.out _ _ _, set3_below HB1.out (by omega) _ _ _, fun R _ h => h⟩
    have d0 : decide (a < 0) = false := decide_eq_false h0
    by_cases h1 : (m : Int) ≤ a
    · obtain ⟨hB, hE⟩ := HNO.out (by rw [HSP.out, decide_eq_false (by omega)]; rfl)
      subst hB hE
      have d1 : decide ((m : Int) ≤ a) = true := decide_eq_true h1
      clear h0 h1
      go_wp2_with fail
      refine bodyPost_ret (v := .tuple #[.agg #[.slice p n c, .slice pp m cc, .int .i64 z], .int .i64 1]) (by simp [results, Try.results11, go_sem, *]) rfl ⟨p, n, c, xs, pp, m, cc, by rw [HZ.out], HH1.out.set3 HOR.out _ _ _, set3_below HB1.out (by omega) _ _ _, fun R _ h => h⟩
    have d1 : decide ((m : Int) ≤ a) = false := decide_eq_false h1
    have hW : hasW B k a = true := by rw [HSP.out, decide_eq_true (by omega)]; rfl
    by_cases hz0 : z = 0
    · obtain ⟨hright, hk0, hk1, ha0, ha1⟩ := hasW_inv hW
      have hE : E = 0 := by rw [HE.out]; unfold writeE; rw [hW, if_pos rfl, if_pos (by rw [← HZ.out]; exact hz0)]
      have hB : B' = putB B k a v := by rw [HB'.out]; unfold writeB; rw [hW, if_pos rfl, if_pos (by rw [← HZ.out]; exact hz0)]
      obtain ⟨j, rfl⟩ := Int.eq_ofNat_of_zero_le hk0
      obtain ⟨i, rfl⟩ := Int.eq_ofNat_of_zero_le ha0
      have hjl : j < B.rows.length := by omega
      rw [put_eq hright (by rw [← HZ.out]; exact hz0) hjl (by omega)] at hB
      have hri := right_inv hright
      rw [HH.out.zn, HH.out.zm] at hri
      rw [HH.out.zn] at hk1
      rw [HH.out.zm] at ha1
      have hj : j < n := by omega
      have hi : i < m := by omega
      have hn8 : n ≤ 8 := hri.2.1
      have HALL : Hid (allB B.rows m = true) := Lib.hid hri.2.2.2.2.1
      have HBP := Lib.hid hB
      have HRT := Lib.hid hright
      have hz0' : (z != 0) = false := by simp; exact hz0
      have hjI : (0 : Int) ≤ (j : Int) := by omega
      have hjI2 : (j : Int) < (n : Int) := by omega
      have hiI : (0 : Int) ≤ (i : Int) := by omega
      have hiI2 : (i : Int) < (m : Int) := by omega
      obtain ⟨b, off, q, x, c2, hp, hrow⟩ := HH1.out.rw_.rowAt j (by rw [HH.out.zn]; omega)
      have hxm : x = m := by rw [← hrow.len]; exact all_at HALL.out j hjl
      subst hE hxm hp
      obtain ⟨l, hl⟩ : ∃ l, l = B.rows.getD j [] := ⟨_, rfl⟩
      rw [← hl] at hrow hB
      have HL := Lib.hid hl
      have HROW := Lib.hid hrow
      have HW0 : Hid (Below w1.heap.size w1 (w1.alloc (.cells #[] 26))) := Lib.hid ((Below.refl _ _).alloc (Nat.le_refl _) _)
      have k0 := (HK1.out.alloc (.cells #[] 26)).c
      have hck := (hrow.below HW0.out).cell
      have HS : Hid (Sl (w1.alloc (.cells #[] 26)) q x (u32C l)) := Lib.hid (by have := (hrow.below HW0.out).nm.sl; rwa [hrow.len] at this)
      have HLL : Hid (l.length = x) := Lib.hid hrow.len
      have HLT : Hid (∀ y ∈ l, y < 4294967296) := Lib.hid hrow.nm.lt
      clear hright hk0 hk1 ha0 ha1 h0 h1 hW hri hB hz0 hl hrow HNO HSP
      go_wp2_with (first | (at_builtin; refine wpList_append_sl rfl _ _ 23 rfl w1.heap.size 26 i6 (.int .u32 0) 1 4 Try.underlying23 HI6.out.1 HI6.out.2.1 HI6.out.2.2.1 HI6.out.2.2.2 rfl (by decide) _ 0 [] rfl (fresh_made (Nat.le_refl _)) q x c2 (u32C l) rfl (by rw [u32C_len, HLL.out, Nat.mul_one]) HS.out (u32C_one _) (by unfold maxLen; omega) (by omega) (by simp) ?_))
      intro v' w2 g1 g2 g3
      have g1' : w2.ownsRow w1.heap.size 26 1 v' x (u32C l) := by simpa using g1
      have HB2 : Hid (Below w1.heap.size w1 w2) := Lib.hid (((Below.refl w1.heap.size w1).alloc (Nat.le_refl _) _).grown g2 (by simp) (fun k hk => by simp [Value.ownBlock] at hk; omega))
      obtain ⟨p1, c1, rfl, hc1⟩ := own_cap g1'
      obtain ⟨gr, rfl, _, _, hgr0, hgr1⟩ := own_go g1' (by omega)
      have HWD : Hid (Wd w1.heap.size w2 gr x c1 l) := Lib.hid ⟨g1', HLL.out, HLT.out⟩
      have HN1 : Hid (w.heap.size + 2 ≤ w1.heap.size) := Lib.hid (by have := HR1.out.lt; omega)
      have hcl := HWD.out.cell i hi
      have hfl := HWD.out.frozen i
      clear g1 g1' g2 g3 hgr0 hgr1 hc1 k0 hck HS
      go_upto_region 7 with fail
      obtain ⟨w3, hw3⟩ : ∃ w3, w3 = w2.setCell ⟨gr, i, none⟩ (.int .u32 (v : Int)) := ⟨_, rfl⟩
      have HWD3 : Hid (Wd w1.heap.size w3 gr x c1 (l.set i v)) := Lib.hid (by rw [hw3]; exact HWD.out.set i v hv)
      have HB3 : Hid (Below w1.heap.size w1 w3) := Lib.hid (by rw [hw3]; exact HB2.out.setCell (p := ⟨gr, i, none⟩) (by show w1.heap.size ≤ gr; exact HWD.out.ge.1) _)
      have HK3 := Lib.hid (HK1.out.below HB3.out)
      have HR3 := Lib.hid (HR1.out.below HB3.out)
      have HBW3 : Hid (Below w.heap.size w w3) := Lib.hid (HB1.out.trans (HB3.out.mono HB1.out.size))
      have HGR : Hid (w.heap.size + 2 ≤ gr) := Lib.hid (by have := HWD.out.ge.1; have := HN1.out; omega)
      have hwith := with_any (some ⟨b, off, none⟩) n c xs pp x cc B j (some ⟨gr, 0, none⟩) x c1 (l.set i v) w3 (HH1.out.below HB3.out) hj ⟨_, c1, by rw [List.length_set, HLL.out], by rw [List.length_set, HLL.out]; exact HWD3.out.cap, HWD3.out.nm⟩ hm
      rw [← HZ.out] at hwith
      rw [← hw3]
      clear hw3 hcl hfl HWD HB2 HK1 HR1 HB1 cK cR fR lR
      have cK := HK3.out.c
      go_wp2_with fail
      refine hwith.mono ?_
      clear hwith
      rintro e w4 ⟨g, c', rfl, hbn, hb4, hg⟩
      have HBN4 := Lib.hid hbn
      have HK4 := Lib.hid (HK3.out.below hb4)
      have HR4 := Lib.hid (HR3.out.below hb4)
      have HBW4 : Hid (Below w.heap.size w w4) := Lib.hid (HBW3.out.trans (hb4.mono HBW3.out.size))
      have HG : Hid (w.heap.size + 2 ≤ g) := Lib.hid (by have := HN1.out; have := HB3.out.size; omega)
      obtain ⟨L', hL'⟩ : ∃ L', L' = B.rows.set j (l.set i v) := ⟨_, rfl⟩
      obtain ⟨ys, hys⟩ : ∃ ys, ys = xs.set j (.slice (some ⟨gr, 0, none⟩) x c1) := ⟨_, rfl⟩
      rw [← hL', ← hys] at HBN4
      have HL' := Lib.hid hL'
      have HOF : Hid (∀ R, R < w.heap.size + 2 → Off R (some ⟨b, off, none⟩) xs B.rows pp B.par → Off R (some ⟨g, 0, none⟩) ys L' pp B.par) := Lib.hid (fun R hR ho => by
        rw [hL', hys]
        exact ho.put HH.out.rw_.len hjl (by have := HG.out; omega) (fun b e => by
          have e' : some gr = some b := e
          injection e' with e'
          have := HGR.out
          omega))
      clear hbn hb4 hg hL' hys cK HK3 HR3 HBW3 HB3
      have cK := HK4.out.c
      have fK := HK4.out.f
      have lK := HK4.out.lt
      go_upto_region 8 with fail
      obtain ⟨w5, hw5⟩ : ∃ w5, w5 = ((w4.setCell ⟨w.heap.size, 0, none⟩ (.slice (some ⟨g, 0, none⟩) n c')).setCell ⟨w.heap.size, 1, none⟩ (.slice pp x cc)).setCell ⟨w.heap.size, 2, none⟩ (.int .i64 z) := ⟨_, rfl⟩
      have HBN5 := Lib.hid (HBN4.out.set3 (HOF.out w.heap.size (by omega) HOK.out) (.slice (some ⟨g, 0, none⟩) n c') (.slice pp x cc) (.int .i64 z))
      have HK5 : Hid (Blk w5 w.heap.size #[.slice (some ⟨g, 0, none⟩) n c', .slice pp x cc, .int .i64 z]) := Lib.hid (by rw [hw5]; exact set3_same HK4.out _ _ _)
      have HR5 : Hid (Blk w5 (w.heap.size + 1) #[.slice none 0 0, .slice none 0 0, .int .i64 0]) := Lib.hid (by rw [hw5]; exact set3_other HR4.out (by omega) _ _ _)
      have HB5 : Hid (Below w.heap.size w w5) := Lib.hid (by rw [hw5]; exact set3_below HBW4.out (Nat.le_refl _) _ _ _)
      rw [← hw5] at HBN5 ⊢
      clear hw5 cK fK lK HK4 HR4 HBW4 HBN4
      have HW5 : Hid (Below w5.heap.size w5 (w5.alloc (.cells #[] 26))) := Lib.hid ((Below.refl _ _).alloc (Nat.le_refl _) _)
      have k5 := (HK5.out.alloc (.cells #[] 26)).c
      have HS5 : Hid (Sl (w5.alloc (.cells #[] 26)) pp x (u32C B.par)) := Lib.hid (by have := (HBN5.out.below HW5.out).nm.sl; rwa [HBN5.out.zm] at this)
      have HPL : Hid (B.par.length = x) := Lib.hid HH.out.zm
      go_wp2_with (first | (at_builtin; refine wpList_append_sl rfl _ _ 23 rfl w5.heap.size 26 i6 (.int .u32 0) 1 4 Try.underlying23 HI6.out.1 HI6.out.2.1 HI6.out.2.2.1 HI6.out.2.2.2 rfl (by decide) _ 0 [] rfl (fresh_made (Nat.le_refl _)) pp x cc (u32C B.par) rfl (by rw [u32C_len, HPL.out, Nat.mul_one]) HS5.out (u32C_one _) (by unfold maxLen; omega) (by omega) (by simp) ?_))
      intro v' w6 g1 g2 g3
      have g1' : w6.ownsRow w5.heap.size 26 1 v' x (u32C B.par) := by simpa using g1
      have HB6 : Hid (Below w5.heap.size w5 w6) := Lib.hid (((Below.refl w5.heap.size w5).alloc (Nat.le_refl _) _).grown g2 (by simp) (fun k hk => by simp [Value.ownBlock] at hk; omega))
      obtain ⟨p6, c6, rfl, hc6⟩ := own_cap g1'
      obtain ⟨gq, rfl, _, _, hgq0, hgq1⟩ := own_go g1' (by omega)
      have HWQ : Hid (Wd w5.heap.size w6 gq x c6 B.par) := Lib.hid ⟨g1', HPL.out, HH.out.nm.lt⟩
      have HK6 := Lib.hid (HK5.out.below HB6.out)
      have HR6 := Lib.hid (HR5.out.below HB6.out)
      have HBN6 := Lib.hid (HBN5.out.below HB6.out)
      have HBW6 : Hid (Below w.heap.size w w6) := Lib.hid (HB5.out.trans (HB6.out.mono HB5.out.size))
      have HGQ : Hid (w.heap.size + 2 ≤ gq) := Lib.hid (by have := HWQ.out.ge.1; have := HR5.out.lt; omega)
      have hcl := HWQ.out.cell i hi
      have hfl := HWQ.out.frozen i
      have hall' : allB L' x = true := all_of (fun t ht => by
        rw [HL'.out] at ht ⊢
        rw [List.length_set] at ht
        rw [getD_set B.rows [] _ j t hjl]
        by_cases e : t = j
        · rw [if_pos e, List.length_set]; exact HLL.out
        · rw [if_neg e]; exact all_at HALL.out t ht)
      have hcol := column_any (some ⟨g, 0, none⟩) n c' x i (-1) ys L' w6 HBN6.out.zn HBN6.out.rw_ hall' hi
      obtain ⟨y, hy⟩ : ∃ y, y = colX L' i (-1) := ⟨_, rfl⟩
      rw [← hy] at hcol
      have HCOL := Lib.hid hcol
      have HY := Lib.hid hy
      have hy32 : y < 4294967296 := by rw [hy]; exact colK_lt _ _ _ HBN6.out.rw_.lt _ (Nat.le_refl _)
      clear g1 g1' g2 g3 hgq0 hgq1 hc6 k5 HS5 hcol hy hall' HK5 HR5 HB5 HW5
      have cK := HK6.out.c
      go_upto_region 10 with (first | (go_at_call 25; refine HCOL.out.mono ?_; rintro e w' ⟨rfl, rfl⟩))
      obtain ⟨w7, hw7⟩ : ∃ w7, w7 = w6.setCell ⟨gq, i, none⟩ (.int .u32 (y : Int)) := ⟨_, rfl⟩
      have HWQ7 : Hid (Wd w5.heap.size w7 gq x c6 (B.par.set i y)) := Lib.hid (by rw [hw7]; exact HWQ.out.set i y hy32)
      have HB7 : Hid (Below w5.heap.size w5 w7) := Lib.hid (by rw [hw7]; exact HB6.out.setCell (p := ⟨gq, i, none⟩) (by show w5.heap.size ≤ gq; exact HWQ.out.ge.1) _)
      have HK7 : Hid (Blk w7 w.heap.size #[.slice (some ⟨g, 0, none⟩) n c', .slice pp x cc, .int .i64 z]) := Lib.hid (by rw [hw7]; exact HK6.out.other _ (by have := HGQ.out; omega))
      have HR7 : Hid (Blk w7 (w.heap.size + 1) #[.slice none 0 0, .slice none 0 0, .int .i64 0]) := Lib.hid (by rw [hw7]; exact HR6.out.other _ (by have := HGQ.out; omega))
      have HBW7 : Hid (Below w.heap.size w w7) := Lib.hid (by rw [hw7]; exact HBW6.out.setCell (p := ⟨gq, i, none⟩) (by show w.heap.size ≤ gq; have := HGQ.out; omega) _)
      have HBN7 : Hid (Bn w7 (some ⟨g, 0, none⟩) n c' ys (some ⟨gq, 0, none⟩) x c6 ⟨L', B.par.set i y, B.lost⟩) := Lib.hid (by
        have hh := HBN5.out.below HB7.out
        exact ⟨hh.zn, hh.rw_, hh.cn, HWQ7.out.len, HWQ7.out.nm, HWQ7.out.cap, hh.m100⟩)
      have HOG : Hid (∀ R, R < w.heap.size + 2 → Off R (some ⟨b, off, none⟩) xs B.rows pp B.par → Off R (some ⟨g, 0, none⟩) ys L' (some ⟨gq, 0, none⟩) (B.par.set i y)) := Lib.hid (fun R hR ho => by
        have hh := HOF.out R hR ho
        exact ⟨hh.head, hh.rows, fun _ a e => by injection e with e; subst e; show gq ≠ R; have := HGQ.out; omega⟩)
      rw [← hw7]
      clear hw7 hcl hfl HWQ HB6 HK6 HR6 HBN6 HBN5 HBW6 cK HOF
      have cK := HK7.out.c
      have fK := HK7.out.f
      have lK := HK7.out.lt
      go_upto_region 11 with fail
      obtain ⟨w8, hw8⟩ : ∃ w8, w8 = w7.setCell ⟨w.heap.size, 1, none⟩ (.slice (some ⟨gq, 0, none⟩) x c6) := ⟨_, rfl⟩
      have HBN8 := Lib.hid (HBN7.out.set (HOG.out w.heap.size (by omega) HOK.out) 1 (.slice (some ⟨gq, 0, none⟩) x c6))
      have HK8 : Hid (Blk w8 w.heap.size #[.slice (some ⟨g, 0, none⟩) n c', .slice (some ⟨gq, 0, none⟩) x c6, .int .i64 z]) := Lib.hid (by rw [hw8]; exact HK7.out.set (n := 1) _ (by simp))
      have HR8 : Hid (Blk w8 (w.heap.size + 1) #[.slice none 0 0, .slice none 0 0, .int .i64 0]) := Lib.hid (by rw [hw8]; exact HR7.out.other _ (by omega))
      have HB8 : Hid (Below w.heap.size w w8) := Lib.hid (by rw [hw8]; exact HBW7.out.setCell (p := ⟨w.heap.size, 1, none⟩) (Nat.le_refl _) _)
      rw [← hw8] at HBN8 ⊢
      clear hw8 cK fK lK HK7 HR7 HBW7 HBN7 HB7 HWQ7
      have cK := HK8.out.c
      have cR := HR8.out.c
      have fR := HR8.out.f
      have lR := HR8.out.lt
      have HEQ : Hid (B' = ⟨L', B.par.set i y, B.lost⟩) := Lib.hid (by rw [HBP.out, HY.out, HL'.out, HL.out])
      go_wp2_with fail
      refine bodyPost_ret (v := .tuple #[.agg #[.slice (some ⟨g, 0, none⟩) n c', .slice (some ⟨gq, 0, none⟩) x c6, .int .i64 z], .int .i64 0]) (by simp [results, Try.results11, go_sem, *]) rfl ⟨some ⟨g, 0, none⟩, n, c', ys, some ⟨gq, 0, none⟩, x, c6, by rw [HEQ.out, HZ.out], ?_, set3_below HB8.out (by omega) _ _ _, ?_⟩
      all_goals rw [HEQ.out]
      rotate_left
      · exact fun R hR ho => HOG.out R (by omega) ho
      exact HBN8.out.set3 (HOG.out (w.heap.size + 1) (by omega) HOR.out) _ _ _
    · have hz0' : (z != 0) = true := by simpa using hz0
      have hB : B' = B := by rw [HB'.out]; unfold writeB; rw [hW, if_pos rfl, if_neg (by rw [← HZ.out]; exact hz0)]
      have hE : E = 8 := by rw [HE.out]; unfold writeE; rw [hW, if_pos rfl, if_neg (by rw [← HZ.out]; exact hz0)]
      subst hB hE
      clear hz0 h0 h1
      go_wp2_with fail
      refine bodyPost_ret (v := .tuple #[.agg #[.slice p n c, .slice pp m cc, .int .i64 z], .int .i64 8]) (by simp [results, Try.results11, go_sem, *]) rfl ⟨p, n, c, xs, pp, m, cc, by rw [HZ.out], HH1.out.set3 HOR.out _ _ _, set3_below HB1.out (by omega) _ _ _, fun R _ h => h⟩
end Go.Proofs.Ytkeemmedbbammaa
