/- The fixed answers that each statement of layer 7 begins with; no condition. -/
import Derived.Test.YtkeemmedbbammaaParV
namespace Go.Proofs.Ytkeemmedbbammaa
set_option linter.unusedVariables false
open Go.ChangeShapes Go.WideShapes Go.ChangeAt Go.RowKit

def aw0 : Bk := ⟨[[0], [0]], [0], 0⟩
def aw1 : Bk := ⟨[[5], [0]], [5], 0⟩
def aw2 : Bk := ⟨[[5], [6]], [3], 0⟩
def aw3 : Bk := ⟨[[0], [6]], [3], 1⟩
theorem aw_new : newB 2 1 = aw0 ∧ newE 2 1 = 0 := ⟨rfl, rfl⟩
theorem aw_w1 : writeB aw0 0 0 5 = aw1 ∧ writeE aw0 0 0 = 0 := ⟨rfl, rfl⟩
theorem aw_w2 : writeB aw1 1 0 6 = aw2 ∧ writeE aw1 1 0 = 0 := ⟨rfl, rfl⟩
theorem aw_lose : loseB aw2 0 = aw3 ∧ loseE aw2 0 = 0 := ⟨rfl, rfl⟩
theorem aw_back : rebuildB aw3 = aw2 ∧ rebuildE aw3 = 0 := ⟨rfl, rfl⟩
theorem aw_read : readN aw2 0 0 = 5 ∧ readE aw2 0 0 = 0 := ⟨rfl, rfl⟩
theorem aw_right : rightB aw3 = true := rfl

theorem OwnB.off {base R : Nat} {w : World} {p : Option Addr} {n c : Nat} {ys : List Value} {pp : Option Addr} {m cc : Nat} {B : Bk} (h : OwnB base w p n c ys pp m cc B) (hR : R < base) : Off R p ys B.rows pp B.par := by
  refine ⟨fun h0 a e => ?_, fun k hk h0 g e => ?_, fun h0 a e => ?_⟩
  · subst e
    have := (h.own.row.lt a.block rfl).1
    omega
  · have := ((h.own.fr k hk).lt g e).1
    omega
  · subst e
    have := (h.par.lt a.block rfl).1
    omega
set_option maxHeartbeats 8000000 in
theorem awake_any (w : World) : Calls Try.prog 6 #[] w fun e w' => e = .returned (.bool true) ∧ Below w.heap.size w w' := by
  go_enter Try.func6, Try.ntmps6
  go_wp2_with fail
  have h1 := new_any 2 1 w
  rw [aw_new.1, aw_new.2] at h1
  refine h1.mono ?_
  clear h1
  rintro e w1 ⟨p, n, c, xs, pp, m, cc, rfl, ho, hb⟩
  have HO := Lib.hid ho.bn
  have HB1 := Lib.hid hb
  clear ho hb
  go_wp2_with fail
  have HA1 : Hid (Below w1.heap.size w1 (w1.alloc (.cells #[.slice p n c, .slice pp m cc, .int .i64 aw0.lost] 25))) := Lib.hid ((Below.refl _ _).alloc (Nat.le_refl _) _)
  have h2 : Calls Try.prog 10 #[.agg #[.slice p n c, .slice pp m cc, .int .i64 aw0.lost], .int .i64 0, .int .i64 0, .int .u32 5] (w1.alloc (.cells #[.slice p n c, .slice pp m cc, .int .i64 aw0.lost] 25)) _ := write_any p n c xs pp m cc aw0 0 0 5 _ (HO.out.below HA1.out) (by decide)
  rw [aw_w1.1, aw_w1.2] at h2
  refine h2.mono ?_
  clear h2
  rintro e w2 ⟨p2, c2, ys2, pp2, cc2, rfl, ho, hb⟩
  have HO2 := Lib.hid ho.bn
  have HF2 : Hid (Off w1.heap.size p2 ys2 aw1.rows pp2 aw1.par) := Lib.hid (ho.off (by simp))
  have HK2 := Lib.hid (Blk.track1 hb)
  have HB2 : Hid (Below w.heap.size w w2) := Lib.hid ((HB1.out.trans (HA1.out.mono HB1.out.size)).trans (hb.mono (Nat.le_trans HB1.out.size HA1.out.size)))
  have HG1 : Hid (w.heap.size ≤ w1.heap.size) := Lib.hid HB1.out.size
  clear ho hb HO HA1 HB1
  obtain ⟨b1, hb1⟩ : ∃ b, b = w1.heap.size := ⟨_, rfl⟩
  rw [← hb1] at HK2 HG1 HF2 ⊢
  clear hb1
  have k2 := HK2.out.c
  have f2 := HK2.out.f
  have l2 := HK2.out.lt
  go_upto_region 3 with fail
  obtain ⟨w3, hw3⟩ : ∃ w3, w3 = ((w2.setCell ⟨b1, 0, none⟩ (.slice p2 n c2)).setCell ⟨b1, 1, none⟩ (.slice pp2 m cc2)).setCell ⟨b1, 2, none⟩ (.int .i64 aw1.lost) := ⟨_, rfl⟩
  have HO3 : Hid (Bn w3 p2 n c2 ys2 pp2 m cc2 aw1) := Lib.hid (by rw [hw3]; exact HO2.out.set3 HF2.out _ _ _)
  have HK3 : Hid (Blk w3 b1 #[.slice p2 n c2, .slice pp2 m cc2, .int .i64 aw1.lost]) := Lib.hid (by rw [hw3]; exact set3_same HK2.out _ _ _)
  have HB3 : Hid (Below w.heap.size w w3) := Lib.hid (by rw [hw3]; exact set3_below HB2.out HG1.out _ _ _)
  rw [← hw3]
  clear hw3 k2 f2 l2 HO2 HF2 HK2 HB2
  have k3 := HK3.out.c
  go_wp2_with fail
  have h3 : Calls Try.prog 10 #[.agg #[.slice p2 n c2, .slice pp2 m cc2, .int .i64 aw1.lost], .int .i64 1, .int .i64 0, .int .u32 6] w3 _ := write_any p2 n c2 ys2 pp2 m cc2 aw1 1 0 6 _ HO3.out (by decide)
  rw [aw_w2.1, aw_w2.2] at h3
  refine h3.mono ?_
  clear h3
  rintro e w4 ⟨p4, c4, ys4, pp4, cc4, rfl, ho, hb⟩
  have HO4 := Lib.hid ho.bn
  have HF4 : Hid (Off b1 p4 ys4 aw2.rows pp4 aw2.par) := Lib.hid (ho.off HK3.out.lt)
  have HK4 := Lib.hid (HK3.out.below hb)
  have HB4 : Hid (Below w.heap.size w w4) := Lib.hid (HB3.out.trans (hb.mono HB3.out.size))
  clear ho hb HO3 HK3 HB3 k3
  have k4 := HK4.out.c
  have f4 := HK4.out.f
  have l4 := HK4.out.lt
  go_upto_region 4 with fail
  obtain ⟨w5, hw5⟩ : ∃ w5, w5 = ((w4.setCell ⟨b1, 0, none⟩ (.slice p4 n c4)).setCell ⟨b1, 1, none⟩ (.slice pp4 m cc4)).setCell ⟨b1, 2, none⟩ (.int .i64 aw2.lost) := ⟨_, rfl⟩
  have HO5 : Hid (Bn w5 p4 n c4 ys4 pp4 m cc4 aw2) := Lib.hid (by rw [hw5]; exact HO4.out.set3 HF4.out _ _ _)
  have HK5 : Hid (Blk w5 b1 #[.slice p4 n c4, .slice pp4 m cc4, .int .i64 aw2.lost]) := Lib.hid (by rw [hw5]; exact set3_same HK4.out _ _ _)
  have HB5 : Hid (Below w.heap.size w w5) := Lib.hid (by rw [hw5]; exact set3_below HB4.out HG1.out _ _ _)
  rw [← hw5]
  clear hw5 k4 f4 l4 HO4 HF4 HK4 HB4
  have k5 := HK5.out.c
  go_wp2_with fail
  have h5 : Calls Try.prog 13 #[.agg #[.slice p4 n c4, .slice pp4 m cc4, .int .i64 aw2.lost], .int .i64 0] w5 _ := lose_any p4 n c4 ys4 pp4 m cc4 aw2 0 _ HO5.out
  rw [aw_lose.1, aw_lose.2] at h5
  refine h5.mono ?_
  clear h5
  rintro e w6 ⟨p6, c6, ys6, pp6, cc6, rfl, ho, hb⟩
  have HC6 := Lib.hid ho.bn
  have HK6 := Lib.hid (HK5.out.below hb)
  have HO6 := Lib.hid (HO5.out.below hb)
  have HB6 : Hid (Below w.heap.size w w6) := Lib.hid (HB5.out.trans (hb.mono HB5.out.size))
  clear ho hb HO5 HK5 HB5 k5
  go_wp2_with fail
  have HA6 : Hid (Below w6.heap.size w6 (w6.alloc (.cells #[.slice p6 n c6, .slice pp6 m cc6, .int .i64 aw3.lost] 25))) := Lib.hid ((Below.refl _ _).alloc (Nat.le_refl _) _)
  have h6 : Calls Try.prog 15 #[.agg #[.slice p6 n c6, .slice pp6 m cc6, .int .i64 aw3.lost]] (w6.alloc (.cells #[.slice p6 n c6, .slice pp6 m cc6, .int .i64 aw3.lost] 25)) _ := rebuild_any p6 n c6 ys6 pp6 m cc6 aw3 _ (HC6.out.below HA6.out)
  rw [aw_back.1, aw_back.2] at h6
  refine h6.mono ?_
  clear h6
  rintro e w7 ⟨p7, c7, ys7, pp7, cc7, rfl, ho, hb⟩
  have HD7 := Lib.hid ho.bn
  have hb6 : Below w6.heap.size w6 w7 := HA6.out.trans (hb.mono HA6.out.size)
  have HC7 := Lib.hid (HC6.out.below hb6)
  have HKC7 := Lib.hid (Blk.track1 hb)
  have HK7 := Lib.hid (HK6.out.below hb6)
  have HO7 := Lib.hid (HO6.out.below hb6)
  have HB7 : Hid (Below w.heap.size w w7) := Lib.hid (HB6.out.trans (hb6.mono HB6.out.size))
  clear ho hb hb6 HC6 HK6 HO6 HB6 HA6
  go_wp2_with fail
  have HA7 : Hid (Below w7.heap.size w7 (w7.alloc (.cells #[.slice p7 n c7, .slice pp7 m cc7, .int .i64 aw2.lost] 25))) := Lib.hid ((Below.refl _ _).alloc (Nat.le_refl _) _)
  have h7 : Calls Try.prog 8 #[.agg #[.slice p7 n c7, .slice pp7 m cc7, .int .i64 aw2.lost], .int .i64 0, .int .i64 0] (w7.alloc (.cells #[.slice p7 n c7, .slice pp7 m cc7, .int .i64 aw2.lost] 25)) _ := read_any p7 n c7 ys7 pp7 m cc7 aw2 0 0 _ (HD7.out.below HA7.out)
  rw [aw_read.1, aw_read.2] at h7
  refine h7.mono ?_
  clear h7
  rintro e w8 ⟨rfl, hb⟩
  have hb7 : Below w7.heap.size w7 w8 := HA7.out.trans (hb.mono HA7.out.size)
  have HC8 := Lib.hid (HC7.out.below hb7)
  have HKC8 := Lib.hid (HKC7.out.below hb7)
  have HK8 := Lib.hid (HK7.out.below hb7)
  have HO8 := Lib.hid (HO7.out.below hb7)
  have HB8 : Hid (Below w.heap.size w w8) := Lib.hid (HB7.out.trans (hb7.mono HB7.out.size))
  clear hb hb7 HA7 HC7 HKC7 HK7 HO7 HB7 HD7
  have hm1 : m = 1 := HO8.out.zm.symm
  subst hm1
  obtain ⟨bq, oq, hbq, rfl, hcq⟩ := HO8.out.nm.cellAt 0 (by decide)
  have hcq3 : w8.cell? ⟨bq, oq, none⟩ = some (.int .u32 3) := hcq
  have k8 := HK8.out.c
  have kc8 := HKC8.out.c
  have h8 : Calls Try.prog 19 #[.agg #[.slice p6 n c6, .slice pp6 1 cc6, .int .i64 aw3.lost]] w8 _ := right_any p6 n c6 ys6 pp6 1 cc6 aw3 _ HC8.out
  rw [aw_right] at h8
  have H8 := Lib.hid h8
  clear h8 hcq hbq
  go_wp2_with (first | (go_at_call 19; refine H8.out.mono ?_; rintro e w9 ⟨rfl, hb⟩; have HB9 := Lib.hid hb; clear hb))
  go_ret
  exact ⟨rfl, HB8.out.trans (HB9.out.mono HB8.out.size)⟩
end Go.Proofs.Ytkeemmedbbammaa
