/- The statement's fixed answers; no condition. -/
import Derived.Test.YtbogkloemmddcaaCkM
namespace Go.Proofs.Ytbogkloemmddcaa
set_option linter.unusedVariables false
open Go.ChangeShapes Go.WideShapes Go.ChangeAt Go.RowKit

def core3 : Cor := ⟨fun _ => 0, 3, false⟩
def ck1 : Ck := ⟨[⟨0, 0, []⟩], 10⟩
def ck2 : Ck := ⟨[⟨0, 0, []⟩, ⟨1, 5, [core3]⟩], 10⟩
theorem new_ck1 : newC 10 [] = ck1 ∧ newE 10 [] = 0 := by
  have h : rightC (newK 10 []) = true := by decide
  unfold newC newE; rw [h]; exact ⟨rfl, rfl⟩
theorem tick_ck2 : tickC ck1 1 5 [core3] = ck2 ∧ tickE ck1 1 5 [core3] = 0 :=
  tick_yes (C := ck1) (s := 1) (t := 5) (cs := [core3]) (by decide) (by decide) (by decide)
theorem sure14 : sureM ck2 14 = ⟨0, 0, []⟩ ∧ errC ck2 14 = 0 := by
  have h : okC ck2 14 = true := by decide
  have h2 : sureC ck2 14 = 0 := by decide
  unfold sureM errC; rw [h, h2]; exact ⟨rfl, rfl⟩
theorem sure15 : sureM ck2 15 = ⟨1, 5, [core3]⟩ ∧ errC ck2 15 = 0 := by
  have h : okC ck2 15 = true := by decide
  have h2 : sureC ck2 15 = 1 := by decide
  unfold sureM errC; rw [h, h2]; exact ⟨rfl, rfl⟩
theorem right_ck2 : rightC ck2 = true := by decide

set_option maxHeartbeats 4000000 in
set_option maxRecDepth 100000 in
theorem awake_any (w : World) : Calls Try.prog 5 #[] w fun e w' => e = .returned (.bool true) ∧ Below w.heap.size w w' := by
  have HN : Hid (Calls Try.prog 6 #[.int .i64 10, .slice none 0 0] w fun e w' => OutW w w' e ck1 0) := Lib.hid (by
    have := new_any 10 none 0 0 [] w rfl (Nat.le_refl _) (Nat.zero_le _) (Sl.empty _ _ _)
    rw [new_ck1.1, new_ck1.2] at this; exact this)
  go_enter Try.func5, Try.ntmps5
  go_wp2_with fail
  refine HN.out.mono ?_
  rintro e w1 ⟨p, n, c, xs, rfl, ho, e2, hb⟩
  have HO1 := Lib.hid ho
  have HB1 := Lib.hid hb
  have HE1 := Lib.hid e2
  clear ho hb e2 HN
  dsimp only [ck1]
  go_upto_region 2 with fail
  have HK2 : Hid (Blk (w1.alloc (.cells #[.slice p n c, .int .i64 10] 26)) w1.heap.size #[.slice p n c, .int .i64 10]) := Lib.hid (Blk.new _ _ _)
  have HO2 : Hid (Ko (fun _ => False) (w1.alloc (.cells #[.slice p n c, .int .i64 10] 26)) (.agg #[.slice p n c, .int .i64 10]) ck1) := Lib.hid (by
    have := (HO1.out.below ((Below.refl _ _).alloc (Nat.le_refl _) (.cells #[.slice p n c, .int .i64 10] 26))).out (S := fun _ => False) (fun R h => h.elim) 10
    rw [← HE1.out] at this; exact this)
  have HB2 : Hid (Below w.heap.size w (w1.alloc (.cells #[.slice p n c, .int .i64 10] 26))) := Lib.hid (HB1.out.alloc HB1.out.size _)
  obtain ⟨bc, hbc⟩ : ∃ z, z = w1.heap.size := ⟨_, rfl⟩
  have HBC : Hid (w.heap.size ≤ bc) := Lib.hid (by rw [hbc]; exact HB1.out.size)
  obtain ⟨w2, hw2⟩ : ∃ z, z = w1.alloc (.cells #[.slice p n c, .int .i64 10] 26) := ⟨_, rfl⟩
  rw [← hw2] at HK2 HO2 HB2 ⊢
  rw [← hbc] at HK2 ⊢
  clear hw2 hbc HO1 HB1 HE1
  have HT : Hid (Calls Try.prog 7 #[.agg #[.slice p n c, .int .i64 10], .int .i64 1, .int .i64 5, .slice (some ⟨w2.heap.size, 0, none⟩) 1 1] (w2.alloc (.cells core3.row 50)) fun e w' => OutW (w2.alloc (.cells core3.row 50)) w' e ck2 0) := Lib.hid (by
    have := tick_any _ ck1 1 5 (some ⟨w2.heap.size, 0, none⟩) 1 1 [core3] (w2.alloc (.cells core3.row 50)) (HO2.out.below ((Below.refl _ _).alloc (Nat.le_refl _) _)) rfl (Nat.le_refl _) (by omega) (blk_sl (Blk.new w2 _ _))
    rw [tick_ck2.1, tick_ck2.2] at this; exact this)
  have HK3 := Lib.hid (HK2.out.alloc (.cells core3.row 50))
  have HB3 : Hid (Below w.heap.size w (w2.alloc (.cells core3.row 50))) := Lib.hid (HB2.out.alloc HB2.out.size _)
  have HW3 : Hid (w2.alloc (.cells core3.row 50) = w2.alloc (.cells #[.int .u32 0, .int .u32 0, .int .u32 0, .int .u32 0, .int .u32 0, .int .u32 0, .int .u32 0, .int .u32 0, .int .i64 3, .bool false] 50)) := Lib.hid rfl
  have kC := HK2.out.c
  go_wp2_with fail
  rw [← HW3.out]
  refine HT.out.mono ?_
  rintro e w4 ⟨p', n', c', xs', rfl, ho, e2, hb⟩
  have HK4 := Lib.hid (HK3.out.below hb)
  have HB4 : Hid (Below w.heap.size w w4) := Lib.hid (HB3.out.trans (hb.mono HB3.out.size))
  have HO4 : Hid (Ko (fun R => R = bc) w4 (.agg #[.slice p' n' c', .int .i64 10]) ck2) := Lib.hid (by
    have := ho.out (S := fun R => R = bc) (fun R h => by rw [h]; exact HK3.out.lt) 10
    rw [← e2] at this; exact this)
  clear ho hb e2 HT HK3 HB3 HW3 kC HK2 HO2 HB2
  dsimp only [ck2]
  have kC := HK4.out.c
  have fC := HK4.out.f
  have lC := HK4.out.lt
  have HK5 := Lib.hid (set2_same HK4.out (.slice p' n' c') (.int .i64 10))
  have HO5 := Lib.hid (HO4.out.set2 rfl (.slice p' n' c') (.int .i64 10))
  have HB5 := Lib.hid (set2_below HB4.out HBC.out (.slice p' n' c') (.int .i64 10))
  go_upto_region 3 with fail
  obtain ⟨w5, hw5⟩ : ∃ z, z = (w4.setCell ⟨bc, 0, none⟩ (.slice p' n' c')).setCell ⟨bc, 1, none⟩ (.int .i64 10) := ⟨_, rfl⟩
  rw [← hw5] at HK5 HO5 HB5 ⊢
  clear hw5 HK4 HO4 HB4 kC fC lC
  have HS14 : Hid (Calls Try.prog 9 #[.agg #[.slice p' n' c', .int .i64 10], .int .i64 14] w5 fun e w' => OutM w5 w' e ⟨0, 0, []⟩ 0) := Lib.hid (by
    have := sure_any _ ck2 14 w5 HO5.out
    rw [sure14.1, sure14.2] at this; exact this)
  have kC := HK5.out.c
  go_wp2_with fail
  refine HS14.out.mono ?_
  rintro e w6 ⟨y, rfl, hr, hf, hm, hb⟩
  have HK6 := Lib.hid (HK5.out.below hb)
  have HO6 := Lib.hid (HO5.out.below hb)
  have HB6 : Hid (Below w.heap.size w w6) := Lib.hid (HB5.out.trans (hb.mono HB5.out.size))
  obtain ⟨ysp, yt, yq, ym, yc, ycs⟩ := y
  unfold Mv.mk' at hm
  injection hm with hm1 hm2 hm3
  dsimp only at hm1 hm2 hm3 ⊢
  subst hm1 hm2
  clear hr hf hm3 hb kC HK5 HO5 HB5 HS14
  go_upto_region 4 with fail
  have HK7 := Lib.hid (HK6.out.alloc (.cells #[.int .i64 0, .int .i64 0, .slice yq ym yc] 32))
  have HO7 := Lib.hid (HO6.out.below ((Below.refl _ _).alloc (Nat.le_refl _) (.cells #[.int .i64 0, .int .i64 0, .slice yq ym yc] 32)))
  have HB7 : Hid (Below w.heap.size w (w6.alloc (.cells #[.int .i64 0, .int .i64 0, .slice yq ym yc] 32))) := Lib.hid (HB6.out.alloc HB6.out.size _)
  have HA7 : Hid (Blk (w6.alloc (.cells #[.int .i64 0, .int .i64 0, .slice yq ym yc] 32)) w6.heap.size #[.int .i64 0, .int .i64 0, .slice yq ym yc]) := Lib.hid (Blk.new _ _ _)
  obtain ⟨ba, hba⟩ : ∃ z, z = w6.heap.size := ⟨_, rfl⟩
  obtain ⟨w7, hw7⟩ : ∃ z, z = w6.alloc (.cells #[.int .i64 0, .int .i64 0, .slice yq ym yc] 32) := ⟨_, rfl⟩
  rw [← hw7] at HK7 HO7 HB7 HA7 ⊢
  rw [← hba] at HA7 ⊢
  clear hw7 hba HK6 HO6 HB6
  have HS15 : Hid (Calls Try.prog 9 #[.agg #[.slice p' n' c', .int .i64 10], .int .i64 15] w7 fun e w' => OutM w7 w' e ⟨1, 5, [core3]⟩ 0) := Lib.hid (by
    have := sure_any _ ck2 15 w7 HO7.out
    rw [sure15.1, sure15.2] at this; exact this)
  have kC := HK7.out.c
  go_wp2_with fail
  refine HS15.out.mono ?_
  rintro e w8 ⟨z, rfl, hr, hf, hm, hb⟩
  have HK8 := Lib.hid (HK7.out.below hb)
  have HA8 := Lib.hid (HA7.out.below hb)
  have HO8 := Lib.hid (HO7.out.below hb)
  have HB8 : Hid (Below w.heap.size w w8) := Lib.hid (HB7.out.trans (hb.mono HB7.out.size))
  obtain ⟨zsp, zt, zq, zm, zc, zcs⟩ := z
  unfold Mv.mk' at hm
  injection hm with hm1 hm2 hm3
  dsimp only at hm1 hm2 hm3 ⊢
  subst hm1 hm2 hm3
  have hzm : 1 = zm := hr.ml
  subst hzm
  have HR8 := Lib.hid hr
  clear hr hf hb kC HK7 HO7 HB7 HA7 HS15
  go_upto_region 5 with fail
  have HK9 := Lib.hid (HK8.out.alloc (.cells #[.int .i64 1, .int .i64 5, .slice zq 1 zc] 32))
  have HA9 := Lib.hid (HA8.out.alloc (.cells #[.int .i64 1, .int .i64 5, .slice zq 1 zc] 32))
  have HO9 := Lib.hid (HO8.out.below ((Below.refl _ _).alloc (Nat.le_refl _) (.cells #[.int .i64 1, .int .i64 5, .slice zq 1 zc] 32)))
  have HR9 := Lib.hid (HR8.out.below ((Below.refl _ _).alloc (Nat.le_refl _) (.cells #[.int .i64 1, .int .i64 5, .slice zq 1 zc] 32)))
  have HB9 : Hid (Below w.heap.size w (w8.alloc (.cells #[.int .i64 1, .int .i64 5, .slice zq 1 zc] 32))) := Lib.hid (HB8.out.alloc HB8.out.size _)
  have HZ9 : Hid (Blk (w8.alloc (.cells #[.int .i64 1, .int .i64 5, .slice zq 1 zc] 32)) w8.heap.size #[.int .i64 1, .int .i64 5, .slice zq 1 zc]) := Lib.hid (Blk.new _ _ _)
  obtain ⟨bb, hbb⟩ : ∃ z, z = w8.heap.size := ⟨_, rfl⟩
  obtain ⟨w9, hw9⟩ : ∃ z, z = w8.alloc (.cells #[.int .i64 1, .int .i64 5, .slice zq 1 zc] 32) := ⟨_, rfl⟩
  rw [← hw9] at HK9 HO9 HB9 HA9 HR9 HZ9 ⊢
  rw [← hbb] at HZ9 ⊢
  clear hw9 hbb HK8 HO8 HB8 HA8 HR8
  obtain ⟨b, off, hbl, rfl, hcell⟩ := HR9.out.sl Nat.one_pos
  have c8 : w9.cell? ⟨b, off + 8, none⟩ = some (.int .i64 3) := hcell 8 (show 8 < (coresC [core3]).length by decide)
  have HRT : Hid (Calls Try.prog 12 #[.agg #[.slice p' n' c', .int .i64 10]] w9 fun e w' => e = .returned (.bool true) ∧ Below w9.heap.size w9 w') := Lib.hid (by
    have := right_any _ _ ck2 w9 HO9.out
    rw [right_ck2] at this; exact this)
  have kC := HK9.out.c
  have kA := HA9.out.c
  have kZ := HZ9.out.c
  clear hcell
  go_wp2_with fail
  refine HRT.out.mono ?_
  rintro e w10 ⟨rfl, hb⟩
  have HBE : Hid (Below w.heap.size w w10) := Lib.hid (HB9.out.trans (hb.mono HB9.out.size))
  clear hb
  go_wp2_with fail
  go_ret
  exact ⟨rfl, HBE.out⟩
end Go.Proofs.Ytbogkloemmddcaa
