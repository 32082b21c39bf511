/- The statements' fixed answer, awake; no condition. -/
import Derived.Test.YtoddmgaihggkjaaCacheP
import Derived.Deep.CutBlock
import Derived.Deep.DeepCutAuto
namespace Go.Proofs.Ytoddmgaihggkjaa
set_option linter.unusedVariables false
open Go.ChangeShapes Go.WideShapes Go.ChangeAt Go.RowKit

def aw0 : Ch := ⟨1, 2, 0, [[]]⟩
def aw1 : Ch := ⟨1, 2, 1, [[⟨1, 1, 10, 1⟩]]⟩
def aw2 : Ch := ⟨1, 2, 2, [[⟨1, 1, 10, 1⟩, ⟨2, 1, 20, 2⟩]]⟩
def aw3 : Ch := ⟨1, 2, 3, [[⟨1, 1, 10, 3⟩, ⟨2, 1, 20, 2⟩]]⟩
def aw4 : Ch := ⟨1, 2, 4, [[⟨1, 1, 10, 3⟩, ⟨3, 2, 30, 4⟩]]⟩
theorem aw_0 : newC 1 2 = aw0 ∧ newE 1 2 = 0 := ⟨rfl, rfl⟩
theorem aw_1 : putC aw0 1 1 10 = aw1 ∧ putO aw0 1 1 = zL ∧ putE aw0 1 1 = 0 := ⟨rfl, rfl, rfl⟩
theorem aw_2 : putC aw1 2 1 20 = aw2 ∧ putO aw1 2 1 = zL ∧ putE aw1 2 1 = 0 := ⟨rfl, rfl, rfl⟩
theorem aw_3 : useC aw2 1 = aw3 ∧ useE aw2 1 = 0 := ⟨rfl, rfl⟩
theorem aw_4 : putC aw3 3 2 30 = aw4 ∧ putO aw3 3 2 = ⟨2, 1, 20, 2⟩ ∧ putE aw3 3 2 = 0 := ⟨rfl, rfl, rfl⟩
theorem aw_5 : lookC aw4 1 = ⟨1, 1, 10, 3⟩ ∧ hasC aw4 1 = true ∧ (allC aw4).length = 2 ∧ rightC aw4 = true := ⟨rfl, rfl, rfl, rfl⟩

set_option maxHeartbeats 4000000 in
set_option maxRecDepth 100000 in
theorem awake_any (w : World) : Calls Try.prog 6 #[] w fun e w' => e = .returned (.bool true) ∧ Below w.heap.size w w' := by
  have h0 := new_any 1 2 w
  rw [aw_0.1, aw_0.2] at h0
  have H0 := Lib.hid h0
  clear h0
  go_enter Try.func6, Try.ntmps6
  go_upto_region 1 with fail
  go_wp2_with fail
  refine H0.out.mono ?_
  clear H0
  rintro e w1 ⟨v, rfl, ⟨p, n, c, xs, rfl, hcc, hoff⟩, hb⟩
  have HB : Hid (Below w.heap.size w w1) := Lib.hid hb
  have HC := Lib.hid hcc
  clear hoff hb hcc
  go_upto_region 2 with fail
  obtain ⟨b, hbe⟩ : ∃ b, b = w1.heap.size := ⟨_, rfl⟩
  obtain ⟨w2, hw2⟩ : ∃ w2, w2 = w1.alloc (.cells #[.int .i64 aw0.sets, .int .i64 aw0.ways, .int .i64 aw0.clock, .slice p n c] 24) := ⟨_, rfl⟩
  have HK1 : Hid (Blk w2 b #[.int .i64 aw0.sets, .int .i64 aw0.ways, .int .i64 aw0.clock, .slice p n c]) := Lib.hid (by rw [hw2, hbe]; exact Blk.new _ _ _)
  have HO1 : Hid (Co (fun R => R = b) w2 (.agg #[.int .i64 aw0.sets, .int .i64 aw0.ways, .int .i64 aw0.clock, .slice p n c]) aw0) := Lib.hid (by
    have h1 : Co (fun R => R = b) w1 (.agg #[.int .i64 aw0.sets, .int .i64 aw0.ways, .int .i64 aw0.clock, .slice p n c]) aw0 := ⟨_, _, _, _, rfl, HC.out, fun R hR => HC.out.off (by rw [hR, hbe]; exact Nat.le_refl _)⟩
    rw [hw2]; exact h1.below ((Below.refl _ _).alloc (Nat.le_refl _) _))
  have HW1 : Hid (Below w.heap.size w w2) := Lib.hid (by rw [hw2]; exact HB.out.alloc HB.out.size _)
  have HBG : Hid (w.heap.size ≤ b) := Lib.hid (by rw [hbe]; exact HB.out.size)
  rw [← hw2, ← hbe]
  clear hw2 hbe HC HB
  have hq := put_any (fun R => R = b) _ aw0 1 1 10 w2 HO1.out (fun R hR => by rw [hR]; exact HK1.out.lt) (by decide)
  rw [aw_1.1, aw_1.2.1, aw_1.2.2] at hq
  have HQ := Lib.hid hq
  clear hq
  have kc := HK1.out.c
  go_wp2_with fail
  refine HQ.out.mono ?_
  clear HQ kc
  rintro e v2 ⟨v, rfl, ⟨p2, n2, c2, xs2, rfl, hcc, hoff⟩, hb⟩
  have HKv := Lib.hid (HK1.out.below hb)
  have HOv : Hid (Co (fun R => R = b) v2 (.agg #[.int .i64 aw1.sets, .int .i64 aw1.ways, .int .i64 aw1.clock, .slice p2 n2 c2]) aw1) := Lib.hid ⟨_, _, _, _, rfl, hcc, hoff⟩
  have HWv : Hid (Below w.heap.size w v2) := Lib.hid (HW1.out.trans (hb.mono HW1.out.size))
  clear hb hcc hoff HK1 HO1 HW1
  have kc := HKv.out.c
  have kf := HKv.out.f
  have kl := HKv.out.lt
  go_upto_region 3 with fail
  obtain ⟨x2, hx2⟩ : ∃ x2, x2 = ((((v2.setCell ⟨b, 0, none⟩ (.int .i64 aw1.sets)).setCell ⟨b, 1, none⟩ (.int .i64 aw1.ways)).setCell ⟨b, 2, none⟩ (.int .i64 aw1.clock)).setCell ⟨b, 3, none⟩ (.slice p2 n2 c2)).alloc (.cells #[.int .i64 zL.addr, .int .i64 zL.state, .int .u32 zL.val, .int .i64 zL.used] 30) := ⟨_, rfl⟩
  obtain ⟨h1, h2, h3, h4⟩ := var_put (L := #[.int .i64 zL.addr, .int .i64 zL.state, .int .u32 zL.val, .int .i64 zL.used]) HKv.out HOv.out HWv.out HBG.out rfl x2 hx2
  have HK2 := Lib.hid h1
  have HO2 := Lib.hid h2
  have HW2 := Lib.hid h3
  rw [← hx2]
  clear hx2 h1 h2 h3 h4 kc kf kl HKv HOv HWv
  have hq := put_any (fun R => R = b) _ aw1 2 1 20 x2 HO2.out (fun R hR => by rw [hR]; exact HK2.out.lt) (by decide)
  rw [aw_2.1, aw_2.2.1, aw_2.2.2] at hq
  have HQ := Lib.hid hq
  clear hq
  have kc := HK2.out.c
  go_wp2_with fail
  refine HQ.out.mono ?_
  clear HQ kc
  rintro e v3 ⟨v, rfl, ⟨p3, n3, c3, xs3, rfl, hcc, hoff⟩, hb⟩
  have HKv := Lib.hid (HK2.out.below hb)
  have HOv : Hid (Co (fun R => R = b) v3 (.agg #[.int .i64 aw2.sets, .int .i64 aw2.ways, .int .i64 aw2.clock, .slice p3 n3 c3]) aw2) := Lib.hid ⟨_, _, _, _, rfl, hcc, hoff⟩
  have HWv : Hid (Below w.heap.size w v3) := Lib.hid (HW2.out.trans (hb.mono HW2.out.size))
  clear hb hcc hoff HK2 HO2 HW2
  have kc := HKv.out.c
  have kf := HKv.out.f
  have kl := HKv.out.lt
  go_upto_region 4 with fail
  obtain ⟨x3, hx3⟩ : ∃ x3, x3 = ((((v3.setCell ⟨b, 0, none⟩ (.int .i64 aw2.sets)).setCell ⟨b, 1, none⟩ (.int .i64 aw2.ways)).setCell ⟨b, 2, none⟩ (.int .i64 aw2.clock)).setCell ⟨b, 3, none⟩ (.slice p3 n3 c3)).alloc (.cells #[.int .i64 zL.addr, .int .i64 zL.state, .int .u32 zL.val, .int .i64 zL.used] 30) := ⟨_, rfl⟩
  obtain ⟨h1, h2, h3, h4⟩ := var_put (L := #[.int .i64 zL.addr, .int .i64 zL.state, .int .u32 zL.val, .int .i64 zL.used]) HKv.out HOv.out HWv.out HBG.out rfl x3 hx3
  have HK3 := Lib.hid h1
  have HO3 := Lib.hid h2
  have HW3 := Lib.hid h3
  rw [← hx3]
  clear hx3 h1 h2 h3 h4 kc kf kl HKv HOv HWv
  have hq := use_any (fun R => R = b) _ aw2 1 x3 HO3.out (fun R hR => by rw [hR]; exact HK3.out.lt)
  rw [aw_3.1, aw_3.2] at hq
  have HQ := Lib.hid hq
  clear hq
  have kc := HK3.out.c
  go_wp2_with fail
  refine HQ.out.mono ?_
  clear HQ kc
  rintro e v4 ⟨v, rfl, ⟨p4, n4, c4, xs4, rfl, hcc, hoff⟩, hb⟩
  have HKv := Lib.hid (HK3.out.below hb)
  have HOv : Hid (Co (fun R => R = b) v4 (.agg #[.int .i64 aw3.sets, .int .i64 aw3.ways, .int .i64 aw3.clock, .slice p4 n4 c4]) aw3) := Lib.hid ⟨_, _, _, _, rfl, hcc, hoff⟩
  have HWv : Hid (Below w.heap.size w v4) := Lib.hid (HW3.out.trans (hb.mono HW3.out.size))
  clear hb hcc hoff HK3 HO3 HW3
  have kc := HKv.out.c
  have kf := HKv.out.f
  have kl := HKv.out.lt
  go_upto_region 5 with fail
  obtain ⟨x4, hx4⟩ : ∃ x4, x4 = (((v4.setCell ⟨b, 0, none⟩ (.int .i64 aw3.sets)).setCell ⟨b, 1, none⟩ (.int .i64 aw3.ways)).setCell ⟨b, 2, none⟩ (.int .i64 aw3.clock)).setCell ⟨b, 3, none⟩ (.slice p4 n4 c4) := ⟨_, rfl⟩
  obtain ⟨h1, h2, h3, h4⟩ := var_use HKv.out HOv.out HWv.out HBG.out rfl x4 hx4
  have HK4 := Lib.hid h1
  have HO4 := Lib.hid h2
  have HW4 := Lib.hid h3
  rw [← hx4]
  clear hx4 h1 h2 h3 h4 kc kf kl HKv HOv HWv
  have hq := put_any (fun R => R = b) _ aw3 3 2 30 x4 HO4.out (fun R hR => by rw [hR]; exact HK4.out.lt) (by decide)
  rw [aw_4.1, aw_4.2.1, aw_4.2.2] at hq
  have HQ := Lib.hid hq
  clear hq
  have kc := HK4.out.c
  go_wp2_with fail
  refine HQ.out.mono ?_
  clear HQ kc
  rintro e v5 ⟨v, rfl, ⟨p5, n5, c5, xs5, rfl, hcc, hoff⟩, hb⟩
  have HKv := Lib.hid (HK4.out.below hb)
  have HOv : Hid (Co (fun R => R = b) v5 (.agg #[.int .i64 aw4.sets, .int .i64 aw4.ways, .int .i64 aw4.clock, .slice p5 n5 c5]) aw4) := Lib.hid ⟨_, _, _, _, rfl, hcc, hoff⟩
  have HWv : Hid (Below w.heap.size w v5) := Lib.hid (HW4.out.trans (hb.mono HW4.out.size))
  clear hb hcc hoff HK4 HO4 HW4
  have kc := HKv.out.c
  have kf := HKv.out.f
  have kl := HKv.out.lt
  go_upto_region 6 with fail
  obtain ⟨x5, hx5⟩ : ∃ x5, x5 = ((((v5.setCell ⟨b, 0, none⟩ (.int .i64 aw4.sets)).setCell ⟨b, 1, none⟩ (.int .i64 aw4.ways)).setCell ⟨b, 2, none⟩ (.int .i64 aw4.clock)).setCell ⟨b, 3, none⟩ (.slice p5 n5 c5)).alloc (.cells #[.int .i64 2, .int .i64 1, .int .u32 20, .int .i64 2] 30) := ⟨_, rfl⟩
  obtain ⟨h1, h2, h3, h4⟩ := var_put (L := #[.int .i64 2, .int .i64 1, .int .u32 20, .int .i64 2]) HKv.out HOv.out HWv.out HBG.out rfl x5 hx5
  have HK5 := Lib.hid h1
  have HO5 := Lib.hid h2
  have HW5 := Lib.hid h3
  obtain ⟨g5, hg5⟩ : ∃ g, g = v5.heap.size := ⟨_, rfl⟩
  rw [← hg5] at h4
  have HG5 := Lib.hid h4
  rw [← hx5]
  try rw [← hg5]
  clear hg5
  clear hx5 h1 h2 h3 h4 kc kf kl HKv HOv HWv
  have hq := look_any (fun R => R = b) _ aw4 1 x5 HO5.out
  rw [aw_5.1, aw_5.2.1] at hq
  have HQ := Lib.hid hq
  clear hq
  have kc := HK5.out.c
  go_wp2_with fail
  refine HQ.out.mono ?_
  clear HQ kc
  rintro e v6 ⟨rfl, hb⟩
  have HK6 := Lib.hid (HK5.out.below hb)
  have HO6 := Lib.hid (HO5.out.below hb)
  have HG6 := Lib.hid (HG5.out.below hb)
  have HW6 : Hid (Below w.heap.size w v6) := Lib.hid (HW5.out.trans (hb.mono HW5.out.size))
  clear hb HK5 HO5 HG5 HW5
  go_upto_region 7 with fail
  have HA : Hid (Below v6.heap.size v6 (v6.alloc (.cells #[.int .i64 1, .int .i64 1, .int .u32 10, .int .i64 3] 30))) := Lib.hid ((Below.refl _ _).alloc (Nat.le_refl _) _)
  obtain ⟨x6, hx6⟩ : ∃ x6, x6 = v6.alloc (.cells #[.int .i64 1, .int .i64 1, .int .u32 10, .int .i64 3] 30) := ⟨_, rfl⟩
  have HT7 : Hid (Blk x6 v6.heap.size #[.int .i64 1, .int .i64 1, .int .u32 10, .int .i64 3]) := Lib.hid (by rw [hx6]; exact Blk.new _ _ _)
  rw [← hx6] at HA ⊢
  have HK7 := Lib.hid (HK6.out.below HA.out)
  have HO7 := Lib.hid (HO6.out.below HA.out)
  have HG7 := Lib.hid (HG6.out.below HA.out)
  have HW7 : Hid (Below w.heap.size w x6) := Lib.hid (HW6.out.trans (HA.out.mono HW6.out.size))
  obtain ⟨g6, hg6⟩ : ∃ g, g = v6.heap.size := ⟨_, rfl⟩
  rw [← hg6] at HT7 ⊢
  clear hx6 hg6 HA HK6 HO6 HG6 HW6
  have kc := HK7.out.c
  have kg := HG7.out.c
  have kt := HT7.out.c
  have hq := fun W hb => all_any (fun R => R = b) _ aw4 W (HO7.out.below hb)
  rw [aw_5.2.2.1] at hq
  have HQ := Lib.hid hq
  have hr := fun W hb => right_any (fun R => R = b) _ aw4 W (HO7.out.below hb)
  rw [aw_5.2.2.2] at hr
  have HR := Lib.hid hr
  clear hq hr
  go_wp2_with fail
  refine (HQ.out _ (Below.refl _ _)).mono ?_
  rintro e v7 ⟨p7, c7, rfl, hc7, -, -, hb⟩
  have HW8 : Hid (Below w.heap.size w v7) := Lib.hid (HW7.out.trans (hb.mono HW7.out.size))
  have HK8 := Lib.hid (HK7.out.below hb)
  have HB8 := Lib.hid hb
  clear hb HQ kc kg kt
  have kc := HK8.out.c
  go_wp2_with fail
  refine (HR.out _ HB8.out).mono ?_
  rintro e v8 ⟨rfl, hb⟩
  have HW9 : Hid (Below w.heap.size w v8) := Lib.hid (HW8.out.trans (hb.mono HW8.out.size))
  clear hb
  go_wp2_with fail
  go_ret
  exact ⟨rfl, HW9.out⟩
end Go.Proofs.Ytoddmgaihggkjaa
