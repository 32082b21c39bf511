/- The statements' fixed answer, awake; no condition. -/
import Derived.Test.YtbgllkjhgjoodaaUnN
namespace Go.Proofs.Ytbgllkjhgjoodaa
set_option linter.unusedVariables false
open Go.ChangeShapes Go.WideShapes Go.ChangeAt Go.RowKit

set_option maxHeartbeats 4000000 in
set_option maxRecDepth 100000 in
theorem awake_any (w : World) : Calls Try.prog 6 #[] w fun e w' => e = .returned (.bool true) ∧ Below w.heap.size w w' := by
  have h0 := new_any (fun _ => False) 2 w (fun _ h => h.elim)
  rw [aw_0.1, aw_0.2] at h0
  have H0 := Lib.hid h0
  clear h0
  go_enter Try.func6, Try.ntmps6
  go_upto_region 1 with fail
  go_wp2_with fail
  refine H0.out.mono ?_
  clear H0
  rintro e w1 ⟨v, rfl, hlo, hb⟩
  have HB : Hid (Below w.heap.size w w1) := Lib.hid hb
  obtain ⟨p, m, c, q, n, d, rfl, hcc, hoff⟩ := hlo
  have HC : Hid (Lo (fun _ => False) w1 (.agg #[.slice p m c, .int .i64 aw0.span, .slice q n d]) aw0) := Lib.hid ⟨p, m, c, q, n, d, rfl, hcc, hoff⟩
  clear hoff hb hcc
  go_upto_region 2 with fail
  obtain ⟨b, hbe⟩ : ∃ b, b = w1.heap.size := ⟨_, rfl⟩
  obtain ⟨x0, hx0⟩ : ∃ x, x = w1.alloc (.cells #[.slice p m c, .int .i64 aw0.span, .slice q n d] 25) := ⟨_, rfl⟩
  have HV0 : Hid (Var (fun R => R = b) x0 b aw0) := Lib.hid (by
    rw [hx0, hbe]
    exact Var.newt _ (HC.out.later (fun R hR => .inr (by rw [hR]; exact Nat.le_refl _)))
    )
  have HW0 : Hid (Below w.heap.size w x0) := Lib.hid (by rw [hx0]; exact HB.out.alloc HB.out.size _)
  have HBG : Hid (w.heap.size ≤ b) := Lib.hid (by rw [hbe]; exact HB.out.size)
  rw [← hx0, ← hbe]
  clear hx0 hbe HC HB
  obtain ⟨p0, m0, c0, q0, n0, d0, hk, hlo, hlc⟩ := HV0.out.lo
  have hq := write_any (fun R => R = b) _ aw0 0 5 x0 hlo (fun R hR => by rw [hR]; exact hk.lt)
  rw [aw_1.1, aw_1.2] at hq
  have HQ := Lib.hid hq
  have HK := Lib.hid hk
  clear hq hlo hlc HV0
  have kc := HK.out.c
  clear hk
  go_wp2_with fail
  refine HQ.out.mono ?_
  clear HQ kc
  rintro e v0 ⟨v, rfl, hlo, hb⟩
  obtain ⟨p, m, c, q, n, d, rfl, hcc, hoff⟩ := hlo
  have HKv := Lib.hid (HK.out.below hb)
  have HOv : Hid (Lo (fun R => R = b) v0 (.agg #[.slice p m c, .int .i64 aw1.span, .slice q n d]) aw1) := Lib.hid ⟨p, m, c, q, n, d, rfl, hcc, hoff⟩
  have HWv : Hid (Below w.heap.size w v0) := Lib.hid (HW0.out.trans (hb.mono HW0.out.size))
  clear hb hcc hoff HK HW0
  have kc := HKv.out.c
  have kf := HKv.out.f
  have kl := HKv.out.lt
  go_upto_region 3 with fail
  obtain ⟨x1, hx⟩ : ∃ x, x = ((v0.setCell ⟨b, 0, none⟩ (.slice p m c)).setCell ⟨b, 1, none⟩ (.int .i64 aw1.span)).setCell ⟨b, 2, none⟩ (.slice q n d) := ⟨_, rfl⟩
  have HV1 : Hid (Var (fun R => R = b) x1 b aw1) := Lib.hid (by rw [hx]; exact Var.put HKv.out HOv.out rfl)
  have HW1 : Hid (Below w.heap.size w x1) := Lib.hid (by rw [hx]; exact set3_below HWv.out HBG.out _ _ _)
  rw [← hx]
  clear hx kc kf kl HKv HOv HWv
  obtain ⟨p1, m1, c1, q1, n1, d1, hk, hlo, hlc⟩ := HV1.out.lo
  have hq := next_any (fun R => R = b) _ aw1 x1 hlo (fun R hR => by rw [hR]; exact hk.lt)
  rw [aw_2.1, aw_2.2] at hq
  have HQ := Lib.hid hq
  have HK := Lib.hid hk
  clear hq hlo hlc HV1
  have kc := HK.out.c
  clear hk
  go_wp2_with fail
  refine HQ.out.mono ?_
  clear HQ kc
  rintro e v1 ⟨v, rfl, hlo, hb⟩
  obtain ⟨p, m, c, q, n, d, rfl, hcc, hoff⟩ := hlo
  have HKv := Lib.hid (HK.out.below hb)
  have HOv : Hid (Lo (fun R => R = b) v1 (.agg #[.slice p m c, .int .i64 aw2.span, .slice q n d]) aw2) := Lib.hid ⟨p, m, c, q, n, d, rfl, hcc, hoff⟩
  have HWv : Hid (Below w.heap.size w v1) := Lib.hid (HW1.out.trans (hb.mono HW1.out.size))
  clear hb hcc hoff HK HW1
  have kc := HKv.out.c
  have kf := HKv.out.f
  have kl := HKv.out.lt
  go_upto_region 4 with fail
  obtain ⟨x2, hx⟩ : ∃ x, x = ((v1.setCell ⟨b, 0, none⟩ (.slice p m c)).setCell ⟨b, 1, none⟩ (.int .i64 aw2.span)).setCell ⟨b, 2, none⟩ (.slice q n d) := ⟨_, rfl⟩
  have HV2 : Hid (Var (fun R => R = b) x2 b aw2) := Lib.hid (by rw [hx]; exact Var.put HKv.out HOv.out rfl)
  have HW2 : Hid (Below w.heap.size w x2) := Lib.hid (by rw [hx]; exact set3_below HWv.out HBG.out _ _ _)
  rw [← hx]
  clear hx kc kf kl HKv HOv HWv
  obtain ⟨p2, m2, c2, q2, n2, d2, hk, hlo, hlc⟩ := HV2.out.lo
  have hq := write_any (fun R => R = b) _ aw2 0 6 x2 hlo (fun R hR => by rw [hR]; exact hk.lt)
  rw [aw_3.1, aw_3.2] at hq
  have HQ := Lib.hid hq
  have HK := Lib.hid hk
  clear hq hlo hlc HV2
  have kc := HK.out.c
  clear hk
  go_wp2_with fail
  refine HQ.out.mono ?_
  clear HQ kc
  rintro e v2 ⟨v, rfl, hlo, hb⟩
  obtain ⟨p, m, c, q, n, d, rfl, hcc, hoff⟩ := hlo
  have HKv := Lib.hid (HK.out.below hb)
  have HOv : Hid (Lo (fun R => R = b) v2 (.agg #[.slice p m c, .int .i64 aw3.span, .slice q n d]) aw3) := Lib.hid ⟨p, m, c, q, n, d, rfl, hcc, hoff⟩
  have HWv : Hid (Below w.heap.size w v2) := Lib.hid (HW2.out.trans (hb.mono HW2.out.size))
  clear hb hcc hoff HK HW2
  have kc := HKv.out.c
  have kf := HKv.out.f
  have kl := HKv.out.lt
  go_upto_region 5 with fail
  obtain ⟨x3, hx⟩ : ∃ x, x = ((v2.setCell ⟨b, 0, none⟩ (.slice p m c)).setCell ⟨b, 1, none⟩ (.int .i64 aw3.span)).setCell ⟨b, 2, none⟩ (.slice q n d) := ⟨_, rfl⟩
  have HV3 : Hid (Var (fun R => R = b) x3 b aw3) := Lib.hid (by rw [hx]; exact Var.put HKv.out HOv.out rfl)
  have HW3 : Hid (Below w.heap.size w x3) := Lib.hid (by rw [hx]; exact set3_below HWv.out HBG.out _ _ _)
  rw [← hx]
  clear hx kc kf kl HKv HOv HWv
  obtain ⟨p3, m3, c3, q3, n3, d3, hk, hlo, hlc⟩ := HV3.out.lo
  have hq := write_any (fun R => R = b) _ aw3 0 7 x3 hlo (fun R hR => by rw [hR]; exact hk.lt)
  rw [aw_4.1, aw_4.2] at hq
  have HQ := Lib.hid hq
  have HK := Lib.hid hk
  clear hq hlo hlc HV3
  have kc := HK.out.c
  clear hk
  go_wp2_with fail
  refine HQ.out.mono ?_
  clear HQ kc
  rintro e v3 ⟨v, rfl, hlo, hb⟩
  obtain ⟨p, m, c, q, n, d, rfl, hcc, hoff⟩ := hlo
  have HKv := Lib.hid (HK.out.below hb)
  have HOv : Hid (Lo (fun R => R = b) v3 (.agg #[.slice p m c, .int .i64 aw4.span, .slice q n d]) aw4) := Lib.hid ⟨p, m, c, q, n, d, rfl, hcc, hoff⟩
  have HWv : Hid (Below w.heap.size w v3) := Lib.hid (HW3.out.trans (hb.mono HW3.out.size))
  clear hb hcc hoff HK HW3
  have kc := HKv.out.c
  have kf := HKv.out.f
  have kl := HKv.out.lt
  go_upto_region 6 with fail
  obtain ⟨x4, hx⟩ : ∃ x, x = ((v3.setCell ⟨b, 0, none⟩ (.slice p m c)).setCell ⟨b, 1, none⟩ (.int .i64 aw4.span)).setCell ⟨b, 2, none⟩ (.slice q n d) := ⟨_, rfl⟩
  have HV4 : Hid (Var (fun R => R = b) x4 b aw4) := Lib.hid (by rw [hx]; exact Var.put HKv.out HOv.out rfl)
  have HW4 : Hid (Below w.heap.size w x4) := Lib.hid (by rw [hx]; exact set3_below HWv.out HBG.out _ _ _)
  rw [← hx]
  clear hx kc kf kl HKv HOv HWv
  obtain ⟨p4, m4, c4, q4, n4, d4, hk, hlo, hlc⟩ := HV4.out.lo
  have hq := back_any (fun R => R = b) _ aw4 1 x4 hlo (fun R hR => by rw [hR]; exact hk.lt)
  rw [aw_5.1, aw_5.2] at hq
  have HQ := Lib.hid hq
  have HK := Lib.hid hk
  have HN4 : Hid (n4 = 2) := Lib.hid hlc.ll.symm
  clear hq hlo hlc HV4
  have kc := HK.out.c
  clear hk
  go_wp2_with fail
  refine HQ.out.mono ?_
  clear HQ kc
  rintro e v4 ⟨v, rfl, hlo, hb⟩
  obtain ⟨p, m, c, q, n, d, rfl, hcc, hoff⟩ := hlo
  have HKv := Lib.hid (HK.out.below hb)
  have HOv : Hid (Lo (fun _ => False) v4 (.agg #[.slice p m c, .int .i64 aw2.span, .slice q n d]) aw2) := Lib.hid ⟨p, m, c, q, n, d, rfl, hcc, fun _ h => h.elim⟩
  have HWv : Hid (Below w.heap.size w v4) := Lib.hid (HW4.out.trans (hb.mono HW4.out.size))
  have hn4 : n4 = 2 := HN4.out
  have hm2 : m = 2 := hcc.ml.symm
  have hn2 : n = 1 := hcc.ll.symm
  obtain ⟨bm, off, rfl, hbl, hcell⟩ := hcc.wdAt 0 (by omega)
  have hcell5 : v4.cell? ⟨bm, off, none⟩ = some (.int .u32 5) := hcell
  subst hm2 hn2 hn4
  clear hb hcc hoff HK HW4 hcell
  go_upto_region 7 with fail
  obtain ⟨bb, hbb⟩ : ∃ b, b = v4.heap.size := ⟨_, rfl⟩
  obtain ⟨x5, hx5⟩ : ∃ x, x = v4.alloc (.cells #[.slice (some ⟨bm, off, none⟩) 2 c, .int .i64 aw2.span, .slice q 1 d] 25) := ⟨_, rfl⟩
  have HA : Hid (Below v4.heap.size v4 x5) := Lib.hid (by rw [hx5]; exact (Below.refl _ _).alloc (Nat.le_refl _) _)
  have HX : Hid (Blk x5 bb #[.slice (some ⟨bm, off, none⟩) 2 c, .int .i64 aw2.span, .slice q 1 d]) := Lib.hid (by rw [hx5, hbb]; exact Blk.new _ _ _)
  have HK5 := Lib.hid (HKv.out.below HA.out)
  have HW5 : Hid (Below w.heap.size w x5) := Lib.hid (HWv.out.trans (HA.out.mono HWv.out.size))
  have c5 := (HA.out.cell (p := ⟨bm, off, none⟩) hbl).trans hcell5
  have HQ := Lib.hid (room_any _ _ _ x5 (HOv.out.below HA.out))
  rw [aw_6] at HQ
  rw [← hx5, ← hbb]
  clear hx5 hbb HA HKv HWv HOv hbl hcell5
  have kb := HX.out.c
  have kl := HK5.out.c
  go_wp2_with fail
  refine HQ.out.mono ?_
  rintro e x6 ⟨rfl, hb⟩
  have HW6 : Hid (Below w.heap.size w x6) := Lib.hid (HW5.out.trans (hb.mono HW5.out.size))
  clear hb HQ kb kl c5
  go_wp2_with fail
  go_ret
  exact ⟨by first | rfl | simp, HW6.out⟩
end Go.Proofs.Ytbgllkjhgjoodaa
