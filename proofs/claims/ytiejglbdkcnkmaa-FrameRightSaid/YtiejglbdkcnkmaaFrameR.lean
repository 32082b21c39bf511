/- FrameRight: the walk of the statement's function. -/
import Derived.Test.YtiejglbdkcnkmaaFrameH
namespace Go.Proofs.Ytiejglbdkcnkmaa
set_option linter.unusedVariables false
open Go.ChangeShapes Go.WideShapes Go.ChangeAt Go.RowKit

/-- The bytes that Put answers, and its error. -/
def outL (m : Msg) : List Nat := if mayM m then frameL m.k.toNat m.f.toNat m.t.toNat m.l.toNat m.o.toNat m.a.toNat m.own m.n m.v else []
def outE (m : Msg) : Int := if mayM m then 0 else 1
theorem byts_nil (w : World) : Byts w none [] := ⟨(fun x hx => by cases hx), (fun h0 => absurd h0 (by decide))⟩
theorem put_out (m : Msg) (w : World) (hn : m.n < 4294967296) (hv : m.v < 4294967296) :
    Calls Try.prog 7 #[.agg m.row] w fun e w' => ∃ q n c, e = .returned (.tuple #[.slice q n c, .int .i64 (outE m)]) ∧ (outL m).length = n ∧ Byts w' q (outL m) ∧ Below w.heap.size w w' := by
  unfold outL outE
  cases h : mayM m with
  | false => exact (put_no m w h).mono fun e w' ⟨h1, h2⟩ => ⟨none, 0, 0, h1, rfl, byts_nil w', h2⟩
  | true =>
    obtain ⟨k, f, t, l, o, a, own, n, v, rfl, hf⟩ := may_fit h hn hv
    refine (put_fit k f t l o a own n v w hf).mono fun e w' => ?_
    rintro ⟨g, cap, rfl, h1, h2⟩
    exact ⟨_, _, _, rfl, rfl, h1.byts rfl (frame_lt hf), h2⟩
theorem rput_out (m : Msg) (w : World) (hn : m.n < 4294967296) (hv : m.v < 4294967296) :
    Calls Try.prog 8 #[.agg m.row] w fun e w' => ∃ q n c, e = .returned (.tuple #[.slice q n c, .int .i64 (outE m)]) ∧ (outL m).length = n ∧ Byts w' q (outL m) ∧ Below w.heap.size w w' := by
  unfold outL outE
  cases h : mayM m with
  | false => exact (rput_no m w h).mono fun e w' ⟨h1, h2⟩ => ⟨none, 0, 0, h1, rfl, byts_nil w', h2⟩
  | true =>
    obtain ⟨k, f, t, l, o, a, own, n, v, rfl, hf⟩ := may_fit h hn hv
    have hc : Calls Try.prog 8 #[.agg (Msg.row ⟨k, f, t, l, o, a, own, n, v⟩)] w fun e w' => ∃ r, e = .returned (.tuple #[r, .int .i64 0]) ∧ w'.ownsRow w.heap.size 5 1 r 19 (u8C (frameL k f t l o a own n v)) ∧ Below w.heap.size w w' := by
      cases own
      · exact rput_f k f t l o a n v w hf.may hf.hk hf.hf hf.ht hf.hl hf.ho hf.ha hf.hn hf.hv
      · exact rput_t k f t l o a n v w hf.may hf.hk hf.hf hf.ht hf.hl hf.ho hf.ha hf.hn hf.hv
    refine hc.mono fun e w' => ?_
    rintro ⟨r, rfl, h1, h2⟩
    obtain ⟨g, cap, rfl, h3, h4, h5⟩ := own_form h1 (by decide)
    exact ⟨_, _, _, rfl, rfl, byts_own h1 rfl (frame_lt hf), h2⟩

set_option maxHeartbeats 4000000 in
set_option maxRecDepth 100000 in
theorem right_main (m : Msg) (p : Option Addr) (len cap : Nat) (l0 : List Nat) (w : World) (hn : m.n < 4294967296) (hv : m.v < 4294967296) (hz : l0.length = len) (hm : len ≤ maxLen) (hc : len ≤ cap) (h : Byts w p l0) :
    Calls Try.prog 3 #[.agg m.row, .slice p len cap] w fun e w' => e = .returned (.bool true) ∧ Below w.heap.size w w' := by
  have HP := Lib.hid (fun W => put_out m W hn hv)
  have HP2 := Lib.hid (fun W => rput_out m W hn hv)
  have HM := Lib.hid (fun W => may_any m W)
  have HM2 := Lib.hid (fun W => rmay_any m W)
  have HZ := Lib.hid hz
  have HBY := Lib.hid h
  have HC := Lib.hid hc
  obtain ⟨x, hx⟩ : ∃ x, x = outL m := ⟨_, rfl⟩
  obtain ⟨eo, heo⟩ : ∃ x, x = outE m := ⟨_, rfl⟩
  obtain ⟨q, hq⟩ : ∃ x, x = mayM m := ⟨_, rfl⟩
  rw [← hx, ← heo] at HP HP2
  rw [← hq] at HM HM2
  obtain ⟨k, f, t, l, o, a, own, n, v, hmm⟩ : ∃ k f t l o a own n v, m = ⟨k, f, t, l, o, a, own, n, v⟩ := ⟨_, _, _, _, _, _, _, _, _, rfl⟩
  have hrow : m.row = #[.int .i64 k, .int .i64 f, .int .i64 t, .int .i64 l, .int .i64 o, .int .i64 a, .bool own, .int .u32 n, .int .u32 v] := by rw [hmm]; rfl
  rw [hrow] at HP HP2 HM HM2 ⊢
  clear hrow hmm hz h hm hc hn hv hx heo hq
  go_enter Try.func3, Try.ntmps3
  go_wp2_with fail
  refine (awake_any _).mono ?_
  rintro e w1 ⟨rfl, hb1⟩
  have HB1 : Hid (Below w.heap.size w w1) := Lib.hid (((Below.refl _ _).alloc (Nat.le_refl _) _).trans (hb1.mono (by simp)))
  have HK1 : Hid (Blk w1 w.heap.size #[.int .i64 k, .int .i64 f, .int .i64 t, .int .i64 l, .int .i64 o, .int .i64 a, .bool own, .int .u32 n, .int .u32 v]) := Lib.hid (Blk.track1 hb1)
  clear hb1
  obtain ⟨N, hN⟩ : ∃ N, N = min len 1000 := ⟨_, rfl⟩
  have HNN := Lib.hid hN
  have HN2 : Hid (N ≤ 1000) := Lib.hid (by omega)
  have HL : Hid ((l0.take N).length = N) := Lib.hid (by rw [List.length_take, HZ.out]; omega)
  have HBN : Hid (Byts w1 p (l0.take N)) := Lib.hid (byts_take (HBY.out.below HB1.out))
  have HNC : Hid (N ≤ cap) := Lib.hid (by have := HC.out; omega)
  obtain ⟨y, hy⟩ : ∃ y, y = l0.take N := ⟨_, rfl⟩
  rw [← hy] at HL HBN
  clear hN hy
  go_upto_region 3 with fail
  go_cut [1] (fun s1 wd => s1 = .slice p N cap ∧ wd = w1)
  case first =>
    by_cases h1000 : (1000 : Int) < (len : Int)
    · have eN : N = 1000 := by rw [HNN.out]; omega
      have hNc : (1000 : Int) ≤ (cap : Int) := by have := HC.out; omega
      go_wp2_with fail
      all_goals
        go_meet
        case rel => exact ⟨by rw [eN], rfl⟩
    · have eN : N = len := by rw [HNN.out]; omega
      have hNc : (len : Int) ≤ (cap : Int) := by have := HC.out; omega
      go_wp2_with fail
      all_goals
        go_meet
        case rel => exact ⟨by rw [eN], rfl⟩
  case rest =>
    obtain ⟨rfl, rfl⟩ := hcut
    obtain ⟨w1, hw1⟩ : ∃ W, W = wc := ⟨_, rfl⟩
    subst hw1
    have cB := HK1.out.c
    have lB := HK1.out.lt
    go_wp2_with fail
    refine (HP.out _).mono ?_
    rintro e w2 ⟨q1, n1, c1, rfl, z1, y1, hb2⟩
    have HB2 : Hid (Below w.heap.size w w2) := Lib.hid (HB1.out.trans (hb2.mono HB1.out.size))
    have HK2 := Lib.hid (HK1.out.below hb2)
    have HY2 := Lib.hid (HBN.out.below hb2)
    have HX2 := Lib.hid y1
    have HZ1 := Lib.hid z1
    clear hb2 cB lB HP y1 z1 HK1 HB1 HBN
    have cB := HK2.out.c
    have lB := HK2.out.lt
    go_wp2_with fail
    refine (HP2.out _).mono ?_
    rintro e w3 ⟨q2, n2', c2, rfl, z2, y2, hb3⟩
    have HB3 : Hid (Below w.heap.size w w3) := Lib.hid (HB2.out.trans (hb3.mono HB2.out.size))
    have HK3 := Lib.hid (HK2.out.below hb3)
    have HY3 := Lib.hid (HY2.out.below hb3)
    have HX3 := Lib.hid (HX2.out.below hb3)
    have HXR3 := Lib.hid y2
    have HZ2 := Lib.hid z2
    clear hb3 cB lB HP2 y2 z2 HK2 HB2 HY2 HX2
    have hr := fun W (h : Byts W p y) => read_any p N cap y W HL.out (by have := HN2.out; unfold maxLen; omega) HNC.out h
    have hr2 := fun W (h : Byts W p y) => rread_any p N cap y W HL.out (by have := HN2.out; unfold maxLen; omega) HNC.out h
    obtain ⟨k2, f2, t2, l2, o2, a2, own2, n2, v2, hm2⟩ : ∃ k f t l o a own n v, readM y = ⟨k, f, t, l, o, a, own, n, v⟩ := ⟨_, _, _, _, _, _, _, _, _, rfl⟩
    have hrow2 : (readM y).row = #[.int .i64 k2, .int .i64 f2, .int .i64 t2, .int .i64 l2, .int .i64 o2, .int .i64 a2, .bool own2, .int .u32 n2, .int .u32 v2] := by rw [hm2]; rfl
    obtain ⟨er, her⟩ : ∃ er, er = readE y := ⟨_, rfl⟩
    rw [hrow2, ← her] at hr hr2
    have HR := Lib.hid hr
    have HR2 := Lib.hid hr2
    have heq : ∀ W, (binOp .eql 24 (.agg #[.int .i64 k2, .int .i64 f2, .int .i64 t2, .int .i64 l2, .int .i64 o2, .int .i64 a2, .bool own2, .int .u32 n2, .int .u32 v2]) (.agg #[.int .i64 k2, .int .i64 f2, .int .i64 t2, .int .i64 l2, .int .i64 o2, .int .i64 a2, .bool own2, .int .u32 n2, .int .u32 v2])).run Try.prog W = .ok (.bool true) W := fun W => by
      have := eq_msg W (readM y) (readM y)
      rw [eqM_refl, hrow2] at this
      exact this
    have HEQ := Lib.hid heq
    clear hr hr2 hm2 hrow2 her heq
    go_wp2_with fail
    refine (HR.out _ HY3.out).mono ?_
    rintro e w4 ⟨rfl, hb4⟩
    have HB4 : Hid (Below w.heap.size w w4) := Lib.hid (HB3.out.trans (hb4.mono HB3.out.size))
    have HK4 := Lib.hid (HK3.out.below hb4)
    have HY4 := Lib.hid (HY3.out.below hb4)
    have HX4 := Lib.hid (HX3.out.below hb4)
    have HXR4 := Lib.hid (HXR3.out.below hb4)
    clear hb4 HR HB3 HK3 HY3 HX3 HXR3
    go_upto_region 7 with fail
    obtain ⟨w5, hw5⟩ : ∃ u, u = w4.alloc (.cells #[.int .i64 k2, .int .i64 f2, .int .i64 t2, .int .i64 l2, .int .i64 o2, .int .i64 a2, .bool own2, .int .u32 n2, .int .u32 v2] 24) := ⟨_, rfl⟩
    have HA : Hid (Below w4.heap.size w4 w5) := by rw [hw5]; exact (Below.refl _ _).alloc (Nat.le_refl _) _
    have HN5 : Hid (Blk w5 w4.heap.size #[.int .i64 k2, .int .i64 f2, .int .i64 t2, .int .i64 l2, .int .i64 o2, .int .i64 a2, .bool own2, .int .u32 n2, .int .u32 v2]) := by rw [hw5]; exact Blk.new _ _ _
    rw [← hw5]
    clear hw5
    have HB5 : Hid (Below w.heap.size w w5) := Lib.hid (HB4.out.trans (HA.out.mono HB4.out.size))
    have HK5 := Lib.hid (HK4.out.below HA.out)
    have HY5 := Lib.hid (HY4.out.below HA.out)
    have HX5 := Lib.hid (HX4.out.below HA.out)
    have HXR5 := Lib.hid (HXR4.out.below HA.out)
    clear HA HB4 HK4 HY4 HX4 HXR4
    go_wp2_with fail
    refine (HR2.out _ HY5.out).mono ?_
    rintro e w6 ⟨rfl, hb6⟩
    have HB6 : Hid (Below w.heap.size w w6) := Lib.hid (HB5.out.trans (hb6.mono HB5.out.size))
    have HK6 := Lib.hid (HK5.out.below hb6)
    have HN6 := Lib.hid (HN5.out.below hb6)
    have HY6 := Lib.hid (HY5.out.below hb6)
    have HX6 := Lib.hid (HX5.out.below hb6)
    have HXR6 := Lib.hid (HXR5.out.below hb6)
    clear hb6 HR2 HB5 HK5 HY5 HX5 HXR5 HN5
    go_upto_region 8 with fail
    obtain ⟨W, hW⟩ : ∃ u, u = w6.alloc (.cells #[.int .i64 k2, .int .i64 f2, .int .i64 t2, .int .i64 l2, .int .i64 o2, .int .i64 a2, .bool own2, .int .u32 n2, .int .u32 v2] 24) := ⟨_, rfl⟩
    have HA : Hid (Below w6.heap.size w6 W) := by rw [hW]; exact (Below.refl _ _).alloc (Nat.le_refl _) _
    have HO : Hid (Blk W w6.heap.size #[.int .i64 k2, .int .i64 f2, .int .i64 t2, .int .i64 l2, .int .i64 o2, .int .i64 a2, .bool own2, .int .u32 n2, .int .u32 v2]) := by rw [hW]; exact Blk.new _ _ _
    rw [← hW]
    clear hW
    have HB7 : Hid (Below w.heap.size w W) := Lib.hid (HB6.out.trans (HA.out.mono HB6.out.size))
    have HK7 := Lib.hid (HK6.out.below HA.out)
    have HN7 := Lib.hid (HN6.out.below HA.out)
    have HY7 := Lib.hid (HY6.out.below HA.out)
    have HX7 := Lib.hid (HX6.out.below HA.out)
    have HXR7 := Lib.hid (HXR6.out.below HA.out)
    clear HA HB6 HK6 HY6 HX6 HXR6 HN6
    obtain ⟨S, hS0⟩ : ∃ S, S = strN x := ⟨_, rfl⟩
    have HKEEP : Hid (∀ u : World, Below W.heap.size W u → (∀ j, u.cell? ⟨w.heap.size, j, none⟩ = (#[.int .i64 k, .int .i64 f, .int .i64 t, .int .i64 l, .int .i64 o, .int .i64 a, .bool own, .int .u32 n, .int .u32 v] : Array Value)[j]?) ∧ (∀ j, u.cell? ⟨w4.heap.size, j, none⟩ = (#[.int .i64 k2, .int .i64 f2, .int .i64 t2, .int .i64 l2, .int .i64 o2, .int .i64 a2, .bool own2, .int .u32 n2, .int .u32 v2] : Array Value)[j]?) ∧ (∀ j, u.cell? ⟨w6.heap.size, j, none⟩ = (#[.int .i64 k2, .int .i64 f2, .int .i64 t2, .int .i64 l2, .int .i64 o2, .int .i64 a2, .bool own2, .int .u32 n2, .int .u32 v2] : Array Value)[j]?) ∧ (convert 25 9 (.slice q1 n1 c1)).run Try.prog u = .ok (.string S) u ∧ (convert 25 9 (.slice q2 n2' c2)).run Try.prog u = .ok (.string S) u) := Lib.hid (fun u hu =>
      ⟨(HK7.out.below hu).c, (HN7.out.below hu).c, (HO.out.below hu).c, by rw [hS0]; exact conv_byts (HX7.out.below hu) HZ1.out, by rw [hS0]; exact conv_byts (HXR7.out.below hu) HZ2.out⟩)
    clear hS0
    have heq := HEQ.out
    refine region_plan (fun w' : World => Below W.heap.size W w') 34 [(0, true), (2, true), (1, false), (3, false), (4, true), (5, true), (6, true), (8, true), (7, false), (9, false), (10, true), (11, true), (12, true), (13, true), (14, true), (15, true), (16, true), (17, true), (18, true), (19, true), (20, true), (21, true), (22, true), (23, true), (24, true), (25, true), (26, true), (27, true), (28, true), (29, true), (30, true), (31, true), (32, true), (33, true)] (by kernel_rfl) (by kernel_rfl) (Below.refl _ _).drew ?_
    iterate 2
      refine plan_read (v := ?_) rfl (by rfl) ?_ ?_
      rotate_left
      · intro w' hS
        try dsimp only at hS
        obtain ⟨cB, cN, cO, v1, v2⟩ := HKEEP.out w' hS
        go_simp
        try with_reducible rfl
      try simp only [Act.put, List.setIfInBounds_toArray, List.set_cons_zero, List.set_cons_succ, List.getElem_toArray, List.getElem_cons_zero, List.getElem_cons_succ, beq_self_eq_true]
    refine plan_call (F := 11) (args := ?_) rfl (by rfl) ?_ ?_
    rotate_left
    · go_simp
      rfl
    refine (HM.out _).mono ?_
    rintro e w7 ⟨rfl, hb7⟩
    have HC7 : Hid (Below W.heap.size W w7) := Lib.hid ((Below.refl _ _).drew.trans hb7)
    clear hb7
    refine ⟨_, rfl, HC7.out, ?_⟩
    try simp only [Act.put, List.setIfInBounds_toArray, List.set_cons_zero, List.set_cons_succ, List.getElem_toArray, List.getElem_cons_zero, List.getElem_cons_succ, beq_self_eq_true]
    refine plan_call (F := 12) (args := ?_) rfl (by rfl) ?_ ?_
    rotate_left
    · go_simp
      rfl
    refine (HM2.out _).mono ?_
    rintro e w8 ⟨rfl, hb8⟩
    have HC8 : Hid (Below W.heap.size W w8) := Lib.hid (HC7.out.trans (hb8.mono HC7.out.size))
    clear hb8
    refine ⟨_, rfl, HC8.out, ?_⟩
    try simp only [Act.put, List.setIfInBounds_toArray, List.set_cons_zero, List.set_cons_succ, List.getElem_toArray, List.getElem_cons_zero, List.getElem_cons_succ, beq_self_eq_true]
    iterate 4
      refine plan_read (v := ?_) rfl (by rfl) ?_ ?_
      rotate_left
      · intro w' hS
        try dsimp only at hS
        obtain ⟨cB, cN, cO, v1, v2⟩ := HKEEP.out w' hS
        go_simp
        try with_reducible rfl
      try simp only [Act.put, List.setIfInBounds_toArray, List.set_cons_zero, List.set_cons_succ, List.getElem_toArray, List.getElem_cons_zero, List.getElem_cons_succ, beq_self_eq_true]
    refine plan_call (F := 13) (args := ?_) rfl (by rfl) ?_ ?_
    rotate_left
    · go_simp
      rfl
    have hh := sum_any p N cap y w8 HL.out (by have := HN2.out; unfold maxLen; omega) (HY7.out.below HC8.out)
    refine hh.mono ?_
    clear hh
    rintro e w9 ⟨rfl, hw9⟩
    subst hw9
    refine ⟨_, rfl, HC8.out, ?_⟩
    try simp only [Act.put, List.setIfInBounds_toArray, List.set_cons_zero, List.set_cons_succ, List.getElem_toArray, List.getElem_cons_zero, List.getElem_cons_succ, beq_self_eq_true]
    refine plan_call (F := 14) (args := ?_) rfl (by rfl) ?_ ?_
    rotate_left
    · go_simp
      rfl
    have hh := sumR_any p N cap y w8 HL.out (by have := HN2.out; unfold maxLen; omega) (HY7.out.below HC8.out)
    refine hh.mono ?_
    clear hh
    rintro e w9 ⟨rfl, hw9⟩
    subst hw9
    refine ⟨_, rfl, HC8.out, ?_⟩
    try simp only [Act.put, List.setIfInBounds_toArray, List.set_cons_zero, List.set_cons_succ, List.getElem_toArray, List.getElem_cons_zero, List.getElem_cons_succ, beq_self_eq_true]
    iterate 24
      refine plan_read (v := ?_) rfl (by rfl) ?_ ?_
      rotate_left
      · intro w' hS
        try dsimp only at hS
        obtain ⟨cB, cN, cO, v1, v2⟩ := HKEEP.out w' hS
        go_simp
        try with_reducible rfl
      try simp only [Act.put, List.setIfInBounds_toArray, List.set_cons_zero, List.set_cons_succ, List.getElem_toArray, List.getElem_cons_zero, List.getElem_cons_succ, beq_self_eq_true]
    refine plan_nil ?_
    simp only [List.drop_succ_cons, List.drop_zero]
    go_wp2
    go_ret
    exact ⟨rfl, HB7.out.trans (HC8.out.mono HB7.out.size)⟩
end Go.Proofs.Ytiejglbdkcnkmaa
