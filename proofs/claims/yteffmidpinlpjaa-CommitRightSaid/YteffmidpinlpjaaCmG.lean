/- A gate that went back, by the program; no condition but that it reads. -/
import Derived.Test.YteffmidpinlpjaaCmE
namespace Go.Proofs.Yteffmidpinlpjaa
set_option linter.unusedVariables false
set_option linter.unusedSimpArgs false
open Go.ChangeShapes Go.WideShapes Go.ChangeAt Go.RowKit

set_option maxHeartbeats 4000000 in
set_option maxRecDepth 100000 in
theorem back_any {T : Nat → Prop} (S : Nat → Prop) (v : Value) (L : Gt) (t : Int) (w : World) (h : Lo T w v L) (hS : ∀ R, S R → R < w.heap.size) : Calls Try.prog 12 #[v, .int .i64 t] w fun e w' => OutL S w w' e (backG L t) (okE L t) := by
  obtain ⟨M, l⟩ := L
  obtain ⟨p0, m, c0, q0, n, d0, rfl, hc, -⟩ := h
  have hm := hc.m10
  have hn := hc.n10
  have HML : Hid (M.length = m) := Lib.hid hc.ml
  have HLL : Hid (l.length = n) := Lib.hid hc.ll
  have HSS := Lib.hid hS
  have HCP : Hid (∀ W, Below w.heap.size w W → Calls Try.prog 19 #[.agg #[.slice p0 m c0, .slice q0 n d0]] W fun e w' => ∃ p' c' q' d', e = .returned (.agg #[.slice p' m c', .slice q' n d']) ∧ OwnL (W.heap.size + 2) w' p' m c' q' n d' ⟨M, l⟩ ∧ Below W.heap.size W w') := Lib.hid (fun W hW => copied_any p0 q0 m c0 n d0 ⟨M, l⟩ W (hc.below hW))
  have HNO : Hid (okG ⟨M, l⟩ t = false → backG ⟨M, l⟩ t = ⟨M, l⟩ ∧ okE ⟨M, l⟩ t = 1) := Lib.hid (fun e => by unfold backG okE; rw [e]; exact ⟨rfl, rfl⟩)
  have HYES : Hid (okG ⟨M, l⟩ t = true → backG ⟨M, l⟩ t = ⟨M.take (cutU M t), l⟩ ∧ okE ⟨M, l⟩ t = 0) := Lib.hid (fun e => by unfold backG okE; rw [e]; exact ⟨rfl, rfl⟩)
  have HSO : Hid (okG ⟨M, l⟩ t = true → M.Pairwise fun x y => x.span ≤ y.span) := Lib.hid (fun e => (ok_rt e).1.up)
  have HL64 : Hid (okG ⟨M, l⟩ t = true → m ≤ 64) := Lib.hid (fun e => by rw [← HML.out]; exact (ok_rt e).1.l64)
  try dsimp only
  clear hc hS
  obtain ⟨w0, hw0⟩ : ∃ w0, w0 = (w.alloc (.cells #[.slice p0 m c0, .slice q0 n d0] 25)).alloc (.cells #[.slice none 0 0, .slice none 0 0] 25) := ⟨_, rfl⟩
  have HB0 : Hid (Below w.heap.size w w0) := Lib.hid (by rw [hw0]; exact ((Below.refl _ _).alloc (Nat.le_refl _) _).alloc (by simp; try omega) _)
  have HA0 : Hid (Blk w0 w.heap.size #[.slice p0 m c0, .slice q0 n d0]) := Lib.hid (by rw [hw0]; exact ((Blk.new _ _ _).alloc _))
  have HT0 : Hid (Blk w0 (w.heap.size + 1) #[.slice none 0 0, .slice none 0 0]) := Lib.hid (by
    have := Blk.new (w.alloc (.cells #[.slice p0 m c0, .slice q0 n d0] 25)) #[.slice none 0 0, .slice none 0 0] 25
    simp only [World.size_alloc] at this
    rw [hw0]; exact this)
  have HSZ : Hid (w0.heap.size = w.heap.size + 2) := Lib.hid (by rw [hw0]; simp only [World.size_alloc])
  have HW0 := Lib.hid hw0
  clear hw0
  go_enter Try.func12, Try.ntmps12
  have kA := HA0.out.c
  go_upto_region 1 with fail
  rw [← HW0.out]
  clear HW0
  go_wp2_with fail
  refine (HCP.out w0 HB0.out).mono ?_
  rintro e w1 ⟨p, c, q, d, rfl, ho, hb⟩
  have HO1 : Hid (OwnL (w.heap.size + 1 + 1) w1 p m c q n d ⟨M, l⟩) := Lib.hid (ho.mono (by rw [HSZ.out]; omega))
  have HT1 := Lib.hid (HT0.out.below hb)
  have HB1 : Hid (Below w.heap.size w w1) := Lib.hid (HB0.out.trans (hb.mono HB0.out.size))
  have HGE : Hid (w.heap.size + 1 + 1 ≤ w1.heap.size) := Lib.hid (by have := HSZ.out; have := hb.size; omega)
  clear ho hb kA HA0 HT0 HB0 HSZ HCP
  go_upto_region 2 with fail
  have HST : Hid (St w (w1.alloc (.cells #[.slice p m c, .slice q n d] 25)) (w.heap.size + 1) w1.heap.size p m c q n d M l) := Lib.hid (St.make HO1.out HB1.out HT1.out (by omega) HGE.out)
  obtain ⟨bo, hbo⟩ : ∃ b, b = w1.heap.size := ⟨_, rfl⟩
  obtain ⟨w2, hw2⟩ : ∃ z, z = w1.alloc (.cells #[.slice p m c, .slice q n d] 25) := ⟨_, rfl⟩
  rw [← hw2, ← hbo] at HST
  rw [← hw2, ← hbo]
  clear hw2 hbo HO1 HT1 HB1 HGE
  have HQ := Lib.hid (mayAsk_any _ _ _ t w2 HST.out.lo)
  obtain ⟨r, hr⟩ : ∃ r, r = okG ⟨M, l⟩ t := ⟨_, rfl⟩
  rw [← hr] at HQ HSO HNO HYES HL64
  clear hr
  have kK := HST.out.hk.c
  go_wp2_with fail
  refine HQ.out.mono ?_
  rintro e w3 ⟨rfl, hb⟩
  have HS3 := Lib.hid (HST.out.below hb)
  clear hb kK HST HQ
  cases r with
  | false =>
    have HN := Lib.hid (HNO.out (by first | rfl | trivial))
    clear HNO HYES HSO HL64
    have kK := HS3.out.hk.c
    have fK := HS3.out.hk.f
    have lK := HS3.out.hk.lt
    have kT := HS3.out.ht.c
    have fT := HS3.out.ht.f
    have lT := HS3.out.ht.lt
    go_wp2_with fail
    exact bodyPost_ret (v := .tuple #[.agg #[.slice p m c, .slice q n d], .int .i64 1]) (by simp [results, Try.results12, go_sem, *]) rfl (HS3.out.out HSS.out 1 HN.out.1 HN.out.2)
  | true =>
    have HN := Lib.hid (HYES.out (by first | rfl | trivial))
    have HBE : Hid (∀ W, Below w3.heap.size w3 W → Calls Try.prog 23 #[.slice p m c, .int .i64 t] W fun e w' => e = .returned (.int .i64 (cutU M t : Nat)) ∧ Below W.heap.size W w') := Lib.hid (fun W hW => below_any p m c M t W HML.out (HS3.out.ho.lc.ms.below hW) hm (HSO.out (by first | rfl | trivial)))
    have HCL : Hid (cutU M t ≤ m) := Lib.hid (by rw [← HML.out]; exact cut_le M t)
    have h64 : m ≤ 64 := HL64.out (by first | rfl | trivial)
    obtain ⟨k, hk⟩ : ∃ k, k = cutU M t := ⟨_, rfl⟩
    rw [← hk] at HN HBE HCL
    clear hk HNO HYES HSO HL64
    have HS : Hid (∀ V, Below w3.heap.size w3 V → ∀ j, V.cell? ⟨bo, j, none⟩ = (#[.slice p m c, .slice q n d] : Array Value)[j]?) := Lib.hid (fun V hV => (HS3.out.below hV).hk.c)
    go_upto_region 4 with fail
    refine region_plan (fun V : World => ∀ j, V.cell? ⟨bo, j, none⟩ = (#[.slice p m c, .slice q n d] : Array Value)[j]?) 9 [(0, true), (1, true), (2, true), (3, true), (4, true), (6, true), (7, true), (8, true), (5, false)] (by kernel_rfl) (by kernel_rfl) (HS.out _ (Below.refl _ _).drew) ?_
    iterate 8
      refine plan_read (v := ?_) rfl (by rfl) ?_ ?_
      rotate_left
      · intro w' hS
        try dsimp only at hS
        go_simp
        try with_reducible rfl
      try simp only [Act.put, List.setIfInBounds_toArray, List.set_cons_zero, List.set_cons_succ, List.getElem_toArray, List.getElem_cons_zero, List.getElem_cons_succ]
    refine plan_call (F := 23) (args := ?_) rfl (by rfl) ?_ ?_
    rotate_left
    · go_simp
      rfl
    refine (HBE.out w3.drew (Below.refl _ _).drew).mono ?_
    rintro e w4 ⟨rfl, hb⟩
    have HB4 : Hid (Below w3.heap.size w3 w4) := Lib.hid ((Below.refl _ _).drew.trans hb)
    clear hb
    refine ⟨_, rfl, HS.out _ HB4.out, ?_⟩
    try simp only [Act.put, List.setIfInBounds_toArray, List.set_cons_zero, List.set_cons_succ, List.getElem_toArray, List.getElem_cons_zero, List.getElem_cons_succ]
    refine plan_nil ?_
    simp only [List.drop_succ_cons, List.drop_zero]
    have HS4 := Lib.hid (HS3.out.below HB4.out)
    have HD := Lib.hid (delete_any (w.heap.size + 1 + 1) m c k m p M w4 HS4.out.ho.mo HML.out HCL.out (Nat.le_refl _) hm)
    have HLE : Hid ((M.take k ++ M.drop m).length ≤ 10000) := Lib.hid (by rw [List.length_append, List.length_take, List.length_drop, HML.out]; omega)
    have e0 : M.take k ++ M.drop m = M.take k := by rw [List.drop_of_length_le (by rw [HML.out]; exact Nat.le_refl _), List.append_nil]
    rw [e0] at HD HLE
    obtain ⟨x, hx⟩ : ∃ x, x = (M.take k).length := ⟨_, rfl⟩
    rw [← hx] at HD HLE
    clear hx
    clear e0 HS HB4 HS3 HBE
    go_wp2_with fail
    refine HD.out.mono ?_
    rintro e w5 ⟨rfl, ho, hg⟩
    have HS5 := Lib.hid (HS4.out.held HLE.out ho hg (.inl (by cases p <;> rfl)))
    have HK5 := Lib.hid (HS4.out.hk.grown hg (fun e => HS4.out.np bo e rfl))
    clear ho hg HD HS4
    have kK := HK5.out.c
    have fK := HK5.out.f
    have lK := HK5.out.lt
    go_upto_region 5 with fail
    obtain ⟨w6, hw6⟩ : ∃ z, z = w5.setCell ⟨bo, 0, none⟩ (.slice p x c) := ⟨_, rfl⟩
    rw [← hw6] at HS5 ⊢
    clear hw6 kK fK lK HK5
    have kK := HS5.out.hk.c
    have fK := HS5.out.hk.f
    have lK := HS5.out.hk.lt
    have kT := HS5.out.ht.c
    have fT := HS5.out.ht.f
    have lT := HS5.out.ht.lt
    go_wp2_with fail
    exact bodyPost_ret (v := .tuple #[.agg #[.slice p x c, .slice q n d], .int .i64 0]) (by simp [results, Try.results12, go_sem, *]) rfl (HS5.out.out HSS.out 0 HN.out.1 HN.out.2)

set_option maxHeartbeats 4000000 in
set_option maxRecDepth 100000 in
theorem tell_any {T : Nat → Prop} (S : Nat → Prop) (v : Value) (L : Gt) (t : Int) (T0 : Td) (w : World) (h : Lo T w v L) (hS : ∀ R, S R → R < w.heap.size) : Calls Try.prog 7 #[v, .int .i64 t, .agg #[.int .i64 T0.core, .int .u32 T0.val]] w fun e w' => OutL S w w' e (tellG L t T0) (tellE L t) := by
  obtain ⟨M, l⟩ := L
  obtain ⟨tc, tv⟩ := T0
  obtain ⟨p0, m, c0, q0, n, d0, rfl, hc, -⟩ := h
  have hm := hc.m10
  have hn := hc.n10
  have HML : Hid (M.length = m) := Lib.hid hc.ml
  have HLL : Hid (l.length = n) := Lib.hid hc.ll
  have HSS := Lib.hid hS
  have HCP : Hid (∀ W, Below w.heap.size w W → Calls Try.prog 19 #[.agg #[.slice p0 m c0, .slice q0 n d0]] W fun e w' => ∃ p' c' q' d', e = .returned (.agg #[.slice p' m c', .slice q' n d']) ∧ OwnL (W.heap.size + 2) w' p' m c' q' n d' ⟨M, l⟩ ∧ Below W.heap.size W w') := Lib.hid (fun W hW => copied_any p0 q0 m c0 n d0 ⟨M, l⟩ W (hc.below hW))
  have HNO : Hid (okG ⟨M, l⟩ t = false → tellG ⟨M, l⟩ t ⟨tc, tv⟩ = ⟨M, l⟩ ∧ tellE ⟨M, l⟩ t = 1) := Lib.hid (fun e => by unfold tellG tellE tellB; rw [e]; exact ⟨rfl, rfl⟩)
  have HYES : Hid (okG ⟨M, l⟩ t = true → (lateB M t = true → tellG ⟨M, l⟩ t ⟨tc, tv⟩ = ⟨M, l⟩ ∧ tellE ⟨M, l⟩ t = 1) ∧ (lateB M t = false → (m = 64 → tellG ⟨M, l⟩ t ⟨tc, tv⟩ = ⟨M, l⟩ ∧ tellE ⟨M, l⟩ t = 6) ∧ (¬ m = 64 → tellG ⟨M, l⟩ t ⟨tc, tv⟩ = ⟨M ++ [⟨⟨tc, tv⟩, t⟩], l⟩ ∧ tellE ⟨M, l⟩ t = 0))) := Lib.hid (fun e => by
    unfold tellG tellE tellB
    rw [e]
    refine ⟨fun h => ?_, fun h => ⟨fun h2 => ?_, fun h2 => ?_⟩⟩
    · rw [show (({ held := M, out := l } : Gt).held) = M from rfl, h]; exact ⟨rfl, rfl⟩
    · rw [show (({ held := M, out := l } : Gt).held) = M from rfl, h, HML.out, h2]; exact ⟨rfl, rfl⟩
    · rw [show (({ held := M, out := l } : Gt).held) = M from rfl, h, HML.out, if_neg h2, if_neg h2]; exact ⟨rfl, rfl⟩)
  have HSO : Hid (okG ⟨M, l⟩ t = true → M.Pairwise fun x y => x.span ≤ y.span) := Lib.hid (fun e => (ok_rt e).1.up)
  have HL64 : Hid (okG ⟨M, l⟩ t = true → m ≤ 64) := Lib.hid (fun e => by rw [← HML.out]; exact (ok_rt e).1.l64)
  obtain ⟨i0, hi, hz0, hz1, hz2⟩ := info_parts infoH
  have HI := Lib.hid (And.intro hi (And.intro hz0 (And.intro hz1 hz2)))
  clear hi hz0 hz1 hz2
  try dsimp only
  clear hc hS
  obtain ⟨w0, hw0⟩ : ∃ w0, w0 = ((w.alloc (.cells #[.slice p0 m c0, .slice q0 n d0] 25)).alloc (.cells #[.int .i64 tc, .int .u32 tv] 28)).alloc (.cells #[.slice none 0 0, .slice none 0 0] 25) := ⟨_, rfl⟩
  have HB0 : Hid (Below w.heap.size w w0) := Lib.hid (by rw [hw0]; exact (((Below.refl _ _).alloc (Nat.le_refl _) _).alloc (by simp; try omega) _).alloc (by simp; try omega) _)
  have HA0 : Hid (Blk w0 w.heap.size #[.slice p0 m c0, .slice q0 n d0]) := Lib.hid (by rw [hw0]; exact (((Blk.new _ _ _).alloc _).alloc _))
  have HT0 : Hid (Blk w0 (w.heap.size + 2) #[.slice none 0 0, .slice none 0 0]) := Lib.hid (by
    have := Blk.new ((w.alloc (.cells #[.slice p0 m c0, .slice q0 n d0] 25)).alloc (.cells #[.int .i64 tc, .int .u32 tv] 28)) #[.slice none 0 0, .slice none 0 0] 25
    simp only [World.size_alloc] at this
    rw [hw0]; exact this)
  have HSZ : Hid (w0.heap.size = w.heap.size + 3) := Lib.hid (by rw [hw0]; simp only [World.size_alloc])
  have HZ0 : Hid (Blk w0 (w.heap.size + 1) #[.int .i64 tc, .int .u32 tv]) := Lib.hid (by
    have := (Blk.new (w.alloc (.cells #[.slice p0 m c0, .slice q0 n d0] 25)) #[.int .i64 tc, .int .u32 tv] 28).alloc (.cells #[.slice none 0 0, .slice none 0 0] 25)
    simp only [World.size_alloc] at this
    rw [hw0]; exact this)
  have HW0 := Lib.hid hw0
  clear hw0
  go_enter Try.func7, Try.ntmps7
  have kA := HA0.out.c
  go_upto_region 1 with fail
  rw [← HW0.out]
  clear HW0
  go_wp2_with fail
  refine (HCP.out w0 HB0.out).mono ?_
  rintro e w1 ⟨p, c, q, d, rfl, ho, hb⟩
  have HO1 : Hid (OwnL (w.heap.size + 2 + 1) w1 p m c q n d ⟨M, l⟩) := Lib.hid (ho.mono (by rw [HSZ.out]; omega))
  have HT1 := Lib.hid (HT0.out.below hb)
  have HZ1 := Lib.hid (HZ0.out.below hb)
  have HB1 : Hid (Below w.heap.size w w1) := Lib.hid (HB0.out.trans (hb.mono HB0.out.size))
  have HGE : Hid (w.heap.size + 2 + 1 ≤ w1.heap.size) := Lib.hid (by have := HSZ.out; have := hb.size; omega)
  clear ho hb kA HA0 HT0 HB0 HSZ HCP HZ0
  go_upto_region 2 with fail
  have HST : Hid (St w (w1.alloc (.cells #[.slice p m c, .slice q n d] 25)) (w.heap.size + 2) w1.heap.size p m c q n d M l) := Lib.hid (St.make HO1.out HB1.out HT1.out (by omega) HGE.out)
  have HZ2 := Lib.hid (HZ1.out.alloc (.cells #[.slice p m c, .slice q n d] 25))
  obtain ⟨bo, hbo⟩ : ∃ b, b = w1.heap.size := ⟨_, rfl⟩
  obtain ⟨w2, hw2⟩ : ∃ z, z = w1.alloc (.cells #[.slice p m c, .slice q n d] 25) := ⟨_, rfl⟩
  rw [← hw2, ← hbo] at HST
  rw [← hw2, ← hbo]
  rw [← hw2] at HZ2
  clear hw2 hbo HO1 HT1 HB1 HGE HZ1
  have HQ := Lib.hid (mayAsk_any _ _ _ t w2 HST.out.lo)
  obtain ⟨r, hr⟩ : ∃ r, r = okG ⟨M, l⟩ t := ⟨_, rfl⟩
  rw [← hr] at HQ HSO HNO HYES HL64
  clear hr
  have kK := HST.out.hk.c
  go_wp2_with fail
  refine HQ.out.mono ?_
  rintro e w3 ⟨rfl, hb⟩
  have HS3 := Lib.hid (HST.out.below hb)
  have HZ3 := Lib.hid (HZ2.out.below hb)
  clear hb kK HST HQ HZ2
  cases r with
  | false =>
    have HN := Lib.hid (HNO.out (by first | rfl | trivial))
    clear HNO HYES HSO HL64 HI
    have kK := HS3.out.hk.c
    have fK := HS3.out.hk.f
    have lK := HS3.out.hk.lt
    have kT := HS3.out.ht.c
    have fT := HS3.out.ht.f
    have lT := HS3.out.ht.lt
    go_wp2_with fail
    exact bodyPost_ret (v := .tuple #[.agg #[.slice p m c, .slice q n d], .int .i64 1]) (by simp [results, Try.results7, go_sem, *]) rfl (HS3.out.out HSS.out 1 HN.out.1 HN.out.2)
  | true =>
    have HY := Lib.hid (HYES.out (by first | rfl | trivial))
    have h64 : m ≤ 64 := HL64.out (by first | rfl | trivial)
    have HLA := Lib.hid (late_any p m c M t w3 HML.out HS3.out.ho.lc.ms hm)
    obtain ⟨g, hg⟩ : ∃ g, g = lateB M t := ⟨_, rfl⟩
    rw [← hg] at HY HLA
    clear hg HNO HYES HSO HL64
    have kK := HS3.out.hk.c
    go_wp2_with fail
    refine HLA.out.mono ?_
    rintro e w4 ⟨rfl, rfl⟩
    clear HLA kK
    cases g with
    | true =>
      have HN := Lib.hid (HY.out.1 rfl)
      clear HY HI
      have kK := HS3.out.hk.c
      have fK := HS3.out.hk.f
      have lK := HS3.out.hk.lt
      have kT := HS3.out.ht.c
      have fT := HS3.out.ht.f
      have lT := HS3.out.ht.lt
      go_wp2_with fail
      exact bodyPost_ret (v := .tuple #[.agg #[.slice p m c, .slice q n d], .int .i64 1]) (by simp [results, Try.results7, go_sem, *]) rfl (HS3.out.out HSS.out 1 HN.out.1 HN.out.2)
    | false =>
      by_cases hf : m = 64
      · have HN := Lib.hid ((HY.out.2 rfl).1 hf)
        have d1 : ((m : Int) == 64) = true := by simp [hf]
        clear HY HI hf h64
        have kK := HS3.out.hk.c
        have fK := HS3.out.hk.f
        have lK := HS3.out.hk.lt
        have kT := HS3.out.ht.c
        have fT := HS3.out.ht.f
        have lT := HS3.out.ht.lt
        go_wp2_with fail
        exact bodyPost_ret (v := .tuple #[.agg #[.slice p m c, .slice q n d], .int .i64 6]) (by simp [results, Try.results7, go_sem, *]) rfl (HS3.out.out HSS.out 6 HN.out.1 HN.out.2)
      · have HN := Lib.hid ((HY.out.2 rfl).2 hf)
        have d1 : ((m : Int) == 64) = false := by simp; omega
        have HLE : Hid (m + 1 ≤ 10000) := Lib.hid (by omega)
        clear HY hf
        have kK := HS3.out.hk.c
        have kZ := HZ3.out.c
        go_upto_region 6 with fail
        go_upto_region 7 with (first | (at_builtin; refine wpList_append_sl rfl _ _ 22 rfl (w.heap.size + 2 + 1) 52 i0 _ 3 24 Try.underlying22 HI.out.1 HI.out.2.1 HI.out.2.2.1 HI.out.2.2.2 rfl (by decide) _ m (hdC M) rfl (own_below HS3.out.ho.mo ((Below.refl _ _).alloc (Nat.le_refl _) _)) (some ⟨w3.heap.size, 0, none⟩) 1 1 (hdC [⟨⟨tc, tv⟩, t⟩]) rfl rfl (blk_sl (Blk.new _ _ _)) (hdC_one _) (by unfold maxLen; omega) (by omega) (by have := HS3.out.hk.lt; have := HS3.out.ge; rw [World.size_alloc]; omega) ?_; intro v' w7 g1 g2 g3; obtain ⟨p', c', rfl, -⟩ := own_cap g1; have HS6 := Lib.hid (HS3.out.below ((Below.refl _ _).alloc (Nat.le_refl _) (.cells #[.int .i64 tc, .int .u32 tv, .int .i64 t] 52))); have HS8 := Lib.hid (HS6.out.held (M' := M ++ [⟨⟨tc, tv⟩, t⟩]) HLE.out (by rw [hdC_app]; exact g1) g2 (by rcases g3 with g3 | g3; exact .inl g3; exact .inr (fun g' e => by rw [g3] at e; injection e with e; omega))); have HK7 := Lib.hid (HS6.out.hk.grown g2 (fun e => HS6.out.np bo e rfl)); clear g1 g2 g3 HS6 HS3 kK kZ; have kK := HK7.out.c; have fK := HK7.out.f; have lK := HK7.out.lt))
        obtain ⟨w8, hw8⟩ : ∃ z, z = w7.setCell ⟨bo, 0, none⟩ (.slice p' (m + 1) c') := ⟨_, rfl⟩
        rw [← hw8] at HS8 ⊢
        clear hw8 kK fK lK HK7
        obtain ⟨m2, hm2⟩ : ∃ z, z = m + 1 := ⟨_, rfl⟩
        rw [← hm2] at HS8 ⊢
        clear hm2
        have kK := HS8.out.hk.c
        have fK := HS8.out.hk.f
        have lK := HS8.out.hk.lt
        have kT := HS8.out.ht.c
        have fT := HS8.out.ht.f
        have lT := HS8.out.ht.lt
        go_wp2_with fail
        exact bodyPost_ret (v := .tuple #[.agg #[.slice p' m2 c', .slice q n d], .int .i64 0]) (by simp [results, Try.results7, go_sem, *]) rfl (HS8.out.out HSS.out 0 HN.out.1 HN.out.2)
end Go.Proofs.Yteffmidpinlpjaa
