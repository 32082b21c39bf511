/- A clock gone back, by the program; no condition but that the clock reads. -/
import Derived.Test.YtbogkloemmddcaaCkJ
namespace Go.Proofs.Ytbogkloemmddcaa
set_option linter.unusedVariables false
open Go.ChangeShapes Go.WideShapes Go.ChangeAt Go.RowKit

theorem back_take {M : List Mk} {k : Nat} (hk : k < M.length) : (M.drop k).take 1 = [M.getD k zM] := by
  rw [drop_getD M zM k hk]; rfl

set_option maxHeartbeats 4000000 in
set_option maxRecDepth 100000 in
theorem back_any {T : Nat → Prop} (v : Value) (C : Ck) (t : Int) (w : World) (h : Ko T w v C) : Calls Try.prog 11 #[v, .int .i64 t] w fun e w' => OutB w w' e (backC C t) (sureM C t) (errC C t) := by
  have HKP : Hid (∀ W, Below w.heap.size w W → Calls Try.prog 8 #[v, .int .i64 t] W fun e w' => OutW W w' e (keepC C t) (errC C t)) := Lib.hid (fun W hW => keep_any v C t W (h.below hW))
  have HNO : Hid (okC C t = false → errC C t = 1 ∧ keepC C t = C ∧ backC C t = C ∧ sureM C t = zM) := Lib.hid (fun e => by unfold errC keepC backC sureM; rw [e]; exact ⟨rfl, rfl, rfl, rfl⟩)
  have HYES : Hid (okC C t = true → errC C t = 0 ∧ (keepC C t).wait = C.wait ∧ backC C t = ⟨(keepC C t).marks.take 1, C.wait⟩ ∧ sureM C t = (keepC C t).marks.getD 0 zM ∧ 1 ≤ (keepC C t).marks.length) := Lib.hid (fun e => by
    have hl := sureC_lt e
    unfold errC keepC backC sureM
    rw [e]
    refine ⟨rfl, rfl, ?_, ?_, ?_⟩
    · show (⟨[C.marks.getD (sureC C t) zM], C.wait⟩ : Ck) = ⟨(C.marks.drop (sureC C t)).take 1, C.wait⟩
      rw [back_take hl]
    · show C.marks.getD (sureC C t) zM = (C.marks.drop (sureC C t)).getD 0 zM
      rw [getD_drop, Nat.add_zero]
    · show 1 ≤ (C.marks.drop (sureC C t)).length
      rw [List.length_drop]; omega)
  obtain ⟨p0, n0, c0, xs0, rfl, -, hc, -⟩ := h
  obtain ⟨D, hD⟩ : ∃ D, D = keepC C t := ⟨_, rfl⟩
  obtain ⟨E, hE⟩ : ∃ E, E = errC C t := ⟨_, rfl⟩
  obtain ⟨B, hB⟩ : ∃ B, B = backC C t := ⟨_, rfl⟩
  obtain ⟨Z, hZ⟩ : ∃ Z, Z = sureM C t := ⟨_, rfl⟩
  obtain ⟨r, hr⟩ : ∃ r, r = okC C t := ⟨_, rfl⟩
  obtain ⟨wt0, hwt0⟩ : ∃ r, r = C.wait := ⟨_, rfl⟩
  rw [← hD, ← hE] at HKP
  rw [← hr, ← hE, ← hB, ← hZ, ← hD] at HNO HYES
  rw [← hwt0] at HYES
  rw [← hwt0] at HKP
  rw [← hB, ← hZ, ← hE, ← hwt0]
  have HRE : Hid (r = false ∨ r = true) := Lib.hid (by cases r <;> simp)
  clear hD hE hB hZ hr hc
  obtain ⟨w0, hw0⟩ : ∃ w0, w0 = ((w.alloc (.cells #[.slice p0 n0 c0, .int .i64 wt0] 26)).alloc (.cells #[.slice none 0 0, .int .i64 0] 26)).alloc (.cells #[.int .i64 0, .int .i64 0, .slice none 0 0] 32) := ⟨_, rfl⟩
  have HB0 : Hid (Below w.heap.size w w0) := Lib.hid (by rw [hw0]; exact (((Below.refl _ _).alloc (Nat.le_refl _) _).alloc (by simp) _).alloc (by simp; omega) _)
  have HA0 : Hid (Blk w0 w.heap.size #[.slice p0 n0 c0, .int .i64 wt0]) := Lib.hid (by rw [hw0]; exact ((Blk.new _ _ _).alloc _).alloc _)
  have HT0 : Hid (Blk w0 (w.heap.size + 1) #[.slice none 0 0, .int .i64 0]) := Lib.hid (by
    have := Blk.new (w.alloc (.cells #[.slice p0 n0 c0, .int .i64 wt0] 26)) #[.slice none 0 0, .int .i64 0] 26
    rw [World.size_alloc] at this
    rw [hw0]; exact this.alloc _)
  have HM0 : Hid (Blk w0 (w.heap.size + 2) #[.int .i64 0, .int .i64 0, .slice none 0 0]) := Lib.hid (by
    have := Blk.new ((w.alloc (.cells #[.slice p0 n0 c0, .int .i64 wt0] 26)).alloc (.cells #[.slice none 0 0, .int .i64 0] 26)) #[.int .i64 0, .int .i64 0, .slice none 0 0] 32
    rw [World.size_alloc, World.size_alloc] at this
    rw [hw0]; exact this)
  have HSZ : Hid (w0.heap.size = w.heap.size + 3) := Lib.hid (by rw [hw0, World.size_alloc, World.size_alloc, World.size_alloc])
  have HW0 := Lib.hid hw0
  have HWT := Lib.hid hwt0
  clear hw0 hwt0
  go_enter Try.func11, Try.ntmps11
  have kA := HA0.out.c
  go_upto_region 1 with fail
  rw [← HW0.out]
  clear HW0
  go_wp2_with fail
  refine (HKP.out w0 HB0.out).mono ?_
  rintro e w1 ⟨p, n, c, xs, rfl, ho, hmk, hb⟩
  obtain ⟨dm, wt⟩ := D
  dsimp only at hmk
  subst hmk
  have hn := ho.nb
  have HO1 : Hid (OwnK (w.heap.size + 3) w1 p n c xs) := Lib.hid (ho.mono (by rw [HSZ.out]; exact Nat.le_refl _))
  have HT1 := Lib.hid (HT0.out.below hb)
  have HM1 := Lib.hid (HM0.out.below hb)
  have HB1 : Hid (Below w.heap.size w w1) := Lib.hid (HB0.out.trans (hb.mono HB0.out.size))
  have HGE : Hid (w.heap.size + 3 ≤ w1.heap.size) := Lib.hid (by rw [← HSZ.out]; exact hb.size)
  dsimp only at HYES ⊢
  clear ho hb kA HA0 HT0 HM0 HB0 HSZ HKP
  go_upto_region 2 with fail
  have HST : Hid (StB w (w1.alloc (.cells #[.slice p n c, .int .i64 wt] 26)) w1.heap.size p n c wt xs) := Lib.hid (StB.make HO1.out HB1.out HT1.out HM1.out HGE.out)
  obtain ⟨bo, hbo⟩ : ∃ b, b = w1.heap.size := ⟨_, rfl⟩
  obtain ⟨w2, hw2⟩ : ∃ z, z = w1.alloc (.cells #[.slice p n c, .int .i64 wt] 26) := ⟨_, rfl⟩
  rw [← hw2, ← hbo] at HST ⊢
  clear hw2 hbo HO1 HT1 HM1 HB1 HGE
  have kK := HST.out.hk.c
  have fK := HST.out.hk.f
  have lK := HST.out.hk.lt
  cases r with
  | false =>
    have HN := Lib.hid (HNO.out (by first | rfl | trivial))
    clear HNO HYES
    have hE : E = 1 := HN.out.1
    subst hE
    have kT := HST.out.ht.c
    have fT := HST.out.ht.f
    have lT := HST.out.ht.lt
    have kM := HST.out.hm.c
    have fM := HST.out.hm.f
    have lM := HST.out.hm.lt
    go_wp2_with fail
    exact bodyPost_ret (v := .tuple #[.agg #[.slice p n c, .int .i64 wt], .agg #[.int .i64 0, .int .i64 0, .slice none 0 0], .int .i64 1]) (by simp [results, Try.results11, go_sem, *]) rfl (HST.out.out (y := zV) (mr_zero _) (fun R hR => off_zero R _) 1 (by rw [HN.out.2.2.1, ← HN.out.2.1]) (by rw [HN.out.2.2.2, zV_mk]) rfl)
  | true =>
    have HN := Lib.hid (HYES.out (by first | rfl | trivial))
    clear HNO HYES
    have hE : E = 0 := HN.out.1
    subst hE
    have HNL : Hid (1 ≤ n) := Lib.hid (by have := HN.out.2.2.2.2; rw [mksOf_len, HST.out.ho.xl] at this; exact this)
    have HD := Lib.hid (delete_any (w.heap.size + 3) n c 1 n p xs w2 HST.out.ho.ro HST.out.ho.xl HNL.out (Nat.le_refl _) hn)
    have e0 : xs.take 1 ++ xs.drop n = [xs.getD 0 zV] := by
      have hl := HST.out.ho.xl
      have h1 := HNL.out
      rw [List.drop_of_length_le (by omega), List.append_nil, take_getD xs zV 0 (by omega), List.take_zero, List.nil_append]
    rw [e0] at HD
    have HX : Hid (xs.getD 0 zV ∈ xs) := Lib.hid (mem_getD xs zV 0 (by rw [HST.out.ho.xl]; exact HNL.out))
    have HB : Hid (B = ⟨mksOf [xs.getD 0 zV], wt⟩ ∧ Z = (xs.getD 0 zV).mk') := Lib.hid (by
      refine ⟨?_, ?_⟩
      · rw [HN.out.2.2.1, ← HN.out.2.1]
        have e1 : (mksOf xs).take 1 = mksOf (xs.take 1) := by unfold mksOf; rw [List.map_take]
        rw [e1, take_getD xs zV 0 (by rw [HST.out.ho.xl]; exact HNL.out)]
        rfl
      · rw [HN.out.2.2.2.1, mksOf_at])
    obtain ⟨x, hx⟩ : ∃ x, x = xs.getD 0 zV := ⟨_, rfl⟩
    rw [← hx] at HD HX HB
    simp only [List.length_singleton] at HD
    clear e0 hx HN
    go_upto_region 4 with fail
    go_wp2_with fail
    refine HD.out.mono ?_
    rintro e w3 ⟨rfl, ho, hg⟩
    have HO3 := Lib.hid (HST.out.ho.turn (show 1 ≤ 10000 by omega) ho hg (.inl (by cases p <;> rfl)) (fun y hy => by rw [List.mem_singleton.1 hy]; exact HX.out))
    have HK3 := Lib.hid (HST.out.hk.grown hg (fun e => HST.out.np bo e rfl))
    have HS3 := Lib.hid (HST.out.turn HO3.out hg (.inl (by cases p <;> rfl)) (fun y hy => by rw [List.mem_singleton.1 hy]; exact HST.out.nc _ HX.out))
    clear ho hg HD HST HO3 kK fK lK
    have kK := HK3.out.c
    have fK := HK3.out.f
    have lK := HK3.out.lt
    go_upto_region 5 with fail
    obtain ⟨w4, hw4⟩ : ∃ z, z = w3.setCell ⟨bo, 0, none⟩ (.slice p 1 c) := ⟨_, rfl⟩
    rw [← hw4] at HS3 ⊢
    clear hw4 kK fK lK HK3
    obtain ⟨b, off, rfl, hat, hmr⟩ := HS3.out.ho.kc.at_ 0 (by omega)
    have hx0 : [x].getD 0 zV = x := rfl
    rw [hx0] at hat hmr
    have HAW : Hid (∀ W, Below w4.heap.size w4 W → MkAt W b off 0 x) := Lib.hid (fun W hW => hat.below hW)
    have HCM : Hid (∀ W, Below w4.heap.size w4 W → Calls Try.prog 18 #[.agg #[.int .i64 x.span, .int .i64 x.when, .slice x.q x.m x.c]] W fun e w' => ∃ y : Mv, e = .returned (.agg #[.int .i64 y.span, .int .i64 y.when, .slice y.q y.m y.c]) ∧ OwnM W.heap.size w' x y ∧ Below W.heap.size W w') := Lib.hid (fun W hW => copiedMark_any _ W (hmr.below hW))
    obtain ⟨xsp, xt, xq, xm, xc, xcs⟩ := x
    dsimp only at HCM
    clear hat hmr hx0
    have HS : Hid (∀ W, Below w4.heap.size w4 W → (∀ t, W.cell? ⟨bo, t, none⟩ = (#[.slice (some ⟨b, off, none⟩) 1 c, .int .i64 wt] : Array Value)[t]?) ∧ W.cell? ⟨b, off, none⟩ = some (.int .i64 xsp) ∧ W.cell? ⟨b, off + 1, none⟩ = some (.int .i64 xt) ∧ W.cell? ⟨b, off + 2, none⟩ = some (.slice xq xm xc)) := Lib.hid (fun W hW => ⟨(HS3.out.hk.below hW).c, by
      have h3 := HAW.out W hW
      have k0 := h3.c0
      have k1 := h3.c1
      have k2 := h3.c2
      simp only [Nat.zero_mul, Nat.add_zero] at k0 k1 k2
      exact ⟨k0, k1, k2⟩⟩)
    refine region_plan (fun W : World => (∀ t, W.cell? ⟨bo, t, none⟩ = (#[.slice (some ⟨b, off, none⟩) 1 c, .int .i64 wt] : Array Value)[t]?) ∧ W.cell? ⟨b, off, none⟩ = some (.int .i64 xsp) ∧ W.cell? ⟨b, off + 1, none⟩ = some (.int .i64 xt) ∧ W.cell? ⟨b, off + 2, none⟩ = some (.slice xq xm xc)) 6 [(0, true), (1, true), (2, true), (3, true), (4, true), (5, false)] (by kernel_rfl) (by kernel_rfl) (HS.out _ (Below.refl _ _).drew) ?_
    iterate 5
      refine plan_read (v := ?_) rfl (by rfl) ?_ ?_
      rotate_left
      · intro w' hS
        obtain ⟨hS1, hS2, hS3, hS4⟩ := hS
        go_simp
        try with_reducible rfl
      try simp only [Act.put, List.setIfInBounds_toArray, List.set_cons_zero, List.set_cons_succ, List.getElem_toArray, List.getElem_cons_zero, List.getElem_cons_succ]
    refine plan_call (F := 18) (args := ?_) rfl (by rfl) ?_ ?_
    rotate_left
    · go_simp
      rfl
    refine (HCM.out w4.drew (Below.refl _ _).drew).mono ?_
    rintro e w5 ⟨y, rfl, hy, hb⟩
    have HB5 : Hid (Below w4.heap.size w4 w5) := Lib.hid ((Below.refl _ _).drew.trans hb)
    have HY := Lib.hid (OwnM.mono hy (show w4.heap.size ≤ w4.heap.size from Nat.le_refl _))
    clear hb hy
    refine ⟨_, rfl, HS.out _ HB5.out, ?_⟩
    try simp only [Act.put, List.setIfInBounds_toArray, List.set_cons_zero, List.set_cons_succ, List.getElem_toArray, List.getElem_cons_zero, List.getElem_cons_succ]
    refine plan_nil ?_
    simp only [List.drop_succ_cons, List.drop_zero]
    obtain ⟨ysp, yt, yq, ym, yc, ycs⟩ := y
    dsimp only
    have HS5 := Lib.hid (HS3.out.below HB5.out)
    have HG4 : Hid (w.heap.size + 3 ≤ w4.heap.size) := Lib.hid (by have := HS3.out.ge; have := HS3.out.hk.lt; omega)
    clear HS HCM HAW HS3 HB5
    have kK := HS5.out.hk.c
    have kT := HS5.out.ht.c
    have fT := HS5.out.ht.f
    have lT := HS5.out.ht.lt
    have kM := HS5.out.hm.c
    have fM := HS5.out.hm.f
    have lM := HS5.out.hm.lt
    go_wp2_with fail
    exact bodyPost_ret (v := .tuple #[.agg #[.slice (some ⟨b, off, none⟩) 1 c, .int .i64 wt], .agg #[.int .i64 ysp, .int .i64 yt, .slice yq ym yc], .int .i64 0]) (by simp [results, Try.results11, go_sem, *]) rfl (HS5.out.out (y := ⟨ysp, yt, yq, ym, yc, ycs⟩) HY.out.rd (fun R hR => HY.out.nw R (by have := HG4.out; omega)) 0 HB.out.1 (by rw [HB.out.2]; exact HY.out.mk'.symm) rfl)
end Go.Proofs.Ytbogkloemmddcaa
