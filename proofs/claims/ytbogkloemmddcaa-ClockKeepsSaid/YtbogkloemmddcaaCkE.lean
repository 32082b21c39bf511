/- Whether a clock is right, and may be asked, by the program; no condition but that it reads. -/
import Derived.Test.YtbogkloemmddcaaCkC
import Derived.Test.YtbogkloemmddcaaCkD
import Derived.Test.YtbogkloemmddcaaPlan
namespace Go.Proofs.Ytbogkloemmddcaa
set_option linter.unusedVariables false
open Go.ChangeShapes Go.WideShapes Go.ChangeAt Go.RowKit

theorem Sl.take {w : World} {p : Option Addr} {n k : Nat} {xs : List Mv} (h : Sl w p n (mvC xs)) (hk : k ≤ n) (hl : xs.length = n) : Sl w p k (mvC (xs.take k)) := fun h0 => by
  obtain ⟨b, off, h1, h2, h3⟩ := h (by omega)
  refine ⟨b, off, h1, h2, fun j hj => ?_⟩
  rw [mvC_len, List.length_take] at hj
  rw [h3 j (by rw [mvC_len]; omega), mvC_take, List.getElem?_take_of_lt (by omega)]
theorem sizeM (W : World) : (sizeOf (Try.prog.elem 24)).run Try.prog W = .ok 3 W := by
  obtain ⟨i0, hi, _, hz1, _⟩ := info_parts infoM
  have e : Try.prog.elem 24 = 32 := by kernel_rfl
  rw [e]
  simp [sizeOf, typeInfo, hi, hz1]
theorem cut_hi (b off x c h : Nat) (hl : h ≤ c) (W : World) : (Instr.slice 24 (.slice (some ⟨b, off, none⟩) x c) none (some (.int .i64 (h : Int))) none).run Try.prog W = .ok (.slice (some ⟨b, off, none⟩) h c) W := by
  have he : Try.prog.underlying 24 = some (.slice (Try.prog.elem 24)) := by kernel_rfl
  rw [run_slice_h W 24 _ x c he .i64 h (by omega) (by omega), sizeM]
  simp [Result.andThen, sliced, Addr.add]
theorem right_eq {C : Ck} {n : Nat} {wt : Int} {l : List Mk} (h : C = ⟨l, wt⟩) (hn : l.length = n) : rightC C = ((decide (1 ≤ n) && (decide (n ≤ 8) && (decide (1 ≤ wt) && decide (wt ≤ 1048576)))) && allB l n) := by
  subst h; unfold rightC sizeB; rw [hn]

set_option maxHeartbeats 4000000 in
set_option maxRecDepth 100000 in
theorem right_any (S : Nat → Prop) (v : Value) (C : Ck) (w : World) (h : Ko S w v C) : Calls Try.prog 12 #[v] w fun e w' => e = .returned (.bool (rightC C)) ∧ Below w.heap.size w w' := by
  obtain ⟨l, wt⟩ := C
  obtain ⟨p, n, c, xs, rfl, rfl, hc, -⟩ := h
  dsimp only
  have hn := hc.nb
  have hnc := hc.nc
  have HM : Hid (rightC ⟨mksOf xs, wt⟩ = ((decide (1 ≤ n) && (decide (n ≤ 8) && (decide (1 ≤ wt) && decide (wt ≤ 1048576)))) && allB (mksOf xs) n)) := Lib.hid (right_eq rfl (by rw [mksOf_len, hc.xl]))
  have HF : Hid (∀ k, k < n → ∀ W, Below w.heap.size w W → Calls Try.prog 19 #[.slice p k c, .agg #[.int .i64 (xs.getD k zV).span, .int .i64 (xs.getD k zV).when, .slice (xs.getD k zV).q (xs.getD k zV).m (xs.getD k zV).c]] W fun e w' => e = .returned (.bool (fitB ((mksOf xs).take k) ((mksOf xs).getD k zM))) ∧ Below W.heap.size W w') := Lib.hid (fun k hk W hW => by
    have := fits_any p k c (xs.take k) (xs.getD k zV) W (by rw [List.length_take, hc.xl]; omega) ((hc.below hW).sl.take (by omega) hc.xl) (by omega) (hc.rd _ (mem_getD xs zV k (by rw [hc.xl]; exact hk))).ml
    rw [mksOf_at]
    have e : (mksOf xs).take k = mksOf (xs.take k) := by unfold mksOf; rw [List.map_take]
    rw [e]; exact this)
  have HAT : Hid (∀ k, k < n → ∃ b off, p = some ⟨b, off, none⟩ ∧ MkAt w b off k (xs.getD k zV)) := Lib.hid (fun k hk => mk_at hc.sl hc.xl k hk)
  have HYES : Hid ((∀ j, j < n → fitB ((mksOf xs).take j) ((mksOf xs).getD j zM) = true) → allB (mksOf xs) n = true) := Lib.hid (fun h => allB_iff.2 h)
  have HNO : Hid (∀ j, j < n → fitB ((mksOf xs).take j) ((mksOf xs).getD j zM) = false → allB (mksOf xs) n = false) := Lib.hid (fun j hj h => by
    cases e : allB (mksOf xs) n with
    | false => rfl
    | true => rw [allB_iff.1 e j hj] at h; cases h)
  obtain ⟨r, hr⟩ : ∃ r, r = rightC ⟨mksOf xs, wt⟩ := ⟨_, rfl⟩
  rw [← hr] at HM ⊢
  clear hr hc
  have HK0 : Hid (Blk (w.alloc (.cells #[.slice p n c, .int .i64 wt] 26)) w.heap.size #[.slice p n c, .int .i64 wt]) := Lib.hid (Blk.new _ _ _)
  have HB0 : Hid (Below w.heap.size w (w.alloc (.cells #[.slice p n c, .int .i64 wt] 26))) := Lib.hid ((Below.refl _ _).alloc (Nat.le_refl _) _)
  obtain ⟨w0, hw0⟩ : ∃ w0, w0 = w.alloc (.cells #[.slice p n c, .int .i64 wt] 26) := ⟨_, rfl⟩
  rw [← hw0] at HK0 HB0
  have HW0 := Lib.hid hw0
  clear hw0
  by_cases h1 : n < 1
  · have d1 : decide ((n : Int) < 1) = true := decide_eq_true (by omega)
    have d1n : decide (n < 1) = true := decide_eq_true (by omega)
    go_enter Try.func12, Try.ntmps12
    have kA := HK0.out.c
    go_upto_region 1 with fail
    rw [← HW0.out]
    clear HW0
    go_wp2_with fail
    go_ret
    exact ⟨by rw [HM.out, decide_eq_false (show ¬ 1 ≤ n by omega)]; rfl, HB0.out⟩
  have d1 : decide ((n : Int) < 1) = false := decide_eq_false (by omega)
  have d1n : decide (n < 1) = false := decide_eq_false (by omega)
  by_cases h2 : 8 < n
  · have d2 : decide ((8 : Int) < (n : Int)) = true := decide_eq_true (by omega)
    have d2n : decide (8 < n) = true := decide_eq_true (by omega)
    go_enter Try.func12, Try.ntmps12
    have kA := HK0.out.c
    go_upto_region 1 with fail
    rw [← HW0.out]
    clear HW0
    go_wp2_with fail
    go_ret
    exact ⟨by rw [HM.out, decide_eq_false (show ¬ n ≤ 8 by omega)]; simp, HB0.out⟩
  have d2 : decide ((8 : Int) < (n : Int)) = false := decide_eq_false (by omega)
  have d2n : decide (8 < n) = false := decide_eq_false (by omega)
  by_cases h3 : wt < 1
  · have d3 : decide (wt < 1) = true := decide_eq_true h3
    go_enter Try.func12, Try.ntmps12
    have kA := HK0.out.c
    go_upto_region 1 with fail
    rw [← HW0.out]
    clear HW0
    go_wp2_with fail
    go_ret
    exact ⟨by rw [HM.out, decide_eq_false (show ¬ 1 ≤ wt by omega)]; simp, HB0.out⟩
  have d3 : decide (wt < 1) = false := decide_eq_false h3
  by_cases h4 : 1048576 < wt
  · have d4 : decide (1048576 < wt) = true := decide_eq_true h4
    go_enter Try.func12, Try.ntmps12
    have kA := HK0.out.c
    go_upto_region 1 with fail
    rw [← HW0.out]
    clear HW0
    go_wp2_with fail
    go_ret
    exact ⟨by rw [HM.out, decide_eq_false (show ¬ wt ≤ 1048576 by omega)]; simp, HB0.out⟩
  have d4 : decide (1048576 < wt) = false := decide_eq_false h4
  have HM2 : Hid (r = allB (mksOf xs) n) := Lib.hid (by rw [HM.out, decide_eq_true (show 1 ≤ n by omega), decide_eq_true (show n ≤ 8 by omega), decide_eq_true (show 1 ≤ wt by omega), decide_eq_true (show wt ≤ 1048576 by omega)]; rfl)
  clear HM h1 h2 h3 h4
  go_enter Try.func12, Try.ntmps12
  have kA := HK0.out.c
  go_upto_region 1 with fail
  rw [← HW0.out]
  clear HW0
  go_upto_region 4 with fail
  go_loopw [28] (fun i wr => ∃ k : Nat, k ≤ n ∧ i = .int .i64 k ∧ Hid (∀ j, j < k → fitB ((mksOf xs).take j) ((mksOf xs).getD j zM) = true) ∧ Below w0.heap.size w0 wr) (fun i _ => n - (intOf i).toNat)
  case atStart => exact ⟨0, Nat.zero_le _, rfl, Lib.hid (fun j hj => absurd hj (Nat.not_lt_zero _)), Below.refl _ _⟩
  case round =>
    obtain ⟨k, hk, rfl, HALL, hb⟩ := hrel
    have HB := Lib.hid hb
    have HK := Lib.hid (HK0.out.below hb)
    have HBW : Hid (Below w.heap.size w wr) := Lib.hid (HB0.out.trans (hb.mono HB0.out.size))
    clear hb kA
    by_cases hlt : k < n
    · obtain ⟨b, off, rfl, hat⟩ := HAT.out k hlt
      obtain ⟨l0, c0, c1, c2⟩ := hat.below HBW.out
      have hkI : (k : Int) < (n : Int) := by omega
      have HC := Lib.hid (HF.out k hlt)
      obtain ⟨g, hg⟩ : ∃ g, fitB ((mksOf xs).take k) ((mksOf xs).getD k zM) = g := ⟨_, rfl⟩
      rw [hg] at HC
      have HG := Lib.hid hg
      obtain ⟨y, hy⟩ : ∃ y, y = xs.getD k zV := ⟨_, rfl⟩
      rw [← hy] at c0 c1 c2 HC
      obtain ⟨ys, yt, yq, ym, yc, ycs⟩ := y
      dsimp only at c0 c1 c2 HC
      have hcut := fun W => cut_hi b off n c k (by omega) W
      clear hat hg hy
      go_upto_region 6 with fail
      have HX : Hid (Blk (wr.alloc (.cells #[.int .i64 ys, .int .i64 yt, .slice yq ym yc] 32)) wr.heap.size #[.int .i64 ys, .int .i64 yt, .slice yq ym yc]) := Lib.hid (Blk.new _ _ _)
      have HKX := Lib.hid (HK.out.alloc (.cells #[.int .i64 ys, .int .i64 yt, .slice yq ym yc] 32))
      have HBX : Hid (Below w.heap.size w (wr.alloc (.cells #[.int .i64 ys, .int .i64 yt, .slice yq ym yc] 32))) := Lib.hid (HBW.out.alloc HBW.out.size _)
      have HBY : Hid (Below w0.heap.size w0 (wr.alloc (.cells #[.int .i64 ys, .int .i64 yt, .slice yq ym yc] 32))) := Lib.hid (HB.out.alloc HB.out.size _)
      obtain ⟨bx, hbx⟩ : ∃ z, z = wr.heap.size := ⟨_, rfl⟩
      obtain ⟨w1, hw1⟩ : ∃ z, z = wr.alloc (.cells #[.int .i64 ys, .int .i64 yt, .slice yq ym yc] 32) := ⟨_, rfl⟩
      rw [← hw1] at HX HKX HBX HBY ⊢
      rw [← hbx] at HX ⊢
      clear hw1 hbx c0 c1 c2 l0
      have HS : Hid (∀ W, Below w1.heap.size w1 W → (∀ t, W.cell? ⟨bx, t, none⟩ = (#[.int .i64 ys, .int .i64 yt, .slice yq ym yc] : Array Value)[t]?) ∧ ∀ t, W.cell? ⟨w.heap.size, t, none⟩ = (#[.slice (some ⟨b, off, none⟩) n c, .int .i64 wt] : Array Value)[t]?) := Lib.hid (fun W hW => ⟨(HX.out.below hW).c, (HKX.out.below hW).c⟩)
      refine region_plan (fun V : World => (∀ t, V.cell? ⟨bx, t, none⟩ = (#[.int .i64 ys, .int .i64 yt, .slice yq ym yc] : Array Value)[t]?) ∧ ∀ t, V.cell? ⟨w.heap.size, t, none⟩ = (#[.slice (some ⟨b, off, none⟩) n c, .int .i64 wt] : Array Value)[t]?) 6 [(0, true), (1, true), (2, true), (3, true), (4, true), (5, false)] (by kernel_rfl) (by kernel_rfl) (HS.out _ (Below.refl _ _).drew) ?_
      iterate 5
        refine plan_read (v := ?_) rfl (by rfl) ?_ ?_
        rotate_left
        · intro w' hS
          obtain ⟨hS1, hS2⟩ := hS
          go_simp
          try with_reducible rfl
        try simp only [Act.put, List.setIfInBounds_toArray, List.set_cons_zero, List.set_cons_succ, List.getElem_toArray, List.getElem_cons_zero, List.getElem_cons_succ]
      refine plan_call (F := 19) (args := ?_) rfl (by rfl) ?_ ?_
      rotate_left
      · go_simp
        rfl
      refine (HC.out w1.drew HBX.out.drew).mono ?_
      rintro e w2 ⟨rfl, hb⟩
      have HB12 : Hid (Below w1.heap.size w1 w2) := Lib.hid ((Below.refl _ _).drew.trans hb)
      clear hb
      refine ⟨_, rfl, HS.out _ HB12.out, ?_⟩
      try simp only [Act.put, List.setIfInBounds_toArray, List.set_cons_zero, List.set_cons_succ, List.getElem_toArray, List.getElem_cons_zero, List.getElem_cons_succ]
      refine plan_nil ?_
      simp only [List.drop_succ_cons, List.drop_zero]
      have HBZ : Hid (Below w0.heap.size w0 w2) := Lib.hid (HBY.out.trans (HB12.out.mono HBY.out.size))
      have HBV : Hid (Below w.heap.size w w2) := Lib.hid (HBX.out.trans (HB12.out.mono HBX.out.size))
      clear HX HKX HBX HBY HB12 HS HC hcut
      cases g with
      | false =>
        have e := HNO.out k hlt HG.out
        go_wp2_with fail
        go_ret
        exact ⟨by rw [HM2.out, e]; rfl, HBV.out⟩
      | true =>
        go_wp2_with fail
        go_roundw
        case rel => exact ⟨k + 1, by omega, by go_num, Lib.hid (fun j hj => by
          by_cases e : j = k
          · rw [e]; exact HG.out
          · exact HALL.out j (by omega)), HBZ.out⟩
        case measure => simp [intOf]; omega
    · have e : k = n := by omega
      subst e
      have e := HYES.out HALL.out
      go_wp2_with fail
      go_ret
      exact ⟨by rw [HM2.out, e]; rfl, HBW.out⟩

set_option maxHeartbeats 2000000 in
theorem mayAsk_any (S : Nat → Prop) (v : Value) (C : Ck) (t : Int) (w : World) (h : Ko S w v C) : Calls Try.prog 17 #[v, .int .i64 t] w fun e w' => e = .returned (.bool (okC C t)) ∧ Below w.heap.size w w' := by
  have HRT : Hid (∀ W, Below w.heap.size w W → Calls Try.prog 12 #[v] W fun e w' => e = .returned (.bool (rightC C)) ∧ Below W.heap.size W w') := Lib.hid (fun W hW => right_any S v C W (h.below hW))
  have HE : Hid (okC C t = (rightC C && timeB t)) := Lib.hid rfl
  obtain ⟨p, n, c, xs, rfl, -, -, -⟩ := h
  obtain ⟨r, hr⟩ : ∃ r, r = rightC C := ⟨_, rfl⟩
  obtain ⟨o, ho⟩ : ∃ o, o = okC C t := ⟨_, rfl⟩
  rw [← hr] at HRT HE
  rw [← ho] at HE ⊢
  obtain ⟨s, hs⟩ : ∃ s, s = C.wait := ⟨_, rfl⟩
  rw [← hs] at HRT ⊢
  clear hr ho hs
  obtain ⟨u, hu⟩ : ∃ u, timeB t = u := ⟨_, rfl⟩
  have HU := Lib.hid hu
  rw [hu] at HE
  clear hu
  have HB0 : Hid (Below w.heap.size w (w.alloc (.cells #[.slice p n c, .int .i64 s] 26))) := Lib.hid ((Below.refl _ _).alloc (Nat.le_refl _) _)
  have HK0 : Hid (Blk (w.alloc (.cells #[.slice p n c, .int .i64 s] 26)) w.heap.size #[.slice p n c, .int .i64 s]) := Lib.hid (Blk.new _ _ _)
  obtain ⟨w0, hw0⟩ : ∃ w0, w0 = w.alloc (.cells #[.slice p n c, .int .i64 s] 26) := ⟨_, rfl⟩
  rw [← hw0] at HB0 HK0
  have HW0 := Lib.hid hw0
  clear hw0
  go_enter Try.func17, Try.ntmps17
  have kA := HK0.out.c
  go_upto_region 1 with fail
  rw [← HW0.out]
  clear HW0
  go_wp2_with fail
  refine (HRT.out _ HB0.out).mono ?_
  rintro e w1 ⟨rfl, hb⟩
  have HB1 : Hid (Below w.heap.size w w1) := Lib.hid (HB0.out.trans (hb.mono HB0.out.size))
  clear hb kA HK0 HB0 HRT
  cases r with
  | false =>
    go_wp2_with fail
    go_ret
    exact ⟨by rw [HE.out]; rfl, HB1.out⟩
  | true =>
    go_wp2_with fail
    refine (mayBe_any t w1).mono ?_
    rintro e w2 ⟨rfl, rfl⟩
    rw [HU.out]
    go_wp2_with fail
    go_ret
    exact ⟨by rw [HE.out]; rfl, HB1.out⟩
end Go.Proofs.Ytbogkloemmddcaa
