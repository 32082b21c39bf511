/- New clocks, what is sure, and what is kept, by the program; no condition but that the clock reads. -/
import Derived.Test.YtbogkloemmddcaaCkH
namespace Go.Proofs.Ytbogkloemmddcaa
set_option linter.unusedVariables false
open Go.ChangeShapes Go.WideShapes Go.ChangeAt Go.RowKit

/-- A clock of new memory, and a number. -/
def OutW (w w' : World) (e : Ending) (C : Ck) (X : Int) : Prop := ∃ p n c xs, e = .returned (.tuple #[.agg #[.slice p n c, .int .i64 C.wait], .int .i64 X]) ∧ OwnK w.heap.size w' p n c xs ∧ C.marks = mksOf xs ∧ Below w.heap.size w w'
theorem surest_any (S : Nat → Prop) (v : Value) (C : Ck) (now : Int) (w : World) (h : Ko S w v C) (hok : okC C now = true) : Calls Try.prog 21 #[v, .int .i64 now] w fun e w' => e = .returned (.int .i64 (sureC C now : Nat)) ∧ Below w.heap.size w w' := by
  obtain ⟨l, wt⟩ := C
  obtain ⟨p, n, c, xs, rfl, rfl, hc, -⟩ := h
  unfold okC at hok
  rw [Bool.and_eq_true] at hok
  have hr := right_iff.1 hok.1
  have ht := time_iff.1 hok.2
  have hl : (mksOf xs).length = n := by rw [mksOf_len, hc.xl]
  have h1 : 1 ≤ (mksOf xs).length := hr.l1
  have := surest_at p n c xs wt now w hc (by omega) ht.1 ht.2 (fun k hk => by
    have := hr.wh k (by show k < (mksOf xs).length; omega)
    dsimp only at this
    rw [mksOf_at] at this
    exact this)
  unfold sureC
  dsimp only
  rw [hl]
  exact this
theorem sureC_lt {C : Ck} {now : Int} (hok : okC C now = true) : sureC C now < C.marks.length := by
  unfold okC at hok
  rw [Bool.and_eq_true] at hok
  exact sureN_lt _ _ _ _ (right_iff.1 hok.1).l1

/-- A call's own copy of a clock, in a variable, beside the result's. -/
structure St (w W : World) (bo : Nat) (p : Option Addr) (n c : Nat) (wt : Int) (xs : List Mv) : Prop where
  ht : Blk W (w.heap.size + 1) #[.slice none 0 0, .int .i64 0]
  hk : Blk W bo #[.slice p n c, .int .i64 wt]
  ho : OwnK (w.heap.size + 2) W p n c xs
  hb : Below w.heap.size w W
  ge : w.heap.size + 2 ≤ bo
  np : ∀ g, (Value.slice p n c).ownBlock = some g → g ≠ bo
  nc : ∀ x ∈ xs, Off bo x.q x.m
theorem St.below {w W W' : World} {bo : Nat} {p : Option Addr} {n c : Nat} {wt : Int} {xs : List Mv} (h : St w W bo p n c wt xs) (hb : Below W.heap.size W W') : St w W' bo p n c wt xs :=
  ⟨h.ht.below hb, h.hk.below hb, h.ho.below hb, h.hb.trans (hb.mono h.hb.size), h.ge, h.np, h.nc⟩
theorem St.make {w w1 : World} {p : Option Addr} {n c : Nat} {wt : Int} {xs : List Mv} (h : OwnK (w.heap.size + 2) w1 p n c xs) (hb : Below w.heap.size w w1) (ht : Blk w1 (w.heap.size + 1) #[.slice none 0 0, .int .i64 0]) (hs : w.heap.size + 2 ≤ w1.heap.size) :
    St w (w1.alloc (.cells #[.slice p n c, .int .i64 wt] 26)) w1.heap.size p n c wt xs :=
  ⟨ht.alloc _, Blk.new _ _ _, h.below ((Below.refl _ _).alloc (Nat.le_refl _) _), hb.alloc hb.size _, hs, fun g e => by have := (h.ro.lt g e).2; omega, fun x hx => (h.rd x hx).sl.off (Nat.le_refl _)⟩
theorem St.ko {w W : World} {bo : Nat} {p : Option Addr} {n c : Nat} {wt : Int} {xs : List Mv} (h : St w W bo p n c wt xs) : Ko (fun R => R < w.heap.size + 2) W (.agg #[.slice p n c, .int .i64 wt]) ⟨mksOf xs, wt⟩ := h.ho.out (fun R hR => hR) wt
/-- The row has turned in its own memory, or in new memory, and is stored. -/
theorem St.turn {w W W' : World} {bo : Nat} {p p' : Option Addr} {n c n' c' : Nat} {wt : Int} {xs ys : List Mv} (h : St w W bo p n c wt xs) (ho : OwnK (w.heap.size + 2) W' p' n' c' ys) (hg : W.grownBy W' (Value.slice p n c).ownBlock)
    (hb : (Value.slice p' n' c').ownBlock = (Value.slice p n c).ownBlock ∨ ∀ g, (Value.slice p' n' c').ownBlock = some g → W.heap.size ≤ g) (hy : ∀ y ∈ ys, Off bo y.q y.m) : St w (W'.setCell ⟨bo, 0, none⟩ (.slice p' n' c')) bo p' n' c' wt ys := by
  have hlt := h.hk.lt
  have np' : ∀ g, (Value.slice p' n' c').ownBlock = some g → g ≠ bo := fun g e => by
    rcases hb with hb | hb
    · exact h.np g (by rw [← hb]; exact e)
    · have := hb g e; omega
  refine ⟨(h.ht.grown hg (fun e => by have := (h.ho.ro.lt _ e).1; omega)).other _ (by have := h.ge; omega), (h.hk.grown hg (fun e => h.np bo e rfl)).set (n := 0) _ (by simp), ho.off np' hy 0 _, ?_, h.ge, np', hy⟩
  exact (h.hb.grown hg h.hb.size (fun g e => by have := (h.ho.ro.lt g e).1; omega)).setCell (p := ⟨bo, 0, none⟩) (by show w.heap.size ≤ bo; have := h.ge; omega) _
theorem St.out {w W : World} {bo : Nat} {p : Option Addr} {n c : Nat} {wt : Int} {xs : List Mv} (h : St w W bo p n c wt xs) (X : Int) {C : Ck} {E : Int} (hC : C = ⟨mksOf xs, wt⟩) (hE : E = X) :
    OutW w ((W.setCell ⟨w.heap.size + 1, 0, none⟩ (.slice p n c)).setCell ⟨w.heap.size + 1, 1, none⟩ (.int .i64 wt)) (.returned (.tuple #[.agg #[.slice p n c, .int .i64 wt], .int .i64 X])) C E := by
  subst hC hE
  exact ⟨p, n, c, xs, rfl, (h.ho.set2 (by omega) _ _).mono (by omega), rfl, set2_below h.hb (by omega) _ _⟩
theorem OutW.ko {w w' : World} {e : Ending} {C : Ck} {X : Int} (h : OutW w w' e C X) {S : Nat → Prop} (hS : ∀ R, S R → R < w.heap.size) : ∃ v, e = .returned (.tuple #[v, .int .i64 X]) ∧ Ko S w' v C ∧ Below w.heap.size w w' := by
  obtain ⟨p, n, c, xs, rfl, ho, e2, hb⟩ := h
  obtain ⟨l, wt⟩ := C
  dsimp only at e2
  subst e2
  exact ⟨_, rfl, ho.out hS wt, hb⟩

set_option maxHeartbeats 4000000 in
set_option maxRecDepth 100000 in
theorem keep_any {T : Nat → Prop} (v : Value) (C : Ck) (t : Int) (w : World) (h : Ko T w v C) : Calls Try.prog 8 #[v, .int .i64 t] w fun e w' => OutW w w' e (keepC C t) (errC C t) := by
  obtain ⟨l, wt⟩ := C
  obtain ⟨p0, n, c0, xs0, rfl, rfl, hc, -⟩ := h
  have hn := hc.nb
  have HCP : Hid (∀ W, Below w.heap.size w W → Calls Try.prog 16 #[.agg #[.slice p0 n c0, .int .i64 wt]] W fun e w' => ∃ p c ys, e = .returned (.agg #[.slice p n c, .int .i64 wt]) ∧ OwnK (W.heap.size + 2) w' p n c ys ∧ mksOf ys = mksOf xs0 ∧ Below W.heap.size W w') := Lib.hid (fun W hW => copied_any p0 n c0 wt xs0 W (hc.below hW))
  dsimp only
  obtain ⟨M, hM⟩ : ∃ M, M = mksOf xs0 := ⟨_, rfl⟩
  rw [← hM] at HCP ⊢
  have HNO : Hid (okC ⟨M, wt⟩ t = false → keepC ⟨M, wt⟩ t = ⟨M, wt⟩ ∧ errC ⟨M, wt⟩ t = 1) := Lib.hid (fun e => by unfold keepC errC; rw [e]; exact ⟨rfl, rfl⟩)
  have HYES : Hid (okC ⟨M, wt⟩ t = true → keepC ⟨M, wt⟩ t = ⟨M.drop (sureC ⟨M, wt⟩ t), wt⟩ ∧ errC ⟨M, wt⟩ t = 0) := Lib.hid (fun e => by unfold keepC errC; rw [e]; exact ⟨rfl, rfl⟩)
  clear hc hM
  obtain ⟨w0, hw0⟩ : ∃ w0, w0 = (w.alloc (.cells #[.slice p0 n c0, .int .i64 wt] 26)).alloc (.cells #[.slice none 0 0, .int .i64 0] 26) := ⟨_, rfl⟩
  have HB0 : Hid (Below w.heap.size w w0) := Lib.hid (by rw [hw0]; exact ((Below.refl _ _).alloc (Nat.le_refl _) _).alloc (by simp) _)
  have HA0 : Hid (Blk w0 w.heap.size #[.slice p0 n c0, .int .i64 wt]) := Lib.hid (by rw [hw0]; exact (Blk.new _ _ _).alloc _)
  have HT0 : Hid (Blk w0 (w.heap.size + 1) #[.slice none 0 0, .int .i64 0]) := Lib.hid (by
    have := Blk.new (w.alloc (.cells #[.slice p0 n c0, .int .i64 wt] 26)) #[.slice none 0 0, .int .i64 0] 26
    rw [World.size_alloc] at this
    rw [hw0]; exact this)
  have HSZ : Hid (w0.heap.size = w.heap.size + 2) := Lib.hid (by rw [hw0, World.size_alloc, World.size_alloc])
  have HW0 := Lib.hid hw0
  clear hw0
  go_enter Try.func8, Try.ntmps8
  have kA := HA0.out.c
  go_upto_region 1 with fail
  rw [← HW0.out]
  clear HW0
  go_wp2_with fail
  refine (HCP.out w0 HB0.out).mono ?_
  rintro e w1 ⟨p, c, xs, rfl, ho, hm, hb⟩
  have HM : Hid (mksOf xs = M) := Lib.hid hm
  have HO1 : Hid (OwnK (w.heap.size + 2) w1 p n c xs) := Lib.hid (ho.mono (by rw [HSZ.out]; omega))
  have HT1 := Lib.hid (HT0.out.below hb)
  have HB1 : Hid (Below w.heap.size w w1) := Lib.hid (HB0.out.trans (hb.mono HB0.out.size))
  have HGE : Hid (w.heap.size + 2 ≤ w1.heap.size) := Lib.hid (by rw [← HSZ.out]; exact hb.size)
  clear ho hb hm kA HA0 HT0 HB0 HSZ HCP
  go_upto_region 2 with fail
  have HST : Hid (St w (w1.alloc (.cells #[.slice p n c, .int .i64 wt] 26)) w1.heap.size p n c wt xs) := Lib.hid (St.make HO1.out HB1.out HT1.out HGE.out)
  obtain ⟨bo, hbo⟩ : ∃ b, b = w1.heap.size := ⟨_, rfl⟩
  obtain ⟨w2, hw2⟩ : ∃ z, z = w1.alloc (.cells #[.slice p n c, .int .i64 wt] 26) := ⟨_, rfl⟩
  rw [← hw2, ← hbo] at HST ⊢
  clear hw2 hbo HO1 HT1 HB1 HGE
  have HQ : Hid (Calls Try.prog 17 #[.agg #[.slice p n c, .int .i64 wt], .int .i64 t] w2 fun e w' => e = .returned (.bool (okC ⟨M, wt⟩ t)) ∧ Below w2.heap.size w2 w') := Lib.hid (by have := mayAsk_any _ _ _ t w2 HST.out.ko; rw [HM.out] at this; exact this)
  obtain ⟨r, hr⟩ : ∃ r, r = okC ⟨M, wt⟩ t := ⟨_, rfl⟩
  have HR := Lib.hid hr
  rw [← hr] at HQ HNO HYES
  clear hr
  have kK := HST.out.hk.c
  go_wp2_with fail
  refine HQ.out.mono ?_
  rintro e w3 ⟨rfl, hb⟩
  have HS3 := Lib.hid (HST.out.below hb)
  clear hb kK HST HQ
  cases r with
  | false =>
    have HN := Lib.hid (HNO.out (by first | rfl | trivial))
    clear HNO HYES
    have kK := HS3.out.hk.c
    have fK := HS3.out.hk.f
    have lK := HS3.out.hk.lt
    have kT := HS3.out.ht.c
    have fT := HS3.out.ht.f
    have lT := HS3.out.ht.lt
    go_wp2_with fail
    exact bodyPost_ret (v := .tuple #[.agg #[.slice p n c, .int .i64 wt], .int .i64 1]) (by simp [results, Try.results8, go_sem, *]) rfl (HS3.out.out 1 (by rw [HN.out.1, HM.out]) HN.out.2)
  | true =>
    have HN := Lib.hid (HYES.out (by first | rfl | trivial))
    clear HNO HYES
    have HSU : Hid (∀ W, Below w3.heap.size w3 W → Calls Try.prog 21 #[.agg #[.slice p n c, .int .i64 wt], .int .i64 t] W fun e w' => e = .returned (.int .i64 (sureC ⟨M, wt⟩ t : Nat)) ∧ Below W.heap.size W w') := Lib.hid (fun W hW => by
      have := surest_any _ _ _ t W (HS3.out.below hW).ko (by rw [HM.out]; exact HR.out.symm)
      rw [HM.out] at this; exact this)
    have HLT : Hid (sureC ⟨M, wt⟩ t ≤ n) := Lib.hid (by
      have h1 := sureC_lt HR.out.symm
      dsimp only at h1
      rw [← HM.out, mksOf_len, HS3.out.ho.xl] at h1
      rw [← HM.out]
      omega)
    obtain ⟨k, hk⟩ : ∃ k, k = sureC ⟨M, wt⟩ t := ⟨_, rfl⟩
    rw [← hk] at HN HSU HLT
    clear hk HR
    have HS : Hid (∀ V, Below w3.heap.size w3 V → ∀ t, V.cell? ⟨bo, t, none⟩ = (#[.slice p n c, .int .i64 wt] : Array Value)[t]?) := Lib.hid (fun V hV => (HS3.out.hk.below hV).c)
    go_upto_region 4 with fail
    refine region_plan (fun V : World => ∀ t, V.cell? ⟨bo, t, none⟩ = (#[.slice p n c, .int .i64 wt] : Array Value)[t]?) 6 [(0, true), (1, true), (2, true), (3, true), (4, false), (5, false)] (by kernel_rfl) (by kernel_rfl) (HS.out _ (Below.refl _ _).drew) ?_
    iterate 4
      refine plan_read (v := ?_) rfl (by rfl) ?_ ?_
      rotate_left
      · intro w' hS
        try dsimp only at hS
        go_simp
        try with_reducible rfl
      try simp only [Act.put, List.setIfInBounds_toArray, List.set_cons_zero, List.set_cons_succ, List.getElem_toArray, List.getElem_cons_zero, List.getElem_cons_succ]
    refine plan_call (F := 21) (args := ?_) rfl (by rfl) ?_ ?_
    rotate_left
    · go_simp
      rfl
    refine (HSU.out w3.drew (Below.refl _ _).drew).mono ?_
    rintro e w4 ⟨rfl, hb⟩
    have HB4 : Hid (Below w3.heap.size w3 w4) := Lib.hid ((Below.refl _ _).drew.trans hb)
    clear hb
    refine ⟨_, rfl, HS.out _ HB4.out, ?_⟩
    try simp only [Act.put, List.setIfInBounds_toArray, List.set_cons_zero, List.set_cons_succ, List.getElem_toArray, List.getElem_cons_zero, List.getElem_cons_succ]
    have HS4 := Lib.hid (HS3.out.below HB4.out)
    have HD := Lib.hid (delete_any (w.heap.size + 2) n c 0 k p xs w4 HS4.out.ho.ro HS4.out.ho.xl (Nat.zero_le _) HLT.out hn)
    rw [List.take_zero, List.nil_append] at HD
    have HLN : Hid ((xs.drop k).length ≤ 10000) := Lib.hid (by rw [List.length_drop, HS4.out.ho.xl]; omega)
    obtain ⟨ys, hys⟩ : ∃ ys, ys = xs.drop k := ⟨_, rfl⟩
    rw [← hys] at HD HLN
    have HYS := Lib.hid hys
    obtain ⟨m, hm⟩ : ∃ m, m = ys.length := ⟨_, rfl⟩
    rw [← hm] at HD HLN
    clear hys hm
    refine plan_call (F := 20) (args := ?_) rfl (by rfl) ?_ ?_
    rotate_left
    · go_simp
      rfl
    refine (HD.out).mono ?_
    rintro e w5 ⟨rfl, ho, hg⟩
    have HO5 := Lib.hid ho
    have HG5 := Lib.hid hg
    have HK5 := Lib.hid (HS4.out.hk.grown hg (fun e => HS4.out.np bo e rfl))
    clear ho hg
    refine ⟨_, rfl, HK5.out.c, ?_⟩
    try simp only [Act.put, List.setIfInBounds_toArray, List.set_cons_zero, List.set_cons_succ, List.getElem_toArray, List.getElem_cons_zero, List.getElem_cons_succ]
    refine plan_nil ?_
    simp only [List.drop_succ_cons, List.drop_zero]
    have HS5 : Hid (St w (w5.setCell ⟨bo, 0, none⟩ (.slice p m c)) bo p m c wt ys) := Lib.hid (HS4.out.turn (HS4.out.ho.turn HLN.out HO5.out HG5.out (.inl (by cases p <;> rfl)) (fun y hy => by rw [HYS.out] at hy; exact List.mem_of_mem_drop hy)) HG5.out (.inl (by cases p <;> rfl)) (fun y hy => HS4.out.nc y (by rw [HYS.out] at hy; exact List.mem_of_mem_drop hy)))
    have HMM : Hid (keepC ⟨M, wt⟩ t = ⟨mksOf ys, wt⟩) := Lib.hid (by rw [HN.out.1, HYS.out, ← HM.out]; unfold mksOf; rw [List.map_drop])
    clear HS3 HS4 HS HB4 HSU HD HO5 HG5
    have kK := HK5.out.c
    have fK := HK5.out.f
    have lK := HK5.out.lt
    go_upto_region 5 with fail
    obtain ⟨w6, hw6⟩ : ∃ z, z = w5.setCell ⟨bo, 0, none⟩ (.slice p m c) := ⟨_, rfl⟩
    rw [← hw6] at HS5 ⊢
    clear hw6 kK fK lK HK5
    have kK := HS5.out.hk.c
    have kT := HS5.out.ht.c
    have fT := HS5.out.ht.f
    have lT := HS5.out.ht.lt
    go_wp2_with fail
    exact bodyPost_ret (v := .tuple #[.agg #[.slice p m c, .int .i64 wt], .int .i64 0]) (by simp [results, Try.results8, go_sem, *]) rfl (HS5.out.out 0 HMM.out HN.out.2)
end Go.Proofs.Ytbogkloemmddcaa
