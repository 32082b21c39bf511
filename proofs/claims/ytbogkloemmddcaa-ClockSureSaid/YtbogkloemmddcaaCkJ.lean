/- A clock gone back, what is sure, by the program; no condition but that the clock reads. -/
import Derived.Test.YtbogkloemmddcaaCkI
namespace Go.Proofs.Ytbogkloemmddcaa
set_option linter.unusedVariables false
open Go.ChangeShapes Go.WideShapes Go.ChangeAt Go.RowKit

/-- A call's own copy of a clock, in a variable, beside the result's. -/
structure StB (w W : World) (bo : Nat) (p : Option Addr) (n c : Nat) (wt : Int) (xs : List Mv) : Prop where
  ht : Blk W (w.heap.size + 1) #[.slice none 0 0, .int .i64 0]
  hm : Blk W (w.heap.size + 2) #[.int .i64 0, .int .i64 0, .slice none 0 0]
  hk : Blk W bo #[.slice p n c, .int .i64 wt]
  ho : OwnK (w.heap.size + 3) W p n c xs
  hb : Below w.heap.size w W
  ge : w.heap.size + 3 ≤ bo
  np : ∀ g, (Value.slice p n c).ownBlock = some g → g ≠ bo
  nc : ∀ x ∈ xs, Off bo x.q x.m
theorem StB.below {w W W' : World} {bo : Nat} {p : Option Addr} {n c : Nat} {wt : Int} {xs : List Mv} (h : StB w W bo p n c wt xs) (hb : Below W.heap.size W W') : StB w W' bo p n c wt xs :=
  ⟨h.ht.below hb, h.hm.below hb, h.hk.below hb, h.ho.below hb, h.hb.trans (hb.mono h.hb.size), h.ge, h.np, h.nc⟩
theorem StB.make {w w1 : World} {p : Option Addr} {n c : Nat} {wt : Int} {xs : List Mv} (h : OwnK (w.heap.size + 3) w1 p n c xs) (hb : Below w.heap.size w w1) (ht : Blk w1 (w.heap.size + 1) #[.slice none 0 0, .int .i64 0]) (hmm : Blk w1 (w.heap.size + 2) #[.int .i64 0, .int .i64 0, .slice none 0 0]) (hs : w.heap.size + 3 ≤ w1.heap.size) :
    StB w (w1.alloc (.cells #[.slice p n c, .int .i64 wt] 26)) w1.heap.size p n c wt xs :=
  ⟨ht.alloc _, hmm.alloc _, Blk.new _ _ _, h.below ((Below.refl _ _).alloc (Nat.le_refl _) _), hb.alloc hb.size _, hs, fun g e => by have := (h.ro.lt g e).2; omega, fun x hx => (h.rd x hx).sl.off (Nat.le_refl _)⟩
theorem StB.ko {w W : World} {bo : Nat} {p : Option Addr} {n c : Nat} {wt : Int} {xs : List Mv} (h : StB w W bo p n c wt xs) : Ko (fun R => R < w.heap.size + 3) W (.agg #[.slice p n c, .int .i64 wt]) ⟨mksOf xs, wt⟩ := h.ho.out (fun R hR => hR) wt
/-- The row has turned in its own memory, or in new memory, and is stored. -/
theorem StB.turn {w W W' : World} {bo : Nat} {p p' : Option Addr} {n c n' c' : Nat} {wt : Int} {xs ys : List Mv} (h : StB w W bo p n c wt xs) (ho : OwnK (w.heap.size + 3) W' p' n' c' ys) (hg : W.grownBy W' (Value.slice p n c).ownBlock)
    (hb : (Value.slice p' n' c').ownBlock = (Value.slice p n c).ownBlock ∨ ∀ g, (Value.slice p' n' c').ownBlock = some g → W.heap.size ≤ g) (hy : ∀ y ∈ ys, Off bo y.q y.m) : StB w (W'.setCell ⟨bo, 0, none⟩ (.slice p' n' c')) bo p' n' c' wt ys := by
  have hlt := h.hk.lt
  have np' : ∀ g, (Value.slice p' n' c').ownBlock = some g → g ≠ bo := fun g e => by
    rcases hb with hb | hb
    · exact h.np g (by rw [← hb]; exact e)
    · have := hb g e; omega
  refine ⟨(h.ht.grown hg (fun e => by have := (h.ho.ro.lt _ e).1; omega)).other _ (by have := h.ge; omega), (h.hm.grown hg (fun e => by have := (h.ho.ro.lt _ e).1; omega)).other _ (by have := h.ge; omega), (h.hk.grown hg (fun e => h.np bo e rfl)).set (n := 0) _ (by simp), ho.off np' hy 0 _, ?_, h.ge, np', hy⟩
  exact (h.hb.grown hg h.hb.size (fun g e => by have := (h.ho.ro.lt g e).1; omega)).setCell (p := ⟨bo, 0, none⟩) (by show w.heap.size ≤ bo; have := h.ge; omega) _

/-- A clock and a mark of new memory, and a number. -/
def OutB (w w' : World) (e : Ending) (C : Ck) (M : Mk) (X : Int) : Prop := ∃ p n c xs, ∃ y : Mv, e = .returned (.tuple #[.agg #[.slice p n c, .int .i64 C.wait], .agg #[.int .i64 y.span, .int .i64 y.when, .slice y.q y.m y.c], .int .i64 X]) ∧ OwnK w.heap.size w' p n c xs ∧ C.marks = mksOf xs ∧ Mr w' y ∧ (∀ R, R < w.heap.size → Off R y.q y.m) ∧ M = y.mk' ∧ Below w.heap.size w w'
theorem OutB.ko {w w' : World} {e : Ending} {C : Ck} {M : Mk} {X : Int} (h : OutB w w' e C M X) {S : Nat → Prop} (hS : ∀ R, S R → R < w.heap.size) : ∃ v u, e = .returned (.tuple #[v, u, .int .i64 X]) ∧ Ko S w' v C ∧ Mo S w' u M ∧ Below w.heap.size w w' := by
  obtain ⟨p, n, c, xs, y, rfl, ho, e2, hr, hf, e3, hb⟩ := h
  obtain ⟨l, wt⟩ := C
  dsimp only at e2
  subst e2
  exact ⟨_, _, rfl, ho.out hS wt, ⟨y, rfl, e3, hr, fun R hR => hf R (hS R hR)⟩, hb⟩
/-- A mark of new memory, and a number. -/
def OutM (w w' : World) (e : Ending) (M : Mk) (X : Int) : Prop := ∃ y : Mv, e = .returned (.tuple #[.agg #[.int .i64 y.span, .int .i64 y.when, .slice y.q y.m y.c], .int .i64 X]) ∧ Mr w' y ∧ (∀ R, R < w.heap.size → Off R y.q y.m) ∧ M = y.mk' ∧ Below w.heap.size w w'
theorem OutM.mo {w w' : World} {e : Ending} {M : Mk} {X : Int} (h : OutM w w' e M X) {S : Nat → Prop} (hS : ∀ R, S R → R < w.heap.size) : ∃ u, e = .returned (.tuple #[u, .int .i64 X]) ∧ Mo S w' u M ∧ Below w.heap.size w w' := by
  obtain ⟨y, rfl, hr, hf, e3, hb⟩ := h
  exact ⟨_, rfl, ⟨y, rfl, e3, hr, fun R hR => hf R (hS R hR)⟩, hb⟩
theorem mr_zero (w : World) : Mr w zV := ⟨rfl, Nat.le_refl _, Nat.zero_le _, Sl.empty _ _ _⟩
theorem off_zero (R : Nat) (q : Option Addr) : Off R q 0 := fun h => absurd h (Nat.lt_irrefl 0)
theorem StB.out {w W : World} {bo : Nat} {p : Option Addr} {n c : Nat} {wt : Int} {xs : List Mv} (h : StB w W bo p n c wt xs) {y : Mv} (hy : Mr W y) (hf : ∀ R, R < w.heap.size + 3 → Off R y.q y.m) (X : Int) {C : Ck} {M : Mk} {E : Int} (hC : C = ⟨mksOf xs, wt⟩) (hM : M = y.mk') (hE : E = X) :
    OutB w (((((W.setCell ⟨w.heap.size + 1, 0, none⟩ (.slice p n c)).setCell ⟨w.heap.size + 1, 1, none⟩ (.int .i64 wt)).setCell ⟨w.heap.size + 2, 0, none⟩ (.int .i64 y.span)).setCell ⟨w.heap.size + 2, 1, none⟩ (.int .i64 y.when)).setCell ⟨w.heap.size + 2, 2, none⟩ (.slice y.q y.m y.c))
      (.returned (.tuple #[.agg #[.slice p n c, .int .i64 wt], .agg #[.int .i64 y.span, .int .i64 y.when, .slice y.q y.m y.c], .int .i64 X])) C M E := by
  subst hC hM hE
  refine ⟨p, n, c, xs, y, rfl, ((((h.ho.set2 (by omega) _ _).offB (by omega) _ _).offB (by omega) _ _).offB (by omega) _ _).mono (by omega), rfl, ?_, fun R hR => hf R (by omega), rfl, set3_below (set2_below h.hb (by omega) _ _) (by omega) _ _ _⟩
  exact ((((hy.set (hf _ (by omega)) _ _).set (hf _ (by omega)) _ _).set (hf _ (by omega)) _ _).set (hf _ (by omega)) _ _).set (hf _ (by omega)) _ _

set_option maxHeartbeats 4000000 in
set_option maxRecDepth 100000 in
theorem sure_any {T : Nat → Prop} (v : Value) (C : Ck) (t : Int) (w : World) (h : Ko T w v C) : Calls Try.prog 9 #[v, .int .i64 t] w fun e w' => OutM w w' e (sureM C t) (errC C t) := by
  have HQ : Hid (∀ W, Below w.heap.size w W → Calls Try.prog 17 #[v, .int .i64 t] W fun e w' => e = .returned (.bool (okC C t)) ∧ Below W.heap.size W w') := Lib.hid (fun W hW => mayAsk_any _ _ _ t W (h.below hW))
  have HSU : Hid (okC C t = true → ∀ W, Below w.heap.size w W → Calls Try.prog 21 #[v, .int .i64 t] W fun e w' => e = .returned (.int .i64 (sureC C t : Nat)) ∧ Below W.heap.size W w') := Lib.hid (fun hk W hW => surest_any _ _ _ t W (h.below hW) hk)
  have HNO : Hid (okC C t = false → sureM C t = zM ∧ errC C t = 1) := Lib.hid (fun e => by unfold sureM errC; rw [e]; exact ⟨rfl, rfl⟩)
  have HYES : Hid (okC C t = true → sureM C t = C.marks.getD (sureC C t) zM ∧ errC C t = 0 ∧ sureC C t < C.marks.length) := Lib.hid (fun e => by unfold sureM errC; rw [e]; exact ⟨rfl, rfl, sureC_lt e⟩)
  obtain ⟨l, wt⟩ := C
  obtain ⟨p, n, c, xs, rfl, rfl, hc, -⟩ := h
  have hn := hc.nb
  dsimp only at HYES HQ HSU ⊢
  have HAT : Hid (∀ k, k < n → ∃ b off, p = some ⟨b, off, none⟩ ∧ MkAt w b off k (xs.getD k zV) ∧ Mr w (xs.getD k zV) ∧ (mksOf xs).getD k zM = (xs.getD k zV).mk') := Lib.hid (fun k hk => by
    obtain ⟨b, off, h1, h2, h3⟩ := hc.at_ k hk
    exact ⟨b, off, h1, h2, h3, mksOf_at xs k⟩)
  have HLN : Hid ((mksOf xs).length = n) := Lib.hid (by rw [mksOf_len, hc.xl])
  obtain ⟨r, hr⟩ : ∃ r, r = okC ⟨mksOf xs, wt⟩ t := ⟨_, rfl⟩
  rw [← hr] at HQ HNO HYES HSU
  clear hr hc
  obtain ⟨w0, hw0⟩ : ∃ w0, w0 = (w.alloc (.cells #[.slice p n c, .int .i64 wt] 26)).alloc (.cells #[.int .i64 0, .int .i64 0, .slice none 0 0] 32) := ⟨_, rfl⟩
  have HB0 : Hid (Below w.heap.size w w0) := Lib.hid (by rw [hw0]; exact ((Below.refl _ _).alloc (Nat.le_refl _) _).alloc (by simp) _)
  have HA0 : Hid (Blk w0 w.heap.size #[.slice p n c, .int .i64 wt]) := Lib.hid (by rw [hw0]; exact (Blk.new _ _ _).alloc _)
  have HT0 : Hid (Blk w0 (w.heap.size + 1) #[.int .i64 0, .int .i64 0, .slice none 0 0]) := Lib.hid (by
    have := Blk.new (w.alloc (.cells #[.slice p n c, .int .i64 wt] 26)) #[.int .i64 0, .int .i64 0, .slice none 0 0] 32
    rw [World.size_alloc] at this
    rw [hw0]; exact this)
  have HSZ : Hid (w0.heap.size = w.heap.size + 2) := Lib.hid (by rw [hw0, World.size_alloc, World.size_alloc])
  have HW0 := Lib.hid hw0
  clear hw0
  go_enter Try.func9, Try.ntmps9
  have kA := HA0.out.c
  go_upto_region 1 with fail
  rw [← HW0.out]
  clear HW0
  go_wp2_with fail
  refine (HQ.out w0 HB0.out).mono ?_
  rintro e w3 ⟨rfl, hb⟩
  have HA3 := Lib.hid (HA0.out.below hb)
  have HT3 := Lib.hid (HT0.out.below hb)
  have HB3 : Hid (Below w.heap.size w w3) := Lib.hid (HB0.out.trans (hb.mono HB0.out.size))
  have HGE : Hid (w.heap.size + 2 ≤ w3.heap.size) := Lib.hid (by rw [← HSZ.out]; exact hb.size)
  clear hb kA HA0 HT0 HB0 HSZ HQ
  cases r with
  | false =>
    have HN := Lib.hid (HNO.out (by first | rfl | trivial))
    clear HNO HYES
    have kT := HT3.out.c
    have fT := HT3.out.f
    have lT := HT3.out.lt
    go_wp2_with fail
    exact bodyPost_ret (v := .tuple #[.agg #[.int .i64 0, .int .i64 0, .slice none 0 0], .int .i64 1]) (by simp [results, Try.results9, go_sem, *]) rfl ⟨zV, by rw [HN.out.2]; rfl, mr_zero _, fun R hR => off_zero R _, HN.out.1.trans zV_mk.symm, set3_below HB3.out (by omega) _ _ _⟩
  | true =>
    have HN := Lib.hid (HYES.out (by first | rfl | trivial))
    have HSV := Lib.hid (HSU.out (by first | rfl | trivial))
    obtain ⟨k, hk⟩ : ∃ k, k = sureC ⟨mksOf xs, wt⟩ t := ⟨_, rfl⟩
    rw [← hk] at HN HSV
    clear hk HNO HYES HSU
    have hkn : k < n := by rw [← HLN.out]; exact HN.out.2.2
    obtain ⟨b, off, rfl, hat, hmr, hmk⟩ := HAT.out k hkn
    have HCM : Hid (∀ W, Below w.heap.size w W → Calls Try.prog 18 #[.agg #[.int .i64 (xs.getD k zV).span, .int .i64 (xs.getD k zV).when, .slice (xs.getD k zV).q (xs.getD k zV).m (xs.getD k zV).c]] W fun e w' => ∃ y : Mv, e = .returned (.agg #[.int .i64 y.span, .int .i64 y.when, .slice y.q y.m y.c]) ∧ OwnM W.heap.size w' (xs.getD k zV) y ∧ Below W.heap.size W w') := Lib.hid (fun W hW => copiedMark_any _ W (hmr.below hW))
    have HMK := Lib.hid hmk
    have hkI : (k : Int) < (n : Int) := by omega
    have HAW : Hid (∀ W, Below w.heap.size w W → MkAt W b off k (xs.getD k zV)) := Lib.hid (fun W hW => hat.below hW)
    obtain ⟨x, hx⟩ : ∃ x, x = xs.getD k zV := ⟨_, rfl⟩
    rw [← hx] at HCM HMK HAW
    obtain ⟨xsp, xt, xq, xm, xc, xcs⟩ := x
    dsimp only at HCM
    clear hx hat hmr hmk
    have HS : Hid (∀ W, Below w3.heap.size w3 W → (∀ t, W.cell? ⟨w.heap.size, t, none⟩ = (#[.slice (some ⟨b, off, none⟩) n c, .int .i64 wt] : Array Value)[t]?) ∧ W.cell? ⟨b, off + k * 3, none⟩ = some (.int .i64 xsp) ∧ W.cell? ⟨b, off + k * 3 + 1, none⟩ = some (.int .i64 xt) ∧ W.cell? ⟨b, off + k * 3 + 2, none⟩ = some (.slice xq xm xc)) := Lib.hid (fun W hW => ⟨(HA3.out.below hW).c, by
      have h3 := HAW.out W (HB3.out.trans (hW.mono HB3.out.size))
      exact ⟨h3.c0, h3.c1, h3.c2⟩⟩)
    go_upto_region 3 with fail
    refine region_plan (fun W : World => (∀ t, W.cell? ⟨w.heap.size, t, none⟩ = (#[.slice (some ⟨b, off, none⟩) n c, .int .i64 wt] : Array Value)[t]?) ∧ W.cell? ⟨b, off + k * 3, none⟩ = some (.int .i64 xsp) ∧ W.cell? ⟨b, off + k * 3 + 1, none⟩ = some (.int .i64 xt) ∧ W.cell? ⟨b, off + k * 3 + 2, none⟩ = some (.slice xq xm xc)) 8 [(0, true), (1, true), (2, true), (3, true), (4, false), (5, true), (6, true), (7, false)] (by kernel_rfl) (by kernel_rfl) (HS.out _ (Below.refl _ _).drew) ?_
    iterate 4
      refine plan_read (v := ?_) rfl (by rfl) ?_ ?_
      rotate_left
      · intro w' hS
        obtain ⟨hS1, hS2, hS3, hS4⟩ := hS
        go_simp
        try with_reducible rfl
      try simp only [Act.put, List.setIfInBounds_toArray, List.set_cons_zero, List.set_cons_succ, List.getElem_toArray, List.getElem_cons_zero, List.getElem_cons_succ]
    refine plan_call (F := 21) (args := ?_) rfl (by rfl) ?_ ?_
    rotate_left
    · go_simp
      rfl
    refine (HSV.out w3.drew HB3.out.drew).mono ?_
    rintro e w4 ⟨rfl, hb⟩
    have HB4 : Hid (Below w3.heap.size w3 w4) := Lib.hid ((Below.refl _ _).drew.trans hb)
    clear hb
    refine ⟨_, rfl, HS.out _ HB4.out, ?_⟩
    try simp only [Act.put, List.setIfInBounds_toArray, List.set_cons_zero, List.set_cons_succ, List.getElem_toArray, List.getElem_cons_zero, List.getElem_cons_succ]
    iterate 2
      refine plan_read (v := ?_) rfl (by rfl) ?_ ?_
      rotate_left
      · intro w' hS
        obtain ⟨hS1, hS2, hS3, hS4⟩ := hS
        go_simp
        try with_reducible rfl
      try simp only [Act.put, List.setIfInBounds_toArray, List.set_cons_zero, List.set_cons_succ, List.getElem_toArray, List.getElem_cons_zero, List.getElem_cons_succ]
    have HBW4 : Hid (Below w.heap.size w w4) := Lib.hid (HB3.out.trans (HB4.out.mono HB3.out.size))
    have HG4 : Hid (w.heap.size + 2 ≤ w4.heap.size) := Lib.hid (Nat.le_trans HGE.out HB4.out.size)
    refine plan_call (F := 18) (args := ?_) rfl (by rfl) ?_ ?_
    rotate_left
    · go_simp
      rfl
    refine (HCM.out w4 HBW4.out).mono ?_
    rintro e w5 ⟨y, rfl, hy, hb⟩
    have HB45 : Hid (Below w4.heap.size w4 w5) := Lib.hid hb
    have HB5 : Hid (Below w3.heap.size w3 w5) := Lib.hid (HB4.out.trans (hb.mono HB4.out.size))
    have HY := Lib.hid hy
    clear hb hy
    refine ⟨_, rfl, HS.out _ HB5.out, ?_⟩
    try simp only [Act.put, List.setIfInBounds_toArray, List.set_cons_zero, List.set_cons_succ, List.getElem_toArray, List.getElem_cons_zero, List.getElem_cons_succ]
    refine plan_nil ?_
    simp only [List.drop_succ_cons, List.drop_zero]
    obtain ⟨ysp, yt, yq, ym, yc, ycs⟩ := y
    dsimp only
    have HT5 := Lib.hid (HT3.out.below HB5.out)
    have HBW5 : Hid (Below w.heap.size w w5) := Lib.hid (HB3.out.trans (HB5.out.mono HB3.out.size))
    clear HS HB4 HBW4 HCM HSV HAT HAW HB45
    have kT := HT5.out.c
    have fT := HT5.out.f
    have lT := HT5.out.lt
    go_wp2_with fail
    have hof : Off (w.heap.size + 1) yq ym := HY.out.nw (w.heap.size + 1) (by have := HG4.out; omega)
    exact bodyPost_ret (v := .tuple #[.agg #[.int .i64 ysp, .int .i64 yt, .slice yq ym yc], .int .i64 0]) (by simp [results, Try.results9, go_sem, *]) rfl ⟨⟨ysp, yt, yq, ym, yc, ycs⟩, by rw [HN.out.2.1], ((HY.out.rd.set hof 0 _).set hof 1 _).set hof 2 _, fun R hR => HY.out.nw R (by have := HG4.out; omega), by rw [HN.out.1, HMK.out]; exact HY.out.mk'.symm, set3_below HBW5.out (by omega) _ _ _⟩
end Go.Proofs.Ytbogkloemmddcaa
