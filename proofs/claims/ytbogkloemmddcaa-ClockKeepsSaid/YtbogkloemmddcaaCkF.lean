/- A copy of a clock, by the program; no condition but that it reads. -/
import Derived.Test.YtbogkloemmddcaaCkE
import Derived.Test.YtbogkloemmddcaaPlanT
namespace Go.Proofs.Ytbogkloemmddcaa
set_option linter.unusedVariables false
open Go.ChangeShapes Go.WideShapes Go.ChangeAt Go.RowKit

theorem op_store {P : Program} {ops : Array Oper} {Q : Exit → Act → World → Prop} {i : Nat} {a : Act} {w w1 : World} {o : Oper} {K : Act → World → Prop} (ho : ops[i]? = some o) (hw : Region.wanted o (yielded ops a.tmps) = true) (hr : (execOp a.eval o).run P w = .ok .skip w1) (h : K (a.put o.dst undef) w1) : wpOp P ops Q i K a w := by
  unfold wpOp
  simp only [ho, hw, if_true, Oper.wp, hr, Oper.upon]
  exact .inl h
theorem getD_mid {α : Type} (l m : List α) (d : α) : (l ++ m).getD l.length d = m.getD 0 d := by
  rw [List.getD_eq_getElem?_getD, List.getD_eq_getElem?_getD, List.getElem?_append_right (Nat.le_refl _), Nat.sub_self]
/-- A copy's own variable, beside the result's: the first marks are new. -/
structure CpS (w W : World) (bo : Nat) (p : Option Addr) (n c : Nat) (wt : Int) (xs ys : List Mv) : Prop where
  ht : Blk W (w.heap.size + 1) #[.slice none 0 0, .int .i64 0]
  hk : Blk W bo #[.slice p n c, .int .i64 wt]
  ro : W.ownsRow (w.heap.size + 2) 32 3 (.slice p n c) n (mvC (ys ++ xs.drop ys.length))
  hb : Below w.heap.size w W
  ge : w.heap.size + 2 ≤ bo
  np : ∀ g, (Value.slice p n c).ownBlock = some g → g ≠ bo
  le : ys.length ≤ xs.length
  km : mksOf ys = (mksOf xs).take ys.length
  rd : ∀ y ∈ ys, Mr W y
  o1 : ∀ y ∈ ys, ∀ R, R < w.heap.size + 2 → Off R y.q y.m
  o2 : ∀ y ∈ ys, Off bo y.q y.m
  o3 : ∀ y ∈ ys, ∀ g, (Value.slice p n c).ownBlock = some g → Off g y.q y.m
theorem CpS.below {w W W' : World} {bo : Nat} {p : Option Addr} {n c : Nat} {wt : Int} {xs ys : List Mv} (h : CpS w W bo p n c wt xs ys) (hb : Below W.heap.size W W') : CpS w W' bo p n c wt xs ys :=
  ⟨h.ht.below hb, h.hk.below hb, own_below h.ro hb, h.hb.trans (hb.mono h.hb.size), h.ge, h.np, h.le, h.km, fun y hy => (h.rd y hy).below hb, h.o1, h.o2, h.o3⟩
/-- A mark more is new. -/
theorem CpS.step {w W W1 : World} {bo g : Nat} {n c : Nat} {wt : Int} {xs ys : List Mv} {y : Mv} (h : CpS w W bo (some ⟨g, 0, none⟩) n c wt xs ys) (hb : Below W.heap.size W W1) (hk : ys.length < xs.length) (hy : OwnM W.heap.size W1 (xs.getD ys.length zV) y) :
    CpS w (((W1.setCell ⟨g, ys.length * 3, none⟩ (.int .i64 y.span)).setCell ⟨g, ys.length * 3 + 1, none⟩ (.int .i64 y.when)).setCell ⟨g, ys.length * 3 + 2, none⟩ (.slice y.q y.m y.c)) bo (some ⟨g, 0, none⟩) n c wt xs (ys ++ [y]) := by
  have h1 := h.below hb
  have hg := h.ro.lt g rfl
  have hgb := h.np g rfl
  have hsz := hb.size
  have hlt := h.hk.lt
  have hyg : Off g y.q y.m := hy.nw g hg.2
  have hr : ∀ z ∈ ys ++ [y], Mr W1 z ∧ (∀ R, R < w.heap.size + 2 → Off R z.q z.m) ∧ Off bo z.q z.m ∧ Off g z.q z.m := fun z hz => by
    rcases List.mem_append.1 hz with hz | hz
    · exact ⟨h1.rd z hz, h1.o1 z hz, h1.o2 z hz, h1.o3 z hz g rfl⟩
    · rw [List.mem_singleton.1 hz]
      exact ⟨hy.rd, fun R hR => hy.nw R (by have := h.ge; omega), hy.nw bo hlt, hyg⟩
  have e1 : (ys ++ xs.drop ys.length).set ys.length y = (ys ++ [y]) ++ xs.drop (ys ++ [y]).length := by
    rw [List.set_append_right (h := Nat.le_refl _), Nat.sub_self, drop_getD xs zV _ hk, List.set_cons_zero, List.length_append, List.length_singleton, List.append_assoc]
    rfl
  refine ⟨?_, ?_, ?_, set3_below' h1.hb (by omega) _ _ _ _ _ _, h.ge, h.np, by rw [List.length_append, List.length_singleton]; omega, ?_, fun z hz => ?_, fun z hz => (hr z hz).2.1, fun z hz => (hr z hz).2.2.1, fun z hz g' e => ?_⟩
  · exact ((h1.ht.other _ (by omega)).other _ (by omega)).other _ (by omega)
  · exact ((h1.hk.other _ hgb).other _ hgb).other _ hgb
  · have := ((h1.ro.stored (ys.length * 3) (.int .i64 y.span)).1.stored (ys.length * 3 + 1) (.int .i64 y.when)).1.stored (ys.length * 3 + 2) (.slice y.q y.m y.c)
    have := this.1
    rw [mvC_set _ _ _ (by rw [List.length_append, List.length_drop]; omega), e1] at this
    exact this
  · have e2 : mksOf (ys ++ [y]) = mksOf ys ++ [y.mk'] := by unfold mksOf; rw [List.map_append]; rfl
    rw [e2, h.km, List.length_append, List.length_singleton, take_getD (mksOf xs) zM _ (by rw [mksOf_len]; exact hk), mksOf_at, hy.mk']
  · exact (((hr z hz).1.set (hr z hz).2.2.2 _ _).set (hr z hz).2.2.2 _ _).set (hr z hz).2.2.2 _ _
  · injection e with e
    rw [← e]; exact (hr z hz).2.2.2
theorem CpS.own {w W : World} {bo : Nat} {p : Option Addr} {n c : Nat} {wt : Int} {xs ys : List Mv} (h : CpS w W bo p n c wt xs ys) (hn : n ≤ 10000) (he : ys.length = xs.length) : OwnK (w.heap.size + 2) W p n c ys ∧ mksOf ys = mksOf xs := by
  have hr := h.ro
  rw [he, List.drop_length, List.append_nil] at hr
  refine ⟨⟨hr, hn, h.rd, fun g e y hy => h.o3 y hy g e, fun R hR y hy => h.o1 y hy R hR⟩, ?_⟩
  rw [h.km, he, ← mksOf_len xs, List.take_length]

set_option maxHeartbeats 4000000 in
set_option maxRecDepth 100000 in
theorem copied_any (p0 : Option Addr) (n c0 : Nat) (wt : Int) (xs : List Mv) (w : World) (h : Kc w p0 n c0 xs) :
    Calls Try.prog 16 #[.agg #[.slice p0 n c0, .int .i64 wt]] w fun e w' => ∃ p c ys, e = .returned (.agg #[.slice p n c, .int .i64 wt]) ∧ OwnK (w.heap.size + 2) w' p n c ys ∧ mksOf ys = mksOf xs ∧ Below w.heap.size w w' := by
  have hn := h.nb
  have HXL : Hid (xs.length = n) := Lib.hid h.xl
  have HCL : Hid (∀ W, Below w.heap.size w W → Calls Try.prog 23 #[.slice p0 n c0] W fun e w' => ∃ r, e = .returned r ∧ w'.ownsRow W.heap.size 32 3 r n (mvC xs) ∧ Below W.heap.size W w') := Lib.hid (fun W hW => cloneM_any p0 n c0 xs W h.xl (h.sl.below hW) h.nb h.nc)
  have HRD : Hid (∀ k, k < n → ∀ W, Below w.heap.size w W → Calls Try.prog 18 #[.agg #[.int .i64 (xs.getD k zV).span, .int .i64 (xs.getD k zV).when, .slice (xs.getD k zV).q (xs.getD k zV).m (xs.getD k zV).c]] W fun e w' => ∃ y : Mv, e = .returned (.agg #[.int .i64 y.span, .int .i64 y.when, .slice y.q y.m y.c]) ∧ OwnM W.heap.size w' (xs.getD k zV) y ∧ Below W.heap.size W w') := Lib.hid (fun k hk W hW =>
    copiedMark_any (xs.getD k zV) W ((h.rd _ (mem_getD xs zV k (by rw [h.xl]; exact hk))).below hW))
  clear h
  obtain ⟨w0, hw0⟩ : ∃ w0, w0 = (w.alloc (.cells #[.slice p0 n c0, .int .i64 wt] 26)).alloc (.cells #[.slice none 0 0, .int .i64 0] 26) := ⟨_, rfl⟩
  have HB0 : Hid (Below w.heap.size w w0) := Lib.hid (by rw [hw0]; exact ((Below.refl _ _).alloc (Nat.le_refl _) _).alloc (by simp) _)
  have HA0 : Hid (Blk w0 w.heap.size #[.slice p0 n c0, .int .i64 wt]) := Lib.hid (by rw [hw0]; exact (Blk.new _ _ _).alloc _)
  have HT0 : Hid (Blk w0 (w.heap.size + 1) #[.slice none 0 0, .int .i64 0]) := Lib.hid (by
    have := Blk.new (w.alloc (.cells #[.slice p0 n c0, .int .i64 wt] 26)) #[.slice none 0 0, .int .i64 0] 26
    rw [World.size_alloc] at this
    rw [hw0]; exact this)
  have HSZ : Hid (w0.heap.size = w.heap.size + 2) := Lib.hid (by rw [hw0, World.size_alloc, World.size_alloc])
  have HW0 := Lib.hid hw0
  clear hw0
  have HS : Hid (∀ V, Below w0.heap.size w0 V → (∀ t, V.cell? ⟨w.heap.size, t, none⟩ = (#[.slice p0 n c0, .int .i64 wt] : Array Value)[t]?)) := Lib.hid (fun V hV => (HA0.out.below hV).c)
  have HMK : Hid (∀ W1 bo p c, w0.heap.size ≤ bo → W1.ownsRow (w.heap.size + 2) 32 3 (.slice p n c) n (mvC xs) → (∀ g, (Value.slice p n c).ownBlock = some g → g ≠ bo) → Below w0.heap.size w0 W1 → Blk W1 bo #[.slice p n c, .int .i64 wt] → CpS w W1 bo p n c wt xs []) := Lib.hid (fun W1 bo p c h1 h2 h3 h4 h5 =>
    ⟨HT0.out.below h4, h5, by simpa using h2, HB0.out.trans (h4.mono HB0.out.size), by rw [← HSZ.out]; exact h1, h3, Nat.zero_le _, rfl, fun y hy => (by cases hy), fun y hy => (by cases hy), fun y hy => (by cases hy), fun y hy => (by cases hy)⟩)
  go_enter Try.func16, Try.ntmps16
  go_upto_region 1 with fail
  rw [← HW0.out]
  clear HW0
  go_cut [3] (fun s3 wd => ∃ bo p c, s3 = .pointer (some ⟨bo, 0, none⟩) ∧ CpS w wd bo p n c wt xs [])
  case first =>
    refine region_planT (fun V : World => ∀ t, V.cell? ⟨w.heap.size, t, none⟩ = (#[.slice p0 n c0, .int .i64 wt] : Array Value)[t]?) 7 (.read 0 (.read 1 (.read 3 (.read 4 (.two 2 6 (.read 5 (.one 6 .stop)) (.one 2 (.read 5 .stop))))))) (by kernel_rfl) (by kernel_rfl) (HS.out _ (Below.refl _ _).drew) ?_
    iterate 4
      refine planT_read (v := ?_) rfl (by rfl) ?_ ?_
      rotate_left
      · intro w' hS
        try dsimp only at hS
        go_simp
        try with_reducible rfl
      try simp only [Act.put, List.setIfInBounds_toArray, List.set_cons_zero, List.set_cons_succ, List.getElem_toArray, List.getElem_cons_zero, List.getElem_cons_succ]
    refine planT_two ?_ ?_
    · skip
      refine op_call (F := 23) (args := ?_) rfl (by rfl) ?_ ?_
      rotate_left
      · go_simp
        rfl
      refine (HCL.out w0.drew HB0.out.drew).mono ?_
      rintro e w1 ⟨r, rfl, hr, hb⟩
      have HB1 : Hid (Below w0.heap.size w0 w1) := Lib.hid ((Below.refl _ _).drew.trans hb)
      have HR : Hid (w1.ownsRow (w.heap.size + 2) 32 3 r n (mvC xs)) := Lib.hid (own_base hr (by show w.heap.size + 2 ≤ w0.heap.size; rw [HSZ.out]; exact Nat.le_refl _))
      clear hr hb
      obtain ⟨p, c, rfl, -⟩ := own_cap HR.out
      refine ⟨_, rfl, HS.out _ HB1.out, ?_⟩
      try simp only [Act.put, List.setIfInBounds_toArray, List.set_cons_zero, List.set_cons_succ, List.getElem_toArray, List.getElem_cons_zero, List.getElem_cons_succ]
      iterate 1
        refine planT_read (v := ?_) rfl (by rfl) ?_ ?_
        rotate_left
        · intro w' hS
          try dsimp only at hS
          go_simp
          try with_reducible rfl
        try simp only [Act.put, List.setIfInBounds_toArray, List.set_cons_zero, List.set_cons_succ, List.getElem_toArray, List.getElem_cons_zero, List.getElem_cons_succ]
      refine planT_one ?_
      refine op_make (v := .pointer (some ⟨w1.heap.size, 0, none⟩)) (w1 := w1.alloc (.cells #[.slice none 0 0, .int .i64 0] 26)) rfl (by rfl) (by go_simp) ⟨HS.out _ (HB1.out.alloc HB1.out.size _), ?_⟩
      try simp only [Act.put, List.setIfInBounds_toArray, List.set_cons_zero, List.set_cons_succ, List.getElem_toArray, List.getElem_cons_zero, List.getElem_cons_succ]
      refine planT_stop ?_
      simp only [List.drop_succ_cons, List.drop_zero]
      have HC0 : Hid (CpS w (w1.alloc (.cells #[.slice p n c, .int .i64 wt] 26)) w1.heap.size p n c wt xs []) := Lib.hid (HMK.out _ _ _ _ HB1.out.size (own_below HR.out ((Below.refl _ _).alloc (Nat.le_refl _) _)) (fun g e => by have := (HR.out.lt g e).2; omega) (HB1.out.alloc HB1.out.size _) (Blk.new _ _ _))
      go_wp2_with fail
      go_meet
      case rel => exact ⟨_, _, _, rfl, HC0.out⟩
    · have HA5 : Hid (Below w0.heap.size w0 (w0.drew.alloc (.cells #[.slice none 0 0, .int .i64 0] 26))) := Lib.hid ((Below.refl _ _).drew.alloc (Nat.le_refl _) _)
      refine op_make (v := .pointer (some ⟨w0.heap.size, 0, none⟩)) (w1 := w0.drew.alloc (.cells #[.slice none 0 0, .int .i64 0] 26)) rfl (by rfl) (by go_simp) ⟨HS.out _ HA5.out, ?_⟩
      try simp only [Act.put, List.setIfInBounds_toArray, List.set_cons_zero, List.set_cons_succ, List.getElem_toArray, List.getElem_cons_zero, List.getElem_cons_succ]
      refine planT_one ?_
      have hcall := HCL.out _ (HB0.out.trans (HA5.out.mono HB0.out.size))
      have hZ0 : Blk (w0.drew.alloc (.cells #[.slice none 0 0, .int .i64 0] 26)) w0.heap.size #[.slice none 0 0, .int .i64 0] := Blk.new w0.drew _ _
      have hsz : (w0.drew.alloc (.cells #[.slice none 0 0, .int .i64 0] 26)).heap.size = w0.heap.size + 1 := World.size_alloc w0.drew _
      have HZ0 := Lib.hid hZ0
      have HZS := Lib.hid hsz
      clear hZ0 hsz
      refine op_call (F := 23) (args := ?_) rfl (by rfl) ?_ ?_
      rotate_left
      · go_simp
        rfl
      refine (hcall).mono ?_
      rintro e w1 ⟨r, rfl, hr, hb⟩
      have HB1 : Hid (Below w0.heap.size w0 w1) := Lib.hid (HA5.out.trans (hb.mono HA5.out.size))
      have HZ1 := Lib.hid (HZ0.out.below hb)
      have HRR := Lib.hid hr
      clear hr hb
      obtain ⟨p, c, rfl, -⟩ := own_cap HRR.out
      refine ⟨_, rfl, HS.out _ HB1.out, ?_⟩
      try simp only [Act.put, List.setIfInBounds_toArray, List.set_cons_zero, List.set_cons_succ, List.getElem_toArray, List.getElem_cons_zero, List.getElem_cons_succ]
      iterate 1
        refine planT_read (v := ?_) rfl (by rfl) ?_ ?_
        rotate_left
        · intro w' hS
          try dsimp only at hS
          go_simp
          try with_reducible rfl
        try simp only [Act.put, List.setIfInBounds_toArray, List.set_cons_zero, List.set_cons_succ, List.getElem_toArray, List.getElem_cons_zero, List.getElem_cons_succ]
      refine planT_stop ?_
      simp only [List.drop_succ_cons, List.drop_zero]
      have cZ := HZ1.out.c
      have fZ := HZ1.out.f
      have lZ := HZ1.out.lt
      have HC0 : Hid (CpS w ((w1.setCell ⟨w0.heap.size, 0, none⟩ (.slice p n c)).setCell ⟨w0.heap.size, 1, none⟩ (.int .i64 wt)) w0.heap.size p n c wt xs []) := Lib.hid (by
        have hgn : ∀ g, (Value.slice p n c).ownBlock = some g → g ≠ w0.heap.size := fun g e => by have := (HRR.out.lt g e).1; have := HZS.out; omega
        exact HMK.out _ _ _ _ (Nat.le_refl _) (own_off (own_off (own_base HRR.out (by have := HZS.out; have := HSZ.out; omega)) hgn _ _) hgn _ _) hgn (set2_below HB1.out (Nat.le_refl _) _ _) (set2_same HZ1.out _ _))
      go_wp2_with fail
      go_meet
      case rel => exact ⟨_, _, _, rfl, HC0.out⟩
  case rest =>
    obtain ⟨bo, p, c, rfl, hcp⟩ := hcut
    have HCP := Lib.hid hcp
    clear hcp HS HMK HCL HA0 HT0 HB0 HSZ
    have kK := HCP.out.hk.c
    go_upto_region 3 with fail
    clear kK
    obtain ⟨wB, hwB⟩ : ∃ z, z = wc := ⟨_, rfl⟩
    rw [← hwB] at HCP ⊢
    clear hwB
    go_loopw [15] (fun i wr => ∃ (k : Nat) (ys : List Mv), k ≤ n ∧ i = .int .i64 k ∧ ys.length = k ∧ CpS w wr bo p n c wt xs ys) (fun i _ => n - (intOf i).toNat)
    case atStart => exact ⟨0, [], Nat.zero_le _, rfl, rfl, HCP.out⟩
    case round =>
      obtain ⟨k, ys, hk, rfl, hyl, hcs⟩ := hrel
      have HC := Lib.hid hcs
      have HYL := Lib.hid hyl
      clear hcs hyl HCP
      by_cases hlt : k < n
      · obtain ⟨g, rfl, -, -, -, hgl⟩ := own_go HC.out.ro (by omega)
        have hkI : (k : Int) < (n : Int) := by omega
        have hrow : ∀ j, j < 3 → wr.cell? ⟨g, k * 3 + j, none⟩ = (mvR (xs.getD k zV))[j]? := fun j hj => by
          have hle := HC.out.le
          have e1 := HC.out.ro.cellAt (k * 3 + j) (by omega)
          rw [e1, mvC_at _ k j (by rw [List.length_append, List.length_drop]; have := HYL.out; have := HXL.out; omega) hj]
          congr 2
          have e2 := getD_mid ys (xs.drop ys.length) zV
          rw [HYL.out] at e2 ⊢
          rw [e2, getD_drop, Nat.add_zero]
        have c0 := hrow 0 (by decide)
        have c1 := hrow 1 (by decide)
        have c2 := hrow 2 (by decide)
        have HCM := Lib.hid (HRD.out k hlt)
        have HSTEP : Hid (∀ W1 y, Below wr.heap.size wr W1 → OwnM wr.heap.size W1 (xs.getD k zV) y → CpS w (((W1.setCell ⟨g, k * 3, none⟩ (.int .i64 y.span)).setCell ⟨g, k * 3 + 1, none⟩ (.int .i64 y.when)).setCell ⟨g, k * 3 + 2, none⟩ (.slice y.q y.m y.c)) bo (some ⟨g, 0, none⟩) n c wt xs (ys ++ [y])) := Lib.hid (fun W1 y hb hy => by
          have := HC.out.step (y := y) hb (by rw [HYL.out, HXL.out]; exact hlt) (by rw [HYL.out]; exact hy)
          rw [HYL.out] at this; exact this)
        obtain ⟨x, hx⟩ : ∃ x, x = xs.getD k zV := ⟨_, rfl⟩
        rw [← hx] at c0 c1 c2 HCM HSTEP
        obtain ⟨xsp, xt, xq, xm, xc, xcs⟩ := x
        simp only [mvR, Nat.add_zero] at c0 c1 c2
        dsimp only at HCM
        clear hrow hx
        have kK := HC.out.hk.c
        go_upto_region 5 with fail
        have HKX := Lib.hid (HC.out.hk.alloc (.cells #[.int .i64 xsp, .int .i64 xt, .slice xq xm xc] 32))
        have HX : Hid (Blk (wr.alloc (.cells #[.int .i64 xsp, .int .i64 xt, .slice xq xm xc] 32)) wr.heap.size #[.int .i64 xsp, .int .i64 xt, .slice xq xm xc]) := Lib.hid (Blk.new _ _ _)
        have HB1 : Hid (Below wr.heap.size wr (wr.alloc (.cells #[.int .i64 xsp, .int .i64 xt, .slice xq xm xc] 32))) := Lib.hid ((Below.refl _ _).alloc (Nat.le_refl _) _)
        obtain ⟨bx, hbx⟩ : ∃ z, z = wr.heap.size := ⟨_, rfl⟩
        obtain ⟨w1, hw1⟩ : ∃ z, z = wr.alloc (.cells #[.int .i64 xsp, .int .i64 xt, .slice xq xm xc] 32) := ⟨_, rfl⟩
        rw [← hw1] at HX HKX HB1 ⊢
        rw [← hbx] at HX ⊢
        clear hw1 hbx c0 c1 c2 kK
        have HS : Hid (∀ W, Below w1.heap.size w1 W → (∀ t, W.cell? ⟨bx, t, none⟩ = (#[.int .i64 xsp, .int .i64 xt, .slice xq xm xc] : Array Value)[t]?) ∧ ∀ t, W.cell? ⟨bo, t, none⟩ = (#[.slice (some ⟨g, 0, none⟩) n c, .int .i64 wt] : Array Value)[t]?) := Lib.hid (fun W hW => ⟨(HX.out.below hW).c, (HKX.out.below hW).c⟩)
        refine region_plan (fun V : World => (∀ t, V.cell? ⟨bx, t, none⟩ = (#[.int .i64 xsp, .int .i64 xt, .slice xq xm xc] : Array Value)[t]?) ∧ ∀ t, V.cell? ⟨bo, t, none⟩ = (#[.slice (some ⟨g, 0, none⟩) n c, .int .i64 wt] : Array Value)[t]?) 5 [(0, true), (1, true), (2, true), (3, true), (4, false)] (by kernel_rfl) (by kernel_rfl) (HS.out _ (Below.refl _ _).drew) ?_
        iterate 4
          refine plan_read (v := ?_) rfl (by rfl) ?_ ?_
          rotate_left
          · intro w' hS
            obtain ⟨hS1, hS2⟩ := hS
            go_simp
            try with_reducible rfl
          try simp only [Act.put, List.setIfInBounds_toArray, List.set_cons_zero, List.set_cons_succ, List.getElem_toArray, List.getElem_cons_zero, List.getElem_cons_succ]
        refine plan_call (F := 18) (args := ?_) rfl (by rfl) ?_ ?_
        rotate_left
        · go_simp
          rfl
        refine (HCM.out w1.drew (HC.out.hb.trans (HB1.out.mono HC.out.hb.size)).drew).mono ?_
        rintro e w2 ⟨y, rfl, hy, hb⟩
        have HB2 : Hid (Below wr.heap.size wr w2) := Lib.hid (HB1.out.trans (((Below.refl w1.heap.size w1).drew.trans hb).mono HB1.out.size))
        have HY := Lib.hid (OwnM.mono hy (show wr.heap.size ≤ w1.heap.size from HB1.out.size))
        have HB12 : Hid (Below w1.heap.size w1 w2) := Lib.hid ((Below.refl _ _).drew.trans hb)
        clear hb hy
        refine ⟨_, rfl, HS.out _ HB12.out, ?_⟩
        try simp only [Act.put, List.setIfInBounds_toArray, List.set_cons_zero, List.set_cons_succ, List.getElem_toArray, List.getElem_cons_zero, List.getElem_cons_succ]
        refine plan_nil ?_
        simp only [List.drop_succ_cons, List.drop_zero]
        obtain ⟨ysp, yt, yq, ym, yc, ycs⟩ := y
        dsimp only
        have HC2 := Lib.hid (HC.out.below HB2.out)
        have HN := Lib.hid (HSTEP.out w2 _ HB2.out HY.out)
        dsimp only at HN
        have hcell : ∀ j, j < 3 → ∃ v, w2.cell? ⟨g, k * 3 + j, none⟩ = some v := fun j hj => by
          have hle := HC.out.le
          have e1 := HC2.out.ro.cellAt (k * 3 + j) (by omega)
          rw [e1]
          exact ⟨_, List.getElem?_eq_getElem (by rw [mvC_len, List.length_append, List.length_drop]; have := HYL.out; have := HXL.out; omega)⟩
        obtain ⟨v0, c0⟩ := hcell 0 (by decide)
        obtain ⟨v1, c1⟩ := hcell 1 (by decide)
        obtain ⟨v2, c2⟩ := hcell 2 (by decide)
        rw [Nat.add_zero] at c0
        have f0 := HC2.out.ro.frozenAt (k * 3)
        have f1 := HC2.out.ro.frozenAt (k * 3 + 1)
        have f2 := HC2.out.ro.frozenAt (k * 3 + 2)
        have lg : g < w2.heap.size := Nat.lt_of_lt_of_le hgl HB2.out.size
        clear hcell HS HX HKX HB1 HB12 HCM HSTEP HY HC
        go_wp2_with fail
        go_roundw
        case rel => exact ⟨k + 1, ys ++ [⟨ysp, yt, yq, ym, yc, ycs⟩], by omega, by go_num, by rw [List.length_append, List.length_singleton, HYL.out], HN.out⟩
        case measure => simp [intOf]; omega
      · have e : k = n := by omega
        subst e
        have HO := Lib.hid (HC.out.own hn (by rw [HYL.out, HXL.out]))
        have kK := HC.out.hk.c
        have kT := HC.out.ht.c
        have fT := HC.out.ht.f
        have lT := HC.out.ht.lt
        have HBE := Lib.hid HC.out.hb
        clear HC HRD
        go_wp2_with fail
        exact bodyPost_ret (v := .agg #[.slice p k c, .int .i64 wt]) (by simp [results, Try.results16, go_sem, *]) rfl ⟨p, c, ys, rfl, HO.out.1.set2 (by omega) _ _, HO.out.2, set2_below HBE.out (by omega) _ _⟩
end Go.Proofs.Ytbogkloemmddcaa
