/- What withRoom answers; no condition but that no two lines have one address or one Used. -/
import Derived.Test.YtoddmgaihggkjaaCacheX
namespace Go.Proofs.Ytoddmgaihggkjaa
set_option linter.unusedVariables false
open Go.ChangeShapes Go.WideShapes Go.ChangeAt Go.RowKit Go.Maps Go.Shelf

theorem room_less (q : Option Addr) (x cr : Nat) (ways : Int) (w : World) (h : (x : Int) < ways) :
    Calls Try.prog 36 #[.slice q x cr, .int .i64 ways] w fun e w' => e = .returned (.tuple #[.slice q x cr, .agg #[.int .i64 0, .int .i64 0, .int .u32 0, .int .i64 0]]) ∧ Below w.heap.size w w' := by
  have hd : decide ((x : Int) < ways) = true := decide_eq_true h
  go_enter Try.func36, Try.ntmps36
  go_wp2_with fail
  exact bodyPost_ret (v := .tuple #[.slice q x cr, .agg #[.int .i64 0, .int .i64 0, .int .u32 0, .int .i64 0]]) (by simp [results, Try.results36, go_sem]) rfl ⟨rfl, by
    exact (Below.refl _ _).alloc (Nat.le_refl _) _⟩
theorem grown_below {w w1 : World} {row : Option Nat} (h : Below w.heap.size w w1) : w.grownBy w1 row := ⟨h.os, h.tape, h.output, h.size, fun k hk _ => h.block k hk⟩
theorem grown_trans {w w1 w2 : World} {row : Option Nat} (h1 : w.grownBy w1 row) (h2 : w1.grownBy w2 row) : w.grownBy w2 row :=
  ⟨h2.os.trans h1.os, h2.tape.trans h1.tape, h2.output.trans h1.output, Nat.le_trans h1.size h2.size, fun k hk hr => (h2.block k (Nat.lt_of_lt_of_le hk h1.size) hr).trans (h1.block k hk hr)⟩
theorem out_at (l : List Ln) (h0 : 0 < l.length) (hp : l.Pairwise Two) : idxA (l.getD (outN l) zL).addr l 0 = (outN l : Int) := by
  have ho := outN_lt h0
  have := idxA_hit (l.getD (outN l) zL).addr l 0 (outN l) ho rfl (fun i hi => (apart_getD hp i _ (by omega) ho (by omega)).1)
  rw [this]; simp
theorem look_used {w : World} {b n : Nat} {l : List Ln} (h : w.ownsMap Try.prog 3 rawE b n (usM l l.length)) (hp : l.Pairwise Two) (j : Nat) (hj : j < l.length) (hwf : (Lit.int .i64 (l.getD j zL).used).wf = true) :
    (Instr.lookup 73 (.map (some b)) (.int .i64 (l.getD j zL).used) false).run Try.prog w = .ok (.int .i64 (l.getD j zL).addr) w := by
  obtain ⟨v, ps, hr, hv⟩ := h.lookup law3 Try.underlying73 (zero3 w) (zd := .lit (.int .i64 0)) (zp := []) rfl (keyOf_int_mk Try.underlying3 hwf)
  rw [us_at l l.length (Nat.le_refl _) (fun i j hij hj => (apart_getD hp i j (by omega) hj (by omega)).2) j hj] at hv
  cases v <;> simp [rawE] at hv
  rename_i q a
  cases q <;> simp at hv
  rw [hv.1] at hr
  exact hr

set_option maxHeartbeats 8000000 in
set_option maxRecDepth 100000 in
theorem room_full (base gr x cr : Nat) (l : List Ln) (ways : Int) (w : World) (h : w.ownsRow base 30 4 (.slice (some ⟨gr, 0, none⟩) x cr) x (lnC l)) (hx : l.length = x) (hm : x ≤ 100) (h0 : 0 < x) (hw : ways ≤ (x : Int)) (hp : l.Pairwise Two) (hwf : i64L l) :
    Calls Try.prog 36 #[.slice (some ⟨gr, 0, none⟩) x cr, .int .i64 ways] w fun e w' => e = .returned (.tuple #[.slice (some ⟨gr, 0, none⟩) (x - 1) cr, .agg #[.int .i64 (l.getD (outN l) zL).addr, .int .i64 (l.getD (outN l) zL).state, .int .u32 (l.getD (outN l) zL).val, .int .i64 (l.getD (outN l) zL).used]]) ∧
      w'.ownsRow base 30 4 (.slice (some ⟨gr, 0, none⟩) (x - 1) cr) (x - 1) (lnC (l.eraseIdx (outN l))) ∧ w.grownBy w' (some gr) := by
  have hd : decide ((x : Int) < ways) = false := decide_eq_false (by omega)
  have HO := Lib.hid h
  have HX := Lib.hid hx
  have HP := Lib.hid hp
  have HI := Lib.hid hwf
  have hgl := (h.lt gr rfl).2
  have hol := outN_lt (l := l) (by omega)
  have HAT : Hid (idxA (l.getD (outN l) zL).addr l 0 = (outN l : Int)) := Lib.hid (out_at l (by omega) hp)
  have HWF1 := Lib.hid (i64L_at hwf (outN l))
  obtain ⟨o, hoe⟩ : ∃ o, o = outN l := ⟨_, rfl⟩
  have HLK := Lib.hid (fun (W : World) (b n : Nat) (h : W.ownsMap Try.prog 3 rawE b n (usM l l.length)) => look_used h hp (outN l) hol HWF1.out)
  have HMN := Lib.hid (fun ss hp => min_used l ss hp (by omega))
  rw [← hoe] at HLK HAT hol HMN ⊢
  obtain ⟨ya, ys, yv, yu, hya, hys, hyv, hyu⟩ : ∃ ya ys yv yu, ya = (l.getD o zL).addr ∧ ys = (l.getD o zL).state ∧ yv = (l.getD o zL).val ∧ yu = (l.getD o zL).used := ⟨_, _, _, _, rfl, rfl, rfl, rfl⟩
  rw [← hyu] at HMN HLK ⊢
  rw [← hya] at HLK HAT ⊢
  rw [← hys, ← hyv]
  have HYA := Lib.hid hya
  have HYS := Lib.hid hys
  have HYV := Lib.hid hyv
  have HYU := Lib.hid hyu
  have HOE := Lib.hid hoe
  rw [hx] at hol
  clear hp hwf hx hya hys hyv hyu hoe HWF1
  have HT0 : Hid (Blk (w.alloc (.cells #[.int .i64 0, .int .i64 0, .int .u32 0, .int .i64 0] 30)) w.heap.size #[.int .i64 0, .int .i64 0, .int .u32 0, .int .i64 0]) := Lib.hid (Blk.new _ _ _)
  have HB0 : Hid (Below w.heap.size w (w.alloc (.cells #[.int .i64 0, .int .i64 0, .int .u32 0, .int .i64 0] 30))) := Lib.hid ((Below.refl _ _).alloc (Nat.le_refl _) _)
  have HLV : Hid (∀ W, Below w.heap.size w W → Lv W (.slice (some ⟨gr, 0, none⟩) x cr) l) := Lib.hid (fun W hb => Lw.lv (base := base) (by unfold Lw; rw [HX.out]; exact own_below HO.out hb))
  clear h
  go_enter Try.func36, Try.ntmps36
  go_wp2_with fail
  refine (users_any _ l _ (HLV.out _ HB0.out) (by rw [HX.out]; omega) HI.out).mono ?_
  rintro e w1 ⟨rfl, hm1, hb1⟩
  obtain ⟨b, hbe⟩ : ∃ b, b = (w.alloc (.cells #[.int .i64 0, .int .i64 0, .int .u32 0, .int .i64 0] 30)).heap.size := ⟨_, rfl⟩
  rw [← hbe] at hm1 ⊢
  have HM1 := Lib.hid hm1
  have HT1 := Lib.hid (HT0.out.below hb1)
  have HB1 : Hid (Below w.heap.size w w1) := Lib.hid (HB0.out.trans (hb1.mono HB0.out.size))
  clear hm1 hb1 hbe HT0 HB0
  go_wp2_with fail
  refine (keys_any b w1).mono ?_
  rintro e w2 ⟨rfl, hw2⟩
  have hb2 : Below w1.heap.size w1 w2 := by rw [hw2]; exact (Below.refl _ _).alloc (Nat.le_refl _) _
  have hc2 : w2.cell? ⟨w1.heap.size, 0, none⟩ = some (.map (some b)) := by rw [hw2]; simp
  have hl2 : w1.heap.size < w2.heap.size := by rw [hw2]; simp
  have HC := Lib.hid (collect_any w1.heap.size b _ _ w2 hl2 hc2 (own_map HM1.out hb2) (by have := (us_size l l.length (Nat.le_refl _)).1; have := HX.out; omega))
  have HM2 := Lib.hid (own_map HM1.out hb2)
  have HT2 := Lib.hid (HT1.out.below hb2)
  have HB2 : Hid (Below w.heap.size w w2) := Lib.hid (HB1.out.trans (hb2.mono HB1.out.size))
  clear hw2 hb2 hc2 hl2 HM1 HT1 HB1
  go_wp2_with fail
  refine HC.out.mono ?_
  rintro e w3 ⟨v, ss, rfl, hperm, hrow, hb3⟩
  obtain ⟨hsl, hmin⟩ := HMN.out ss hperm
  have hss : ss.length ≤ 10000 := by
    rw [hperm.length_eq]
    obtain ⟨es, he, -⟩ := us_keys l l.length (Nat.le_refl _)
    have := (us_size l l.length (Nat.le_refl _)).1
    rw [he] at this ⊢
    have e2 : (intKeys (DataW.map es)).length = es.length := by show (es.map _).length = _; rw [List.length_map]
    rw [e2]
    have e3 : es.length ≤ l.length := this
    have := HX.out
    omega
  have HMI := Lib.hid (min_any _ v ss w3 hrow hsl hss)
  rw [hmin] at HMI
  have HM3 := Lib.hid (own_map HM2.out hb3)
  have HT3 := Lib.hid (HT2.out.below hb3)
  have HB3 : Hid (Below w.heap.size w w3) := Lib.hid (HB2.out.trans (hb3.mono HB2.out.size))
  obtain ⟨vp, vc, hve, -⟩ := own_cap hrow
  rw [hve] at HMI ⊢
  clear hperm hrow hb3 hsl hmin hss hve HM2 HT2 HB2 HC HMN
  go_wp2_with fail
  refine HMI.out.mono ?_
  rintro e w4 ⟨rfl, hw4⟩
  obtain rfl := hw4
  clear HMI
  have hlk := HLK.out w4 b _ HM3.out
  go_wp2_with fail
  refine (place_any _ l ya w4 (HLV.out _ HB3.out) (by rw [HX.out]; omega)).mono ?_
  rintro e w5 ⟨rfl, hb5⟩
  rw [HAT.out]
  have HT5 := Lib.hid (HT3.out.below hb5)
  have HB5 : Hid (Below w.heap.size w w5) := Lib.hid (HB3.out.trans (hb5.mono HB3.out.size))
  clear hlk hb5 HT3 HB3 HM3 HAT HLK
  obtain ⟨p5, c5, e5, hc5, hlm5⟩ := HLV.out w5 HB5.out
  injection e5 with e5 e6 e7
  subst e5
  obtain ⟨b5, off5, hbe5, hline⟩ := hlm5.at_ o (by rw [HX.out]; exact hol)
  injection hbe5 with hbe5
  injection hbe5 with hb5 ho5
  subst hb5 ho5
  obtain ⟨l5, d0, d1, d2, d3⟩ := hline
  rw [← HYA.out] at d0
  rw [← HYS.out] at d1
  rw [← HYV.out] at d2
  rw [← HYU.out] at d3
  have hoI : (o : Int) < (x : Int) := by omega
  rw [Nat.zero_add] at d0 d1 d2 d3
  clear hlm5 hc5 e6 e7
  go_upto_region 7 with fail
  obtain ⟨G, hG⟩ : ∃ G, G = w5.heap.size := ⟨_, rfl⟩
  obtain ⟨w6, hw6⟩ : ∃ w6, w6 = w5.alloc (.cells #[.int .i64 ya, .int .i64 ys, .int .u32 yv, .int .i64 yu] 30) := ⟨_, rfl⟩
  have HK6 : Hid (Blk w6 G #[.int .i64 ya, .int .i64 ys, .int .u32 yv, .int .i64 yu]) := Lib.hid (by rw [hw6, hG]; exact Blk.new _ _ _)
  have hb6 : Below w5.heap.size w5 w6 := by rw [hw6]; exact (Below.refl _ _).alloc (Nat.le_refl _) _
  have HT6 := Lib.hid (HT5.out.below hb6)
  have HB6 : Hid (Below w.heap.size w w6) := Lib.hid (HB5.out.trans (hb6.mono HB5.out.size))
  have HGG : Hid (gr ≠ G) := Lib.hid (by rw [hG]; omega)
  rw [← hw6, ← hG]
  clear hw6 hG hb6 HT5 HB5 d0 d1 d2 d3 l5
  have HDEL : Hid (Calls Try.prog 34 #[.slice (some ⟨gr, 0, none⟩) x cr, .int .i64 (o : Int), .int .i64 ((o : Int) + 1)] w6.drew fun e w' => e = .returned (.slice (some ⟨gr, 0, none⟩) (x - 1) cr) ∧ w'.ownsRow base 30 4 (.slice (some ⟨gr, 0, none⟩) (x - 1) cr) (x - 1) (lnC (l.eraseIdx o)) ∧ w6.drew.grownBy w' (some gr)) := Lib.hid (by
    have h1 := delete_at base gr x cr o (o + 1) (x - 1) l w6.drew (own_below HO.out HB6.out.drew) HX.out rfl (by omega) (by omega) (by omega)
    have e : ((o + 1 : Nat) : Int) = (o : Int) + 1 := by omega
    rw [e] at h1
    exact h1)
  have ho1 : IntKind.i64.wrap ((o : Int) + 1) = (o : Int) + 1 := IntWalk.i64_in _ (by omega)
  refine region_plan (fun w' : World => (∀ j, w'.cell? ⟨G, j, none⟩ = (#[.int .i64 ya, .int .i64 ys, .int .u32 yv, .int .i64 yu] : Array Value)[j]?)) 7 [(0, true), (1, true), (2, true), (3, true), (5, true), (4, false), (6, true)] (by kernel_rfl) (by kernel_rfl) HK6.out.drew.c ?_
  iterate 5
    refine plan_read (v := ?_) rfl (by rfl) ?_ ?_
    rotate_left
    · intro w' hS
      try dsimp only at hS
      go_simp
      try with_reducible rfl
    try simp only [Act.put, List.setIfInBounds_toArray, List.set_cons_zero, List.set_cons_succ, List.getElem_toArray, List.getElem_cons_zero, List.getElem_cons_succ]
  refine plan_call (F := 34) (args := ?_) rfl (by rfl) ?_ ?_
  rotate_left
  · go_simp
    rfl
  refine (HDEL.out).mono ?_
  rintro e w7 ⟨rfl, ho7, hg7⟩
  have HO7 := Lib.hid ho7
  have HG7 := Lib.hid hg7
  clear ho7 hg7
  refine ⟨_, rfl, fun i => ?_, ?_⟩
  · exact ((HK6.out.drew).grown HG7.out (fun e => HGG.out (by injection e))).c i
  try simp only [Act.put, List.setIfInBounds_toArray, List.set_cons_zero, List.set_cons_succ, List.getElem_toArray, List.getElem_cons_zero, List.getElem_cons_succ]
  iterate 1
    refine plan_read (v := ?_) rfl (by rfl) ?_ ?_
    rotate_left
    · intro w' hS
      try dsimp only at hS
      go_simp
      try with_reducible rfl
    try simp only [Act.put, List.setIfInBounds_toArray, List.set_cons_zero, List.set_cons_succ, List.getElem_toArray, List.getElem_cons_zero, List.getElem_cons_succ]
  refine plan_nil ?_
  simp only [List.drop_succ_cons, List.drop_zero]
  have HGW : Hid (w6.grownBy w7 (some gr)) := Lib.hid ⟨HG7.out.os, HG7.out.tape, HG7.out.output, HG7.out.size, HG7.out.block⟩
  have HT7 := Lib.hid (HT6.out.grown HGW.out (fun e => by injection e with e; omega))
  have HGA : Hid (w.grownBy w7 (some gr)) := Lib.hid (grown_trans (grown_below HB6.out) HGW.out)
  clear HT6 HK6 HG7 HGW HDEL ho1
  have cT := HT7.out.c
  have fT := HT7.out.f
  have lT := HT7.out.lt
  go_wp2_with fail
  refine bodyPost_ret (v := .tuple #[.slice (some ⟨gr, 0, none⟩) (x - 1) cr, .agg #[.int .i64 ya, .int .i64 ys, .int .u32 yv, .int .i64 yu]]) (by simp [results, Try.results36, go_sem, *]) rfl ⟨rfl, ?_, ?_⟩
  · have hne : ∀ g, (Value.slice (some ⟨gr, 0, none⟩) (x - 1) cr).ownBlock = some g → g ≠ w.heap.size := fun g e => by
      have e2 : gr = g := by injection e
      omega
    exact own_off (own_off (own_off (own_off HO7.out hne 0 _) hne 1 _) hne 2 _) hne 3 _
  · have hs : ∀ (W : World) (j : Nat) (u : Value), w.grownBy W (some gr) → w.grownBy (W.setCell ⟨w.heap.size, j, none⟩ u) (some gr) := fun W j u h =>
      ⟨h.os, h.tape, h.output, by simpa using h.size, fun k hk hr => (heap_setCell_other W ⟨w.heap.size, j, none⟩ k u (fun e => absurd hk (by rw [e]; exact Nat.lt_irrefl _))).trans (h.block k hk hr)⟩
    exact hs _ _ _ (hs _ _ _ (hs _ _ _ (hs _ _ _ HGA.out)))
end Go.Proofs.Ytoddmgaihggkjaa
