/- The next interval, a word that is written, what is trimmed, by the program; no condition but that the log reads. -/
import Derived.Test.YtbgllkjhgjoodaaUnI
namespace Go.Proofs.Ytbgllkjhgjoodaa
set_option linter.unusedVariables false
open Go.ChangeShapes Go.WideShapes Go.ChangeAt Go.RowKit Go.Maps

theorem St.mem {w W : World} {bo g : Nat} {q : Option Addr} {m c n d : Nat} {s : Int} {M : List Int} {l : List Un} (h : St w W bo (some ⟨g, 0, none⟩) m c s q n d M l) (k : Nat) (v : Int) :
    St w (W.setCell ⟨g, k, none⟩ (.int .u32 v)) bo (some ⟨g, 0, none⟩) m c s q n d (M.set k v) l := by
  have hg := (h.ho.mo.lt g rfl)
  exact ⟨h.ht.other _ (by omega), h.hk.other _ (fun e => h.np g rfl e), ⟨by have := (h.ho.mo.stored k (.int .u32 v)).1; rw [wdC_set] at this; exact this, own_off h.ho.lo (fun g' e e2 => h.ho.sep g rfl (by rw [e, e2])) _ _, h.ho.sep, h.ho.m10, h.ho.n10⟩,
    h.hb.setCell (p := ⟨g, k, none⟩) (by show w.heap.size ≤ g; omega) _, h.ge, h.np, h.nq⟩
/-- A list of one's own has become another one, and is stored. -/
theorem St.list {w W W' : World} {bo : Nat} {p q q' : Option Addr} {m c n d n' d' : Nat} {s : Int} {M : List Int} {l l' : List Un} (h : St w W bo p m c s q n d M l) (hn : n' ≤ 10000)
    (ho : W'.ownsRow (w.heap.size + 2) 51 3 (.slice q' n' d') n' (unC l')) (hg : W.grownBy W' (Value.slice q n d).ownBlock) (hb : (Value.slice q' n' d').ownBlock = (Value.slice q n d).ownBlock ∨ (∀ g, (Value.slice q' n' d').ownBlock = some g → W.heap.size ≤ g)) :
    St w (W'.setCell ⟨bo, 2, none⟩ (.slice q' n' d')) bo p m c s q' n' d' M l' := by
  have hk' : Blk W' bo #[.slice p m c, .int .i64 s, .slice q n d] := h.hk.grown hg (fun e => h.nq bo e rfl)
  have hlt := h.hk.lt
  have nq' : ∀ g, (Value.slice q' n' d').ownBlock = some g → g ≠ bo := fun g e => by
    rcases hb with hb | hb
    · exact h.nq g (by rw [← hb]; exact e)
    · have := hb g e; omega
  have hmo : W'.ownsRow (w.heap.size + 2) 26 1 (.slice p m c) m (wdC M) := by
    refine h.ho.mo.kept hg ?_
    cases hv : (Value.slice p m c).ownBlock with
    | none => exact .inl rfl
    | some b => exact .inr (fun e => h.ho.sep b hv e.symm)
  refine ⟨(h.ht.grown hg (fun e => by have := (h.ho.lo.lt _ e).1; omega)).other _ (by have := h.ge; omega), hk'.set (n := 2) _ (by simp), ⟨own_off hmo h.np _ _, own_off ho nq' _ _, fun g e e2 => ?_, h.ho.m10, hn⟩, ?_, h.ge, h.np, nq'⟩
  · rcases hb with hb | hb
    · exact h.ho.sep g e (by rw [← hb]; exact e2)
    · have := hb g e2
      have := (h.ho.mo.lt g e).2
      omega
  · exact (h.hb.grown hg h.hb.size (fun g e => by have := (h.ho.lo.lt g e).1; omega)).setCell (p := ⟨bo, 2, none⟩) (by show w.heap.size ≤ bo; have := h.ge; omega) _

set_option maxHeartbeats 4000000 in
set_option maxRecDepth 100000 in
theorem next_any {T : Nat → Prop} (S : Nat → Prop) (v : Value) (L : Lg) (w : World) (h : Lo T w v L) (hS : ∀ R, S R → R < w.heap.size) : Calls Try.prog 17 #[v] w fun e w' => OutL S w w' e (nextL L) (nextE L) := by
  obtain ⟨M, s, l⟩ := L
  obtain ⟨p0, m, c0, q0, n, d0, rfl, hc, -⟩ := h
  have hm := hc.m10
  have hn := hc.n10
  have HML : Hid (M.length = m) := Lib.hid hc.ml
  have HLL : Hid (l.length = n) := Lib.hid hc.ll
  have HSS := Lib.hid hS
  have HCP : Hid (∀ W, Below w.heap.size w W → Calls Try.prog 21 #[.agg #[.slice p0 m c0, .int .i64 s, .slice q0 n d0]] W fun e w' => ∃ p' c' q' d', e = .returned (.agg #[.slice p' m c', .int .i64 s, .slice q' n d']) ∧ OwnL (W.heap.size + 2) w' p' m c' q' n d' ⟨M, s, l⟩ ∧ Below W.heap.size W w') := Lib.hid (fun W hW => copied_any p0 q0 m c0 n d0 ⟨M, s, l⟩ W (hc.below hW))
  have HNO : Hid (okN ⟨M, s, l⟩ = false → nextL ⟨M, s, l⟩ = ⟨M, s, l⟩ ∧ nextE ⟨M, s, l⟩ = 1) := Lib.hid (fun e => by unfold nextL nextE; rw [e]; exact ⟨rfl, rfl⟩)
  have HYES : Hid (okN ⟨M, s, l⟩ = true → nextL ⟨M, s, l⟩ = ⟨M, s + 1, l⟩ ∧ nextE ⟨M, s, l⟩ = 0) := Lib.hid (fun e => by unfold nextL nextE; rw [e]; exact ⟨rfl, rfl⟩)
  have HOK : Hid (okN ⟨M, s, l⟩ = (rightL ⟨M, s, l⟩ && decide (s < topS))) := Lib.hid rfl
  dsimp only
  clear hc hS
  obtain ⟨w0, hw0⟩ : ∃ w0, w0 = (w.alloc (.cells #[.slice p0 m c0, .int .i64 s, .slice q0 n d0] 25)).alloc (.cells #[.slice none 0 0, .int .i64 0, .slice none 0 0] 25) := ⟨_, rfl⟩
  have HB0 : Hid (Below w.heap.size w w0) := Lib.hid (by rw [hw0]; exact ((Below.refl _ _).alloc (Nat.le_refl _) _).alloc (by simp) _)
  have HA0 : Hid (Blk w0 w.heap.size #[.slice p0 m c0, .int .i64 s, .slice q0 n d0]) := Lib.hid (by rw [hw0]; exact (Blk.new _ _ _).alloc _)
  have HT0 : Hid (Blk w0 (w.heap.size + 1) #[.slice none 0 0, .int .i64 0, .slice none 0 0]) := Lib.hid (by
    have := Blk.new (w.alloc (.cells #[.slice p0 m c0, .int .i64 s, .slice q0 n d0] 25)) #[.slice none 0 0, .int .i64 0, .slice none 0 0] 25
    rw [World.size_alloc] at this
    rw [hw0]; exact this)
  have HSZ : Hid (w0.heap.size = w.heap.size + 2) := Lib.hid (by rw [hw0, World.size_alloc, World.size_alloc])
  have HW0 := Lib.hid hw0
  clear hw0
  go_enter Try.func17, Try.ntmps17
  have kA := HA0.out.c
  go_upto_region 1 with fail
  rw [← HW0.out]
  clear HW0
  go_wp2_with fail
  refine (HCP.out w0 HB0.out).mono ?_
  rintro e w1 ⟨p, c, q, d, rfl, ho, hb⟩
  have HO1 : Hid (OwnL (w.heap.size + 2) w1 p m c q n d ⟨M, s, l⟩) := Lib.hid (ho.mono (by rw [HSZ.out]; omega))
  have HT1 := Lib.hid (HT0.out.below hb)
  have HB1 : Hid (Below w.heap.size w w1) := Lib.hid (HB0.out.trans (hb.mono HB0.out.size))
  have HGE : Hid (w.heap.size + 2 ≤ w1.heap.size) := Lib.hid (by rw [← HSZ.out]; exact hb.size)
  clear ho hb kA HA0 HT0 HB0 HSZ HCP
  go_upto_region 2 with fail
  have HST : Hid (St w (w1.alloc (.cells #[.slice p m c, .int .i64 s, .slice q n d] 25)) w1.heap.size p m c s q n d M l) := Lib.hid (St.make HO1.out HB1.out HT1.out HGE.out)
  obtain ⟨bo, hbo⟩ : ∃ b, b = w1.heap.size := ⟨_, rfl⟩
  obtain ⟨w2, hw2⟩ : ∃ z, z = w1.alloc (.cells #[.slice p m c, .int .i64 s, .slice q n d] 25) := ⟨_, rfl⟩
  rw [← hw2, ← hbo] at HST ⊢
  clear hw2 hbo HO1 HT1 HB1 HGE
  have HQ := Lib.hid (right_any _ _ _ w2 HST.out.lo)
  have HRT : Hid (rightL ⟨M, s, l⟩ = true → 0 ≤ s ∧ s ≤ topS) := Lib.hid (fun e => ⟨(right_iff.1 e).s0, (right_iff.1 e).st⟩)
  obtain ⟨r, hr⟩ : ∃ r, r = rightL ⟨M, s, l⟩ := ⟨_, rfl⟩
  rw [← hr] at HQ HOK HRT
  clear hr
  have kK := HST.out.hk.c
  go_wp2_with fail
  refine HQ.out.mono ?_
  rintro e w3 ⟨rfl, hb⟩
  have HS3 := Lib.hid (HST.out.below hb)
  clear hb kK HST HQ
  cases r with
  | false =>
    have HN := Lib.hid (HNO.out (by rw [HOK.out]; rfl))
    clear HNO HYES HOK HRT
    have kK := HS3.out.hk.c
    have fK := HS3.out.hk.f
    have lK := HS3.out.hk.lt
    have kT := HS3.out.ht.c
    have fT := HS3.out.ht.f
    have lT := HS3.out.ht.lt
    go_wp2_with fail
    exact bodyPost_ret (v := .tuple #[.agg #[.slice p m c, .int .i64 s, .slice q n d], .int .i64 1]) (by simp [results, Try.results17, go_sem, *]) rfl (HS3.out.out HSS.out 1 HN.out.1 HN.out.2)
  | true =>
    obtain ⟨h0, ht⟩ := HRT.out (by first | rfl | trivial)
    unfold topS at ht
    by_cases hs : s = 1099511627776
    · have d1 : (s == 1099511627776) = true := by simp [hs]
      have HN := Lib.hid (HNO.out (by rw [HOK.out, hs]; rfl))
      clear HNO HYES HOK HRT hs h0 ht
      have kK := HS3.out.hk.c
      have fK := HS3.out.hk.f
      have lK := HS3.out.hk.lt
      have kT := HS3.out.ht.c
      have fT := HS3.out.ht.f
      have lT := HS3.out.ht.lt
      go_wp2_with fail
      exact bodyPost_ret (v := .tuple #[.agg #[.slice p m c, .int .i64 s, .slice q n d], .int .i64 1]) (by simp [results, Try.results17, go_sem, *]) rfl (HS3.out.out HSS.out 1 HN.out.1 HN.out.2)
    · have d1 : (s == 1099511627776) = false := by simp [hs]
      have HN := Lib.hid (HYES.out (by rw [HOK.out, decide_eq_true (show s < topS by unfold topS; omega)]; rfl))
      have f1 : IntKind.i64.wrap (s + 1) = s + 1 := by rw [IntKind.wrap_i64]; omega
      have f2 : wrap64 (s + 1) = s + 1 := by unfold wrap64; omega
      have HS4 := Lib.hid (HS3.out.span (s + 1))
      clear HNO HYES HOK HRT hs h0 ht
      have kK := HS3.out.hk.c
      have fK := HS3.out.hk.f
      have lK := HS3.out.hk.lt
      go_upto_region 5 with fail
      obtain ⟨w4, hw4⟩ : ∃ z, z = w3.setCell ⟨bo, 1, none⟩ (.int .i64 (s + 1)) := ⟨_, rfl⟩
      rw [← hw4] at HS4 ⊢
      clear hw4 kK fK lK HS3
      have kK := HS4.out.hk.c
      have fK := HS4.out.hk.f
      have lK := HS4.out.hk.lt
      have kT := HS4.out.ht.c
      have fT := HS4.out.ht.f
      have lT := HS4.out.ht.lt
      go_wp2_with fail
      exact bodyPost_ret (v := .tuple #[.agg #[.slice p m c, .int .i64 (s + 1), .slice q n d], .int .i64 0]) (by simp [results, Try.results17, go_sem, *]) rfl (HS4.out.out HSS.out 0 HN.out.1 HN.out.2)

set_option maxHeartbeats 4000000 in
set_option maxRecDepth 100000 in
theorem trim_any {T : Nat → Prop} (S : Nat → Prop) (v : Value) (L : Lg) (t : Int) (w : World) (h : Lo T w v L) (hS : ∀ R, S R → R < w.heap.size) : Calls Try.prog 12 #[v, .int .i64 t] w fun e w' => OutL S w w' e (trimL L t) (backE L t) := by
  obtain ⟨M, s, l⟩ := L
  obtain ⟨p0, m, c0, q0, n, d0, rfl, hc, -⟩ := h
  have hm := hc.m10
  have hn := hc.n10
  have HML : Hid (M.length = m) := Lib.hid hc.ml
  have HLL : Hid (l.length = n) := Lib.hid hc.ll
  have HSS := Lib.hid hS
  have HCP : Hid (∀ W, Below w.heap.size w W → Calls Try.prog 21 #[.agg #[.slice p0 m c0, .int .i64 s, .slice q0 n d0]] W fun e w' => ∃ p' c' q' d', e = .returned (.agg #[.slice p' m c', .int .i64 s, .slice q' n d']) ∧ OwnL (W.heap.size + 2) w' p' m c' q' n d' ⟨M, s, l⟩ ∧ Below W.heap.size W w') := Lib.hid (fun W hW => copied_any p0 q0 m c0 n d0 ⟨M, s, l⟩ W (hc.below hW))
  have HNO : Hid (okB ⟨M, s, l⟩ t = false → trimL ⟨M, s, l⟩ t = ⟨M, s, l⟩ ∧ backE ⟨M, s, l⟩ t = 1) := Lib.hid (fun e => by unfold trimL backE; rw [e]; exact ⟨rfl, rfl⟩)
  have HYES : Hid (okB ⟨M, s, l⟩ t = true → trimL ⟨M, s, l⟩ t = ⟨M, s, l.drop (cutU l t)⟩ ∧ backE ⟨M, s, l⟩ t = 0) := Lib.hid (fun e => by
    have hr : Rt ⟨M, s, l⟩ := by rw [okB_eq, Bool.and_eq_true] at e; exact right_iff.1 e.1
    unfold trimL backE; rw [e]; exact ⟨by rw [← (cut_split hr.sort t).2]; rfl, rfl⟩)
  have HSO : Hid (okB ⟨M, s, l⟩ t = true → l.Pairwise fun x y => x.span ≤ y.span) := Lib.hid (fun e => by
    have hr : Rt ⟨M, s, l⟩ := by rw [okB_eq, Bool.and_eq_true] at e; exact right_iff.1 e.1
    exact hr.sort)
  dsimp only
  clear hc hS
  obtain ⟨w0, hw0⟩ : ∃ w0, w0 = (w.alloc (.cells #[.slice p0 m c0, .int .i64 s, .slice q0 n d0] 25)).alloc (.cells #[.slice none 0 0, .int .i64 0, .slice none 0 0] 25) := ⟨_, rfl⟩
  have HB0 : Hid (Below w.heap.size w w0) := Lib.hid (by rw [hw0]; exact ((Below.refl _ _).alloc (Nat.le_refl _) _).alloc (by simp) _)
  have HA0 : Hid (Blk w0 w.heap.size #[.slice p0 m c0, .int .i64 s, .slice q0 n d0]) := Lib.hid (by rw [hw0]; exact (Blk.new _ _ _).alloc _)
  have HT0 : Hid (Blk w0 (w.heap.size + 1) #[.slice none 0 0, .int .i64 0, .slice none 0 0]) := Lib.hid (by
    have := Blk.new (w.alloc (.cells #[.slice p0 m c0, .int .i64 s, .slice q0 n d0] 25)) #[.slice none 0 0, .int .i64 0, .slice none 0 0] 25
    rw [World.size_alloc] at this
    rw [hw0]; exact this)
  have HSZ : Hid (w0.heap.size = w.heap.size + 2) := Lib.hid (by rw [hw0, World.size_alloc, World.size_alloc])
  have HW0 := Lib.hid hw0
  clear hw0
  go_enter Try.func12, Try.ntmps12
  have kA := HA0.out.c
  go_upto_region 1 with fail
  rw [← HW0.out]
  clear HW0
  go_wp2_with fail
  refine (HCP.out w0 HB0.out).mono ?_
  rintro e w1 ⟨p, c, q, d, rfl, ho, hb⟩
  have HO1 : Hid (OwnL (w.heap.size + 2) w1 p m c q n d ⟨M, s, l⟩) := Lib.hid (ho.mono (by rw [HSZ.out]; omega))
  have HT1 := Lib.hid (HT0.out.below hb)
  have HB1 : Hid (Below w.heap.size w w1) := Lib.hid (HB0.out.trans (hb.mono HB0.out.size))
  have HGE : Hid (w.heap.size + 2 ≤ w1.heap.size) := Lib.hid (by rw [← HSZ.out]; exact hb.size)
  clear ho hb kA HA0 HT0 HB0 HSZ HCP
  go_upto_region 2 with fail
  have HST : Hid (St w (w1.alloc (.cells #[.slice p m c, .int .i64 s, .slice q n d] 25)) w1.heap.size p m c s q n d M l) := Lib.hid (St.make HO1.out HB1.out HT1.out HGE.out)
  obtain ⟨bo, hbo⟩ : ∃ b, b = w1.heap.size := ⟨_, rfl⟩
  obtain ⟨w2, hw2⟩ : ∃ z, z = w1.alloc (.cells #[.slice p m c, .int .i64 s, .slice q n d] 25) := ⟨_, rfl⟩
  rw [← hw2, ← hbo] at HST ⊢
  clear hw2 hbo HO1 HT1 HB1 HGE
  have HQ := Lib.hid (hadSpan_any _ _ _ t w2 HST.out.lo)
  obtain ⟨r, hr⟩ : ∃ r, r = okB ⟨M, s, l⟩ t := ⟨_, rfl⟩
  rw [← hr] at HQ HSO HNO HYES
  clear hr
  have kK := HST.out.hk.c
  go_wp2_with fail
  refine HQ.out.mono ?_
  rintro e w3 ⟨rfl, hb⟩
  have HS3 := Lib.hid (HST.out.below hb)
  clear hb kK HST HQ
  cases r with
  | false =>
    have HN := Lib.hid (HNO.out (by first | rfl | trivial))
    clear HNO HYES HSO
    have kK := HS3.out.hk.c
    have fK := HS3.out.hk.f
    have lK := HS3.out.hk.lt
    have kT := HS3.out.ht.c
    have fT := HS3.out.ht.f
    have lT := HS3.out.ht.lt
    go_wp2_with fail
    exact bodyPost_ret (v := .tuple #[.agg #[.slice p m c, .int .i64 s, .slice q n d], .int .i64 1]) (by simp [results, Try.results12, go_sem, *]) rfl (HS3.out.out HSS.out 1 HN.out.1 HN.out.2)
  | true =>
    have HN := Lib.hid (HYES.out (by first | rfl | trivial))
    have HBE : Hid (∀ W, Below w3.heap.size w3 W → Calls Try.prog 26 #[.slice q n d, .int .i64 t] W fun e w' => e = .returned (.int .i64 (cutU l t : Nat)) ∧ Below W.heap.size W w') := Lib.hid (fun W hW => below_any q n d l t W HLL.out (HS3.out.ho.lc.ls.below hW) hn (HSO.out (by first | rfl | trivial)))
    have HCL : Hid (cutU l t ≤ n) := Lib.hid (by rw [← HLL.out]; exact cut_le l t)
    obtain ⟨k, hk⟩ : ∃ k, k = cutU l t := ⟨_, rfl⟩
    rw [← hk] at HN HBE HCL
    clear hk HNO HYES HSO
    have HS : Hid (∀ V, Below w3.heap.size w3 V → ∀ j, V.cell? ⟨bo, j, none⟩ = (#[.slice p m c, .int .i64 s, .slice q n d] : Array Value)[j]?) := Lib.hid (fun V hV => (HS3.out.below hV).hk.c)
    have kK := HS3.out.hk.c
    go_upto_region 4 with fail
    clear kK
    refine region_plan (fun V : World => ∀ j, V.cell? ⟨bo, j, none⟩ = (#[.slice p m c, .int .i64 s, .slice q n d] : Array Value)[j]?) 6 [(0, true), (2, true), (3, true), (4, true), (1, true), (5, false)] (by kernel_rfl) (by kernel_rfl) (HS.out _ (Below.refl _ _).drew) ?_
    iterate 5
      refine plan_read (v := ?_) rfl (by rfl) ?_ ?_
      rotate_left
      · intro w' hS
        try dsimp only at hS
        go_simp
        try with_reducible rfl
      try simp only [Act.put, List.setIfInBounds_toArray, List.set_cons_zero, List.set_cons_succ, List.getElem_toArray, List.getElem_cons_zero, List.getElem_cons_succ]
    refine plan_call (F := 26) (args := ?_) rfl (by rfl) ?_ ?_
    rotate_left
    · go_simp
      rfl
    refine (HBE.out w3.drew (Below.refl _ _).drew).mono ?_
    rintro e w4 ⟨rfl, hb⟩
    have HB4 : Hid (Below w3.heap.size w3 w4) := Lib.hid ((Below.refl _ _).drew.trans hb)
    clear hb
    refine ⟨_, rfl, HS.out _ HB4.out, ?_⟩
    try simp only [Act.put, List.setIfInBounds_toArray, List.set_cons_zero, List.set_cons_succ, List.getElem_toArray, List.getElem_cons_zero, List.getElem_cons_succ]
    refine plan_nil ?_
    simp only [List.drop_succ_cons, List.drop_zero]
    have HS4 := Lib.hid (HS3.out.below HB4.out)
    have HD := Lib.hid (delete_any (w.heap.size + 2) n d 0 k q l w4 HS4.out.ho.lo HLL.out (Nat.zero_le _) HCL.out hn)
    have HLE : Hid ((l.take 0 ++ l.drop k).length ≤ 10000) := Lib.hid (by rw [List.length_append, List.length_take, List.length_drop, HLL.out]; omega)
    have e0 : l.take 0 ++ l.drop k = l.drop k := by simp
    rw [e0] at HD HLE
    obtain ⟨x, hx⟩ : ∃ x, x = (l.drop k).length := ⟨_, rfl⟩
    rw [← hx] at HD HLE
    clear hx
    clear e0 HS HB4 HS3 HBE
    go_wp2_with fail
    refine HD.out.mono ?_
    rintro e w5 ⟨rfl, ho, hg⟩
    have HS5 := Lib.hid (HS4.out.list HLE.out ho hg (.inl (by cases q <;> rfl)))
    have HK5 := Lib.hid (HS4.out.hk.grown hg (fun e => HS4.out.nq bo e rfl))
    clear ho hg HD HS4
    have kK := HK5.out.c
    have fK := HK5.out.f
    have lK := HK5.out.lt
    go_upto_region 5 with fail
    obtain ⟨w6, hw6⟩ : ∃ z, z = w5.setCell ⟨bo, 2, none⟩ (.slice q x d) := ⟨_, rfl⟩
    rw [← hw6] at HS5 ⊢
    clear hw6 kK fK lK HK5
    have kK := HS5.out.hk.c
    have fK := HS5.out.hk.f
    have lK := HS5.out.hk.lt
    have kT := HS5.out.ht.c
    have fT := HS5.out.ht.f
    have lT := HS5.out.ht.lt
    go_wp2_with fail
    exact bodyPost_ret (v := .tuple #[.agg #[.slice p m c, .int .i64 s, .slice q x d], .int .i64 0]) (by simp [results, Try.results12, go_sem, *]) rfl (HS5.out.out HSS.out 0 HN.out.1 HN.out.2)
end Go.Proofs.Ytbgllkjhgjoodaa
