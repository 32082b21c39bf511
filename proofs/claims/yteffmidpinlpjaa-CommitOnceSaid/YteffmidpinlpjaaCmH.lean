/- A gate that let out, by the program; no condition but that it reads. -/
import Derived.Test.YteffmidpinlpjaaCmE
namespace Go.Proofs.Yteffmidpinlpjaa
set_option linter.unusedVariables false
set_option linter.unusedSimpArgs false
open Go.ChangeShapes Go.WideShapes Go.ChangeAt Go.RowKit

theorem cut_all (l : List Hd) : l.take 0 ++ l = l := by rw [List.take_zero, List.nil_append]
set_option maxHeartbeats 4000000 in
set_option maxRecDepth 100000 in
theorem sure_any {T : Nat → Prop} (S : Nat → Prop) (v : Value) (L : Gt) (t : Int) (w : World) (h : Lo T w v L) (hS : ∀ R, S R → R < w.heap.size) (h9 : L.out.length ≤ 9000) : Calls Try.prog 10 #[v, .int .i64 t] w fun e w' => OutL S w w' e (sureG L t) (okE L t) := by
  obtain ⟨M, l⟩ := L
  obtain ⟨p0, m, c0, q0, n, d0, rfl, hc, -⟩ := h
  have hm := hc.m10
  have hn := hc.n10
  have hn9 : n ≤ 9000 := by rw [← hc.ll]; exact h9
  clear h9
  have HML : Hid (M.length = m) := Lib.hid hc.ml
  have HLL : Hid (l.length = n) := Lib.hid hc.ll
  have HSS := Lib.hid hS
  have HCP : Hid (∀ W, Below w.heap.size w W → Calls Try.prog 19 #[.agg #[.slice p0 m c0, .slice q0 n d0]] W fun e w' => ∃ p' c' q' d', e = .returned (.agg #[.slice p' m c', .slice q' n d']) ∧ OwnL (W.heap.size + 2) w' p' m c' q' n d' ⟨M, l⟩ ∧ Below W.heap.size W w') := Lib.hid (fun W hW => copied_any p0 q0 m c0 n d0 ⟨M, l⟩ W (hc.below hW))
  have HNO : Hid (okG ⟨M, l⟩ t = false → sureG ⟨M, l⟩ t = ⟨M, l⟩ ∧ okE ⟨M, l⟩ t = 1) := Lib.hid (fun e => by unfold sureG okE; rw [e]; exact ⟨rfl, rfl⟩)
  have HYES : Hid (okG ⟨M, l⟩ t = true → sureG ⟨M, l⟩ t = ⟨M.drop (cutU M t), l ++ (M.take (cutU M t)).map Hd.td⟩ ∧ okE ⟨M, l⟩ t = 0) := Lib.hid (fun e => by unfold sureG okE; rw [e]; exact ⟨rfl, rfl⟩)
  have HSO : Hid (okG ⟨M, l⟩ t = true → M.Pairwise fun x y => x.span ≤ y.span) := Lib.hid (fun e => (ok_rt e).1.up)
  have HL64 : Hid (okG ⟨M, l⟩ t = true → m ≤ 64) := Lib.hid (fun e => by rw [← HML.out]; exact (ok_rt e).1.l64)
  obtain ⟨i0, hi, hz0, hz1, hz2⟩ := info_parts infoT
  have HI := Lib.hid (And.intro hi (And.intro hz0 (And.intro hz1 hz2)))
  clear hi hz0 hz1 hz2
  try dsimp only
  clear hc hS
  obtain ⟨w0, hw0⟩ : ∃ w0, w0 = (w.alloc (.cells #[.slice p0 m c0, .slice q0 n d0] 25)).alloc (.cells #[.slice none 0 0, .slice none 0 0] 25) := ⟨_, rfl⟩
  have HB0 : Hid (Below w.heap.size w w0) := Lib.hid (by rw [hw0]; exact ((Below.refl _ _).alloc (Nat.le_refl _) _).alloc (by simp; try omega) _)
  have HA0 : Hid (Blk w0 w.heap.size #[.slice p0 m c0, .slice q0 n d0]) := Lib.hid (by rw [hw0]; exact ((Blk.new _ _ _).alloc _))
  have HT0 : Hid (Blk w0 (w.heap.size + 1) #[.slice none 0 0, .slice none 0 0]) := Lib.hid (by
    have := Blk.new (w.alloc (.cells #[.slice p0 m c0, .slice q0 n d0] 25)) #[.slice none 0 0, .slice none 0 0] 25
    simp only [World.size_alloc] at this
    rw [hw0]; exact this)
  have HSZ : Hid (w0.heap.size = w.heap.size + 2) := Lib.hid (by rw [hw0]; simp only [World.size_alloc])
  have HW0 := Lib.hid hw0
  clear hw0
  go_enter Try.func10, Try.ntmps10
  have kA := HA0.out.c
  go_upto_region 1 with fail
  rw [← HW0.out]
  clear HW0
  go_wp2_with fail
  refine (HCP.out w0 HB0.out).mono ?_
  rintro e w1 ⟨p, c, q, d, rfl, ho, hb⟩
  have HO1 : Hid (OwnL (w.heap.size + 1 + 1) w1 p m c q n d ⟨M, l⟩) := Lib.hid (ho.mono (by rw [HSZ.out]; omega))
  have HT1 := Lib.hid (HT0.out.below hb)
  have HB1 : Hid (Below w.heap.size w w1) := Lib.hid (HB0.out.trans (hb.mono HB0.out.size))
  have HGE : Hid (w.heap.size + 1 + 1 ≤ w1.heap.size) := Lib.hid (by have := HSZ.out; have := hb.size; omega)
  clear ho hb kA HA0 HT0 HB0 HSZ HCP
  go_upto_region 2 with fail
  have HST : Hid (St w (w1.alloc (.cells #[.slice p m c, .slice q n d] 25)) (w.heap.size + 1) w1.heap.size p m c q n d M l) := Lib.hid (St.make HO1.out HB1.out HT1.out (by omega) HGE.out)
  obtain ⟨bo, hbo⟩ : ∃ b, b = w1.heap.size := ⟨_, rfl⟩
  obtain ⟨w2, hw2⟩ : ∃ z, z = w1.alloc (.cells #[.slice p m c, .slice q n d] 25) := ⟨_, rfl⟩
  rw [← hw2, ← hbo] at HST
  rw [← hw2, ← hbo]
  clear hw2 hbo HO1 HT1 HB1 HGE
  have HQ := Lib.hid (mayAsk_any _ _ _ t w2 HST.out.lo)
  obtain ⟨r, hr⟩ : ∃ r, r = okG ⟨M, l⟩ t := ⟨_, rfl⟩
  rw [← hr] at HQ HSO HNO HYES HL64
  clear hr
  have kK := HST.out.hk.c
  go_wp2_with fail
  refine HQ.out.mono ?_
  rintro e w3 ⟨rfl, hb⟩
  have HS3 := Lib.hid (HST.out.below hb)
  clear hb kK HST HQ
  cases r with
  | false =>
    have HN := Lib.hid (HNO.out (by first | rfl | trivial))
    clear HNO HYES HSO HL64 HI
    have kK := HS3.out.hk.c
    have fK := HS3.out.hk.f
    have lK := HS3.out.hk.lt
    have kT := HS3.out.ht.c
    have fT := HS3.out.ht.f
    have lT := HS3.out.ht.lt
    go_wp2_with fail
    exact bodyPost_ret (v := .tuple #[.agg #[.slice p m c, .slice q n d], .int .i64 1]) (by simp [results, Try.results10, go_sem, *]) rfl (HS3.out.out HSS.out 1 HN.out.1 HN.out.2)
  | true =>
    have HN := Lib.hid (HYES.out (by first | rfl | trivial))
    have HBE : Hid (∀ W, Below w3.heap.size w3 W → Calls Try.prog 23 #[.slice p m c, .int .i64 t] W fun e w' => e = .returned (.int .i64 (cutU M t : Nat)) ∧ Below W.heap.size W w') := Lib.hid (fun W hW => below_any p m c M t W HML.out (HS3.out.ho.lc.ms.below hW) hm (HSO.out (by first | rfl | trivial)))
    have HCL : Hid (cutU M t ≤ m) := Lib.hid (by rw [← HML.out]; exact cut_le M t)
    have h64 : m ≤ 64 := HL64.out (by first | rfl | trivial)
    obtain ⟨k, hk⟩ : ∃ k, k = cutU M t := ⟨_, rfl⟩
    rw [← hk] at HN HBE HCL
    clear hk HNO HYES HSO HL64
    have kK := HS3.out.hk.c
    go_wp2_with fail
    refine (HBE.out w3 (Below.refl _ _)).mono ?_
    rintro e w4 ⟨rfl, hb⟩
    have HS4 := Lib.hid (HS3.out.below hb)
    clear hb HBE HS3 kK
    go_upto_region 5 with fail
    obtain ⟨TK, hTK⟩ : ∃ z, z = M.take k := ⟨_, rfl⟩
    have HTL : Hid (TK.length = k) := Lib.hid (by rw [hTK, List.length_take, HML.out]; have := HCL.out; omega)
    have HTO : Hid (∀ W, Below w4.heap.size w4 W → Calls Try.prog 24 #[.slice p k c] W fun e w' => ∃ q d, e = .returned (.slice q k d) ∧ w'.ownsRow W.heap.size 28 2 (.slice q k d) k (tdC (TK.map Hd.td)) ∧ Below W.heap.size W w') := Lib.hid (fun W hW => told_any p k c TK W HTL.out (by rw [hTK]; exact (HS4.out.ho.lc.ms.below hW).take HCL.out HML.out) (by have := HCL.out; omega))
    rw [← hTK] at HN
    clear hTK
    have hkc : k ≤ c := Nat.le_trans HCL.out HS4.out.ho.lc.mc
    have hk64 : k ≤ 64 := Nat.le_trans HCL.out h64
    have hpn : p = none → k = 0 := fun e => by
      rcases Nat.eq_zero_or_pos k with h0 | h0
      · exact h0
      · obtain ⟨b, off, _, h2, _⟩ := HS4.out.ho.lc.ms (by have := HCL.out; omega)
        rw [e] at h2; cases h2
    have hcut : ∀ W, (Instr.slice 22 (.slice p m c) none (some (.int .i64 (k : Int))) none).run Try.prog W = .ok (.slice p k c) W := fun W => by
      obtain ⟨a, h1, h2⟩ := cut_hi p m c k hkc hpn W
      rw [h1, h2]
    have HS : Hid (∀ V, Below w4.heap.size w4 V → ∀ j, V.cell? ⟨bo, j, none⟩ = (#[.slice p m c, .slice q n d] : Array Value)[j]?) := Lib.hid (fun V hV => (HS4.out.below hV).hk.c)
    refine region_plan (fun V : World => ∀ j, V.cell? ⟨bo, j, none⟩ = (#[.slice p m c, .slice q n d] : Array Value)[j]?) 7 [(0, true), (1, true), (2, true), (3, true), (4, true), (5, true), (6, false)] (by kernel_rfl) (by kernel_rfl) (HS.out _ (Below.refl _ _).drew) ?_
    iterate 6
      refine plan_read (v := ?_) rfl (by rfl) ?_ ?_
      rotate_left
      · intro w' hS
        try dsimp only at hS
        go_simp
        try with_reducible rfl
      try simp only [Act.put, List.setIfInBounds_toArray, List.set_cons_zero, List.set_cons_succ, List.getElem_toArray, List.getElem_cons_zero, List.getElem_cons_succ]
    refine plan_call (F := 24) (args := ?_) rfl (by rfl) ?_ ?_
    rotate_left
    · go_simp
      rfl
    refine (HTO.out w4.drew (Below.refl _ _).drew).mono ?_
    rintro e w5 ⟨qt, dt, rfl, ho, hb⟩
    have HB5 : Hid (Below w4.heap.size w4 w5) := Lib.hid ((Below.refl _ _).drew.trans hb)
    obtain ⟨qx, cx, ex, HSL⟩ := Sl.own ho
    injection ex with ex1 ex2 ex3
    subst ex1
    have HSLH := Lib.hid HSL
    clear hb ho HSL ex2 ex3
    refine ⟨_, rfl, HS.out _ HB5.out, ?_⟩
    try simp only [Act.put, List.setIfInBounds_toArray, List.set_cons_zero, List.set_cons_succ, List.getElem_toArray, List.getElem_cons_zero, List.getElem_cons_succ]
    refine plan_nil ?_
    simp only [List.drop_succ_cons, List.drop_zero]
    have HS5 := Lib.hid (HS4.out.below HB5.out)
    have HLE : Hid (n + k ≤ 10000) := Lib.hid (by omega)
    clear HS HB5 HS4 HTO hcut hpn
    go_upto_region 6 with (first | (at_builtin; refine wpList_append_sl rfl _ _ 23 rfl (w.heap.size + 1 + 1) 28 i0 _ 2 16 Try.underlying23 HI.out.1 HI.out.2.1 HI.out.2.2.1 HI.out.2.2.2 rfl (by decide) _ n (tdC l) rfl HS5.out.ho.lo qt k dt (tdC (TK.map Hd.td)) rfl (by rw [tdC_len, List.length_map, HTL.out]) HSLH.out (tdC_one _) (by unfold maxLen; omega) (by omega) (by have := HS5.out.hk.lt; have := HS5.out.ge; omega) ?_; intro v' w7 g1 g2 g3; obtain ⟨q', d', rfl, -⟩ := own_cap g1; have HS8 := Lib.hid (HS5.out.outs (l' := l ++ TK.map Hd.td) HLE.out (by rw [tdC_app]; exact g1) g2 (by rcases g3 with g3 | g3; exact .inl g3; exact .inr (fun g' e => by rw [g3] at e; injection e with e; omega))); have HK7 := Lib.hid (HS5.out.hk.grown g2 (fun e => HS5.out.nq bo e rfl)); clear g1 g2 g3 HS5; have kK := HK7.out.c; have fK := HK7.out.f; have lK := HK7.out.lt))
    obtain ⟨w8, hw8⟩ : ∃ z, z = w7.setCell ⟨bo, 1, none⟩ (.slice q' (n + k) d') := ⟨_, rfl⟩
    rw [← hw8] at HS8 ⊢
    clear hw8 kK fK lK HK7
    obtain ⟨n2, hn2⟩ : ∃ z, z = n + k := ⟨_, rfl⟩
    rw [← hn2] at HS8 ⊢
    clear hn2
    have HD := Lib.hid (delete_any (w.heap.size + 1 + 1) m c 0 k p M w8 HS8.out.ho.mo HML.out (Nat.zero_le _) HCL.out hm)
    have HLE2 : Hid ((M.take 0 ++ M.drop k).length ≤ 10000) := Lib.hid (by rw [List.length_append, List.length_take, List.length_drop, HML.out]; omega)
    have e0 : M.take 0 ++ M.drop k = M.drop k := by simp
    rw [e0] at HD HLE2
    obtain ⟨x, hx⟩ : ∃ x, x = (M.drop k).length := ⟨_, rfl⟩
    rw [← hx] at HD HLE2
    clear hx e0
    have kK := HS8.out.hk.c
    go_wp2_with fail
    refine HD.out.mono ?_
    rintro e w9 ⟨rfl, ho, hg⟩
    have HS9 := Lib.hid (HS8.out.held HLE2.out ho hg (.inl (by cases p <;> rfl)))
    have HK9 := Lib.hid (HS8.out.hk.grown hg (fun e => HS8.out.np bo e rfl))
    clear ho hg HD HS8 kK
    have kK := HK9.out.c
    have fK := HK9.out.f
    have lK := HK9.out.lt
    go_upto_region 7 with fail
    obtain ⟨w10, hw10⟩ : ∃ z, z = w9.setCell ⟨bo, 0, none⟩ (.slice p x c) := ⟨_, rfl⟩
    rw [← hw10] at HS9 ⊢
    clear hw10 kK fK lK HK9
    have kK := HS9.out.hk.c
    have fK := HS9.out.hk.f
    have lK := HS9.out.hk.lt
    have kT := HS9.out.ht.c
    have fT := HS9.out.ht.f
    have lT := HS9.out.ht.lt
    go_wp2_with fail
    exact bodyPost_ret (v := .tuple #[.agg #[.slice p x c, .slice q' n2 d'], .int .i64 0]) (by simp [results, Try.results10, go_sem, *]) rfl (HS9.out.out HSS.out 0 HN.out.1 HN.out.2)
end Go.Proofs.Yteffmidpinlpjaa
