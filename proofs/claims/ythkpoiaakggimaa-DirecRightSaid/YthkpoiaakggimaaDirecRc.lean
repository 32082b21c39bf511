/- The document's own Read, Back; no condition but that what is known reads. -/
import Derived.Test.YthkpoiaakggimaaDirecRb
import Derived.Test.YthkpoiaakggimaaDirecE
namespace Go.Proofs.Ythkpoiaakggimaa
set_option linter.unusedVariables false
open Go.ChangeShapes Go.WideShapes Go.ChangeAt Go.RowKit

theorem read_lone2 {E : En} {k : Int} (h : hasE E k = true) (h0 : E.owner = 0) (hm : (othE E k).length = 0) : readC E k = ⟨k + 1, List.replicate E.share.length false⟩ ∧ readF E k = 0 ∧ askX E k = 0 := by
  have hl : loneE E k = true := loneE_iff.2 ⟨h0, hm⟩
  unfold readC readF askX
  rw [if_pos h, if_pos h, if_pos h, if_pos hl]
  exact ⟨rfl, h0, rfl⟩

set_option maxHeartbeats 2000000 in
set_option maxRecDepth 100000 in
theorem rread_any (S : Nat → Prop) (v : Value) (E : En) (k : Int) (w : World) (h : Eo S w v E) (hS : ∀ R, S R → R < w.heap.size) : Calls Try.prog 8 #[v, .int .i64 k] w fun e w' => Out3 S w w' e (readC E k) (readF E k) (askX E k) := by
  have HHS := Lib.hid (fun W hW => has_any S v E k W (h.below (w := w) (w' := W) hW))
  obtain ⟨p, n, c, rfl, hc, hoff⟩ := h
  have hn := hc.n100
  have HLEN := Lib.hid hc.len
  have HEC := Lib.hid hc
  have HOF := Lib.hid hoff
  have HOT := Lib.hid (fun W hW => rothers_any p n c E k W (hc.below (w := w) (w' := W) hW))
  have HFIN : Hid (∀ w' p' n' c' O' L' F X, Ec w' p' n' c' ⟨O', L'⟩ → (∀ R, S R → Off R p' n') → Below w.heap.size w w' → readC E k = ⟨O', L'⟩ ∧ readF E k = F ∧ askX E k = X →
      Out3 S w w' (.returned (.tuple #[.agg #[.int .i64 O', .slice p' n' c'], .int .i64 F, .int .i64 X])) (readC E k) (readF E k) (askX E k)) := Lib.hid (fun w' p' n' c' O' L' F X ho hf hb e => by
    rw [e.1, e.2.1, e.2.2]
    exact ⟨_, rfl, ⟨_, _, _, rfl, ho, hf⟩, hb⟩)
  have HSS := Lib.hid hS
  have HSE := Lib.hid (fun W hW hk => set_any p n c k.toNat E.share true W hc.len (hc.sl.below (w := w) (w' := W) hW) hk hn)
  obtain ⟨O, hO⟩ : ∃ O, O = E.owner := ⟨_, rfl⟩
  obtain ⟨L, hL⟩ : ∃ L, L = E.share := ⟨_, rfl⟩
  have HEO : Hid (E.owner = O ∧ E.share = L) := Lib.hid ⟨hO.symm, hL.symm⟩
  rw [← hO] at HOT HHS ⊢
  rw [← hL] at HLEN HSE
  have HES : Hid (E = ⟨O, L⟩) := Lib.hid (by rw [hO, hL])
  clear hO hL hc hoff
  obtain ⟨w0, hw0⟩ : ∃ w0, w0 = (w.alloc (.cells #[.int .i64 O, .slice p n c] 24)).alloc (.cells #[.int .i64 0, .slice none 0 0] 24) := ⟨_, rfl⟩
  have HB0 : Hid (Below w.heap.size w w0) := Lib.hid (by rw [hw0]; exact ((Below.refl _ _).alloc (Nat.le_refl _) _).alloc (by simp) _)
  have HA0 : Hid (Blk w0 w.heap.size #[.int .i64 O, .slice p n c]) := Lib.hid (by rw [hw0]; exact (Blk.new _ _ _).alloc _)
  have HT0 : Hid (Blk w0 (w.heap.size + 1) #[.int .i64 0, .slice none 0 0]) := Lib.hid (by
    have := Blk.new (w.alloc (.cells #[.int .i64 O, .slice p n c] 24)) #[.int .i64 0, .slice none 0 0] 24
    rw [World.size_alloc] at this
    rw [hw0]; exact this)
  have HW0 := Lib.hid hw0
  have HQ := Lib.hid (HHS.out w0 HB0.out)
  clear hw0 HHS
  go_enter Try.func8, Try.ntmps8
  have kA := HA0.out.c
  go_upto_region 1 with fail
  rw [← HW0.out]
  clear HW0
  obtain ⟨t, ht⟩ : ∃ t, t = hasE E k := ⟨_, rfl⟩
  rw [← ht] at HQ
  have HTT := Lib.hid ht
  clear ht
  go_wp2_with fail
  refine HQ.out.mono ?_
  rintro e w1 ⟨rfl, hb1⟩
  have HA1 := Lib.hid (HA0.out.below hb1)
  have HT1 := Lib.hid (HT0.out.below hb1)
  have HB1 : Hid (Below w.heap.size w w1) := Lib.hid (HB0.out.trans (hb1.mono HB0.out.size))
  clear hb1 HA0 HB0 HQ HT0 kA
  have kA := HA1.out.c
  have cT := HT1.out.c
  have fT := HT1.out.f
  have lT := HT1.out.lt
  cases t with
  | false =>
    have hh : ¬ hasE E k = true := by rw [← HTT.out]; decide
    have HRL : Hid (readC E k = ⟨O, L⟩ ∧ readF E k = 0 ∧ askX E k = 1) := Lib.hid (by
      obtain ⟨e1, e2, e3⟩ := read_no hh
      exact ⟨by rw [e1, HEO.out.1, HEO.out.2], e2, e3⟩)
    clear hh HSE HOT
    go_wp2_with fail
    have hec := HEC.out.below HB1.out
    rw [HES.out] at hec
    exact bodyPost_ret (v := .tuple #[.agg #[.int .i64 O, .slice p n c], .int .i64 0, .int .i64 1]) (by simp [results, Try.results8, go_sem, *]) rfl (HFIN.out _ _ _ _ _ _ _ _ ((hec.set (HEC.out.off (Nat.le_succ _)) 0 _).set (HEC.out.off (Nat.le_succ _)) 1 _) HOF.out (set2_below HB1.out (by omega) _ _) HRL.out)
  | true =>
    have hh : hasE E k = true := HTT.out.symm
    obtain ⟨kk, rfl, hkn⟩ := has_nat (n := n) hh (by rw [HEO.out.2]; exact HLEN.out)
    have HH := Lib.hid hh
    have hk1 : wrap64 ((kk : Int) + 1) = (kk : Int) + 1 := by unfold wrap64; omega
    have HSE2 := Lib.hid (fun W hW => HSE.out W hW (by simpa using hkn))
    simp only [Int.toNat_natCast] at HSE2
    clear hh HSE cT fT lT
    have HNX : Hid (¬ (O = 0 ∧ (othE E (kk : Int)).length = 0) → ∀ w2, Below w1.heap.size w1 w2 → True) := Lib.hid (fun _ _ _ => trivial)
    clear HNX
    by_cases h0 : O = 0
    · have d0 : (O == 0) = true := by simp [h0]
      have HH0 := Lib.hid h0
      clear h0
      have hot := HOT.out w1 HB1.out
      obtain ⟨m, hm⟩ : ∃ m, m = (othE E (kk : Int)).length := ⟨_, rfl⟩
      rw [← hm] at hot
      have HMM := Lib.hid hm
      clear hm HOT
      go_wp2_with fail
      refine hot.mono ?_
      rintro e w4 ⟨q, d, rfl, -, hb⟩
      have HA4 := Lib.hid (HA1.out.below hb)
      have HT4 := Lib.hid (HT1.out.below hb)
      have HB4 : Hid (Below w.heap.size w w4) := Lib.hid (HB1.out.trans (hb.mono HB1.out.size))
      clear hb hot HA1 HT1 HB1 kA
      have kA := HA4.out.c
      by_cases hm0 : m = 0
      · have d1 : ((m : Int) == 0) = true := by simp [hm0]
        have HRL : Hid (readC E (kk : Int) = ⟨(kk : Int) + 1, List.replicate n false⟩ ∧ readF E (kk : Int) = 0 ∧ askX E (kk : Int) = 0) := Lib.hid (by
          obtain ⟨e1, e2, e3⟩ := read_lone2 HH.out (HEO.out.1.trans HH0.out) (by rw [← HMM.out]; exact hm0)
          exact ⟨by rw [e1, HEO.out.2, HLEN.out], e2, e3⟩)
        clear hm0 HSE2
        obtain ⟨i0, hi, hz0, hz1, hz2⟩ := info_parts info4
        have HI := Lib.hid (And.intro hi (And.intro hz0 (And.intro hz1 hz2)))
        clear hi hz0 hz1 hz2
        go_wp2_with (first | (refine wpList_make_full _ rfl _ _ 22 rfl w4.heap.size 4 i0 (.bool false) 1 Try.underlying22 HI.out.1 HI.out.2.1 HI.out.2.2.1 .i64 .i64 n n n rfl rfl rfl rfl (by rw [HI.out.2.2.2]; omega) (by unfold maxLen; omega) (Nat.le_refl _) ?_))
        intro w5 g1 g2
        have e1 : (madeCells #[Value.bool false] n).toList = List.replicate n (.bool false) := toList_madeCells_one _ _
        have HO : Hid (w5.ownsRow w4.heap.size 4 1 (.slice (some ⟨w4.heap.size, 0, none⟩) n n) n (boC (List.replicate n false))) := Lib.hid (by rw [← boC_rep, ← e1]; exact g1)
        have HB5 : Hid (Below w4.heap.size w4 w5) := Lib.hid ((Below.refl _ _).grown g2 (Nat.le_refl _) (fun k hk => by cases hk))
        have HT5 := Lib.hid (HT4.out.below HB5.out)
        have HBW : Hid (Below w.heap.size w w5) := Lib.hid (HB4.out.trans (HB5.out.mono HB4.out.size))
        obtain ⟨g, hg⟩ : ∃ g, g = w4.heap.size := ⟨_, rfl⟩
        have HG : Hid (w.heap.size + 1 < g) := Lib.hid (by rw [hg]; exact HT4.out.lt)
        rw [← hg] at HO ⊢
        clear g1 g2 e1 hg HB5 HT4 HB4 HA4 kA
        have cT := HT5.out.c
        have fT := HT5.out.f
        have lT := HT5.out.lt
        go_wp2_with fail
        exact bodyPost_ret (v := .tuple #[.agg #[.int .i64 ((kk : Int) + 1), .slice (some ⟨g, 0, none⟩) n n], .int .i64 0, .int .i64 0]) (by simp [results, Try.results8, go_sem, *]) rfl (HFIN.out _ _ _ _ _ _ _ _ (Ec.own (E := ⟨(kk : Int) + 1, List.replicate n false⟩) (own_off (own_off HO.out (fun b e => by injection e with e; have e2 : g = b := e; have := HG.out; omega) _ _) (fun b e => by injection e with e; have e2 : g = b := e; have := HG.out; omega) _ _) (by omega)) (fun R hR _ a e => by
          injection e with e
          subst e
          show g ≠ R
          have := HG.out
          have := HSS.out R hR
          omega) (set2_below HBW.out (by omega) _ _) HRL.out)
      · have d1 : ((m : Int) == 0) = false := by simp [hm0]
        have d2 : (O == ((kk : Int) + 1)) = false := by simp [HH0.out]; omega
        have HRL : Hid (readC E (kk : Int) = ⟨O, L.set kk true⟩ ∧ readF E (kk : Int) = O ∧ askX E (kk : Int) = 0) := Lib.hid (by
          obtain ⟨e1, e2, e3⟩ := read_share HH.out (fun hh => hm0 (by rw [HMM.out]; exact hh.2)) (by rw [HEO.out.1, HH0.out]; omega)
          exact ⟨by rw [e1, HEO.out.1, HEO.out.2]; rfl, by rw [e2, HEO.out.1], e3⟩)
        clear hm0
        go_upto_region 7 with fail
        have HS7 : Hid (∀ W, Below w4.heap.size w4 W → ∀ t, W.cell? ⟨w.heap.size, t, none⟩ = (#[.int .i64 O, .slice p n c] : Array Value)[t]?) := Lib.hid (fun W hW => (HA4.out.below hW).c)
        refine region_plan (fun W : World => ∀ t, W.cell? ⟨w.heap.size, t, none⟩ = (#[.int .i64 O, .slice p n c] : Array Value)[t]?) 10 [(0, true), (1, true), (2, true), (3, true), (4, true), (7, true), (8, true), (5, false), (6, true), (9, false)] (by kernel_rfl) (by kernel_rfl) (HS7.out _ (Below.refl _ _).drew) ?_
        iterate 7
          refine plan_read (v := ?_) rfl (by rfl) ?_ ?_
          rotate_left
          · intro w' hS
            try dsimp only at hS
            go_simp
            try with_reducible rfl
          try simp only [Act.put, List.setIfInBounds_toArray, List.set_cons_zero, List.set_cons_succ, List.getElem_toArray, List.getElem_cons_zero, List.getElem_cons_succ]
        refine plan_call (F := 25) (args := ?_) rfl (by rfl) ?_ ?_
        rotate_left
        · go_simp
          rfl
        refine (HSE2.out w4.drew HB4.out.drew).mono ?_
        rintro e w6 ⟨q2, d2', rfl, hq, hb⟩
        have HB56 : Hid (Below w4.heap.size w4 w6) := Lib.hid ((Below.refl _ _).drew.trans hb)
        have HQ6 : Hid (w6.ownsRow (w.heap.size + 2) 4 1 (.slice q2 n d2') n (boC (L.set kk true))) := Lib.hid (own_base hq (by show w.heap.size + 2 ≤ w4.heap.size; have := HT4.out.lt; omega))
        clear hq hb
        refine ⟨_, rfl, HS7.out _ HB56.out, ?_⟩
        try simp only [Act.put, List.setIfInBounds_toArray, List.set_cons_zero, List.set_cons_succ, List.getElem_toArray, List.getElem_cons_zero, List.getElem_cons_succ]
        iterate 1
          refine plan_read (v := ?_) rfl (by rfl) ?_ ?_
          rotate_left
          · intro w' hS
            try dsimp only at hS
            go_simp
            try with_reducible rfl
          try simp only [Act.put, List.setIfInBounds_toArray, List.set_cons_zero, List.set_cons_succ, List.getElem_toArray, List.getElem_cons_zero, List.getElem_cons_succ]
        have HA6 := Lib.hid (HA4.out.below HB56.out)
        have HT6 := Lib.hid (HT4.out.below HB56.out)
        have HB6 : Hid (Below w.heap.size w w6) := Lib.hid (HB4.out.trans (HB56.out.mono HB4.out.size))
        clear HS7 HA4 HT4 HB4 HB56 HSE2 kA
        obtain ⟨wx, hwx⟩ : ∃ z, z = (w6.setCell ⟨w.heap.size + 1, 0, none⟩ (.int .i64 O)).setCell ⟨w.heap.size + 1, 1, none⟩ (.slice q2 n d2') := ⟨_, rfl⟩
        have HSX : Hid (∀ t, wx.cell? ⟨w.heap.size, t, none⟩ = (#[.int .i64 O, .slice p n c] : Array Value)[t]?) := Lib.hid (by rw [hwx]; exact (set2_other HA6.out (by omega) _ _).c)
        have HTX : Hid (Blk wx (w.heap.size + 1) #[.int .i64 O, .slice q2 n d2']) := Lib.hid (by rw [hwx]; exact set2_same HT6.out _ _)
        have HBX : Hid (Below w.heap.size w wx) := Lib.hid (by rw [hwx]; exact set2_below HB6.out (by omega) _ _)
        have HQX : Hid (wx.ownsRow (w.heap.size + 2) 4 1 (.slice q2 n d2') n (boC (L.set kk true))) := Lib.hid (by rw [hwx]; exact own_off (own_off HQ6.out (fun b e => by have := (HQ6.out.lt b e).1; omega) _ _) (fun b e => by have := (HQ6.out.lt b e).1; omega) _ _)
        have HWX := Lib.hid hwx
        clear hwx HA6 HB6 HQ6
        have cT := HT6.out.c
        have fT := HT6.out.f
        have lT := HT6.out.lt
        refine plan_store (w1 := wx) rfl (by rfl) (by go_simp; rw [HWX.out]) HSX.out ?_
        try simp only [Act.put, List.setIfInBounds_toArray, List.set_cons_zero, List.set_cons_succ, List.getElem_toArray, List.getElem_cons_zero, List.getElem_cons_succ]
        refine plan_nil ?_
        simp only [List.drop_succ_cons, List.drop_zero]
        clear cT fT lT HWX HT6 HSX
        have cT := HTX.out.c
        go_wp2_with fail
        exact bodyPost_ret (v := .tuple #[.agg #[.int .i64 O, .slice q2 n d2'], .int .i64 O, .int .i64 0]) (by simp [results, Try.results8, go_sem, *]) rfl (HFIN.out _ _ _ _ _ _ _ _ (Ec.own (E := ⟨O, L.set kk true⟩) HQX.out (by omega)) (fun R hR => own_offR HQX.out (by have := HSS.out R hR; omega)) HBX.out HRL.out)
    · have d0 : (O == 0) = false := by simp [h0]
      have HH0 := Lib.hid h0
      clear h0 HOT
      by_cases ho : O = (kk : Int) + 1
      · have d2 : (O == ((kk : Int) + 1)) = true := by simp [ho]
        have HRL : Hid (readC E (kk : Int) = ⟨O, L⟩ ∧ readF E (kk : Int) = (kk : Int) + 1 ∧ askX E (kk : Int) = 0) := Lib.hid (by
          obtain ⟨e1, e2, e3⟩ := read_own HH.out (HEO.out.1.trans ho)
          exact ⟨by rw [e1, HEO.out.1, HEO.out.2], by rw [e2, HEO.out.1, ho], e3⟩)
        clear ho HSE2
        have cT := HT1.out.c
        have fT := HT1.out.f
        have lT := HT1.out.lt
        go_wp2_with fail
        have hec := HEC.out.below HB1.out
        rw [HES.out] at hec
        exact bodyPost_ret (v := .tuple #[.agg #[.int .i64 O, .slice p n c], .int .i64 ((kk : Int) + 1), .int .i64 0]) (by simp [results, Try.results8, go_sem, *]) rfl (HFIN.out _ _ _ _ _ _ _ _ ((hec.set (HEC.out.off (Nat.le_succ _)) 0 _).set (HEC.out.off (Nat.le_succ _)) 1 _) HOF.out (set2_below HB1.out (by omega) _ _) HRL.out)
      · have d2 : (O == ((kk : Int) + 1)) = false := by simpa using ho
        have HRL : Hid (readC E (kk : Int) = ⟨O, L.set kk true⟩ ∧ readF E (kk : Int) = O ∧ askX E (kk : Int) = 0) := Lib.hid (by
          obtain ⟨e1, e2, e3⟩ := read_share HH.out (fun hh => HH0.out (HEO.out.1.symm.trans hh.1)) (by rw [HEO.out.1]; exact ho)
          exact ⟨by rw [e1, HEO.out.1, HEO.out.2]; rfl, by rw [e2, HEO.out.1], e3⟩)
        clear ho
        go_upto_region 7 with fail
        have HS7 : Hid (∀ W, Below w1.heap.size w1 W → ∀ t, W.cell? ⟨w.heap.size, t, none⟩ = (#[.int .i64 O, .slice p n c] : Array Value)[t]?) := Lib.hid (fun W hW => (HA1.out.below hW).c)
        refine region_plan (fun W : World => ∀ t, W.cell? ⟨w.heap.size, t, none⟩ = (#[.int .i64 O, .slice p n c] : Array Value)[t]?) 10 [(0, true), (1, true), (2, true), (3, true), (4, true), (7, true), (8, true), (5, false), (6, true), (9, false)] (by kernel_rfl) (by kernel_rfl) (HS7.out _ (Below.refl _ _).drew) ?_
        iterate 7
          refine plan_read (v := ?_) rfl (by rfl) ?_ ?_
          rotate_left
          · intro w' hS
            try dsimp only at hS
            go_simp
            try with_reducible rfl
          try simp only [Act.put, List.setIfInBounds_toArray, List.set_cons_zero, List.set_cons_succ, List.getElem_toArray, List.getElem_cons_zero, List.getElem_cons_succ]
        refine plan_call (F := 25) (args := ?_) rfl (by rfl) ?_ ?_
        rotate_left
        · go_simp
          rfl
        refine (HSE2.out w1.drew HB1.out.drew).mono ?_
        rintro e w6 ⟨q2, d2', rfl, hq, hb⟩
        have HB56 : Hid (Below w1.heap.size w1 w6) := Lib.hid ((Below.refl _ _).drew.trans hb)
        have HQ6 : Hid (w6.ownsRow (w.heap.size + 2) 4 1 (.slice q2 n d2') n (boC (L.set kk true))) := Lib.hid (own_base hq (by show w.heap.size + 2 ≤ w1.heap.size; have := HT1.out.lt; omega))
        clear hq hb
        refine ⟨_, rfl, HS7.out _ HB56.out, ?_⟩
        try simp only [Act.put, List.setIfInBounds_toArray, List.set_cons_zero, List.set_cons_succ, List.getElem_toArray, List.getElem_cons_zero, List.getElem_cons_succ]
        iterate 1
          refine plan_read (v := ?_) rfl (by rfl) ?_ ?_
          rotate_left
          · intro w' hS
            try dsimp only at hS
            go_simp
            try with_reducible rfl
          try simp only [Act.put, List.setIfInBounds_toArray, List.set_cons_zero, List.set_cons_succ, List.getElem_toArray, List.getElem_cons_zero, List.getElem_cons_succ]
        have HA6 := Lib.hid (HA1.out.below HB56.out)
        have HT6 := Lib.hid (HT1.out.below HB56.out)
        have HB6 : Hid (Below w.heap.size w w6) := Lib.hid (HB1.out.trans (HB56.out.mono HB1.out.size))
        clear HS7 HA1 HT1 HB1 HB56 HSE2 kA
        obtain ⟨wx, hwx⟩ : ∃ z, z = (w6.setCell ⟨w.heap.size + 1, 0, none⟩ (.int .i64 O)).setCell ⟨w.heap.size + 1, 1, none⟩ (.slice q2 n d2') := ⟨_, rfl⟩
        have HSX : Hid (∀ t, wx.cell? ⟨w.heap.size, t, none⟩ = (#[.int .i64 O, .slice p n c] : Array Value)[t]?) := Lib.hid (by rw [hwx]; exact (set2_other HA6.out (by omega) _ _).c)
        have HTX : Hid (Blk wx (w.heap.size + 1) #[.int .i64 O, .slice q2 n d2']) := Lib.hid (by rw [hwx]; exact set2_same HT6.out _ _)
        have HBX : Hid (Below w.heap.size w wx) := Lib.hid (by rw [hwx]; exact set2_below HB6.out (by omega) _ _)
        have HQX : Hid (wx.ownsRow (w.heap.size + 2) 4 1 (.slice q2 n d2') n (boC (L.set kk true))) := Lib.hid (by rw [hwx]; exact own_off (own_off HQ6.out (fun b e => by have := (HQ6.out.lt b e).1; omega) _ _) (fun b e => by have := (HQ6.out.lt b e).1; omega) _ _)
        have HWX := Lib.hid hwx
        clear hwx HA6 HB6 HQ6
        have cT := HT6.out.c
        have fT := HT6.out.f
        have lT := HT6.out.lt
        refine plan_store (w1 := wx) rfl (by rfl) (by go_simp; rw [HWX.out]) HSX.out ?_
        try simp only [Act.put, List.setIfInBounds_toArray, List.set_cons_zero, List.set_cons_succ, List.getElem_toArray, List.getElem_cons_zero, List.getElem_cons_succ]
        refine plan_nil ?_
        simp only [List.drop_succ_cons, List.drop_zero]
        clear cT fT lT HWX HT6 HSX
        have cT := HTX.out.c
        go_wp2_with fail
        exact bodyPost_ret (v := .tuple #[.agg #[.int .i64 O, .slice q2 n d2'], .int .i64 O, .int .i64 0]) (by simp [results, Try.results8, go_sem, *]) rfl (HFIN.out _ _ _ _ _ _ _ _ (Ec.own (E := ⟨O, L.set kk true⟩) HQX.out (by omega)) (fun R hR => own_offR HQX.out (by have := HSS.out R hR; omega)) HBX.out HRL.out)

set_option maxHeartbeats 2000000 in
set_option maxRecDepth 100000 in
theorem rback_any (S : Nat → Prop) (v : Value) (E : En) (k : Int) (w : World) (h : Eo S w v E) : Calls Try.prog 14 #[v, .int .i64 k] w fun e w' => Out2 S w w' e (backC E k) (backX E k) := by
  have HHS := Lib.hid (fun W hW => has_any S v E k W (h.below (w := w) (w' := W) hW))
  obtain ⟨p, n, c, rfl, hc, hoff⟩ := h
  have hn := hc.n100
  have HLEN := Lib.hid hc.len
  have HEC := Lib.hid hc
  have HOF := Lib.hid hoff
  have HOT := Lib.hid (fun W hW => rothers_any p n c E k W (hc.below (w := w) (w' := W) hW))
  clear HOT
  have HFIN : Hid (∀ w' p' n' c' O' L' X, Ec w' p' n' c' ⟨O', L'⟩ → (∀ R, S R → Off R p' n') → Below w.heap.size w w' → backC E k = ⟨O', L'⟩ ∧ backX E k = X →
      Out2 S w w' (.returned (.tuple #[.agg #[.int .i64 O', .slice p' n' c'], .int .i64 X])) (backC E k) (backX E k)) := Lib.hid (fun w' p' n' c' O' L' X ho hf hb e => by
    rw [e.1, e.2]
    exact ⟨_, rfl, ⟨_, _, _, rfl, ho, hf⟩, hb⟩)
  obtain ⟨O, hO⟩ : ∃ O, O = E.owner := ⟨_, rfl⟩
  obtain ⟨L, hL⟩ : ∃ L, L = E.share := ⟨_, rfl⟩
  have HEO : Hid (E.owner = O ∧ E.share = L) := Lib.hid ⟨hO.symm, hL.symm⟩
  rw [← hO] at HHS ⊢
  rw [← hL] at HLEN
  have HES : Hid (E = ⟨O, L⟩) := Lib.hid (by rw [hO, hL])
  clear hO hL hc hoff
  obtain ⟨w0, hw0⟩ : ∃ w0, w0 = (w.alloc (.cells #[.int .i64 O, .slice p n c] 24)).alloc (.cells #[.int .i64 0, .slice none 0 0] 24) := ⟨_, rfl⟩
  have HB0 : Hid (Below w.heap.size w w0) := Lib.hid (by rw [hw0]; exact ((Below.refl _ _).alloc (Nat.le_refl _) _).alloc (by simp) _)
  have HA0 : Hid (Blk w0 w.heap.size #[.int .i64 O, .slice p n c]) := Lib.hid (by rw [hw0]; exact (Blk.new _ _ _).alloc _)
  have HT0 : Hid (Blk w0 (w.heap.size + 1) #[.int .i64 0, .slice none 0 0]) := Lib.hid (by
    have := Blk.new (w.alloc (.cells #[.int .i64 O, .slice p n c] 24)) #[.int .i64 0, .slice none 0 0] 24
    rw [World.size_alloc] at this
    rw [hw0]; exact this)
  have HW0 := Lib.hid hw0
  have HQ := Lib.hid (HHS.out w0 HB0.out)
  clear hw0 HHS
  go_enter Try.func14, Try.ntmps14
  have kA := HA0.out.c
  go_upto_region 1 with fail
  rw [← HW0.out]
  clear HW0
  obtain ⟨t, ht⟩ : ∃ t, t = hasE E k := ⟨_, rfl⟩
  rw [← ht] at HQ
  have HTT := Lib.hid ht
  clear ht
  go_wp2_with fail
  refine HQ.out.mono ?_
  rintro e w1 ⟨rfl, hb1⟩
  have HA1 := Lib.hid (HA0.out.below hb1)
  have HT1 := Lib.hid (HT0.out.below hb1)
  have HB1 : Hid (Below w.heap.size w w1) := Lib.hid (HB0.out.trans (hb1.mono HB0.out.size))
  clear hb1 HA0 HB0 HQ HT0 kA
  have kA := HA1.out.c
  have cT := HT1.out.c
  have fT := HT1.out.f
  have lT := HT1.out.lt
  have HECS : Hid (∀ O' w', Below w.heap.size w w' → ∀ u0 u1, Ec ((w'.setCell ⟨w.heap.size + 1, 0, none⟩ u0).setCell ⟨w.heap.size + 1, 1, none⟩ u1) p n c ⟨O', L⟩) := Lib.hid (fun O' w' hb u0 u1 => by
    have hec := HEC.out.below hb
    have h2 := (hec.set (HEC.out.off (Nat.le_succ _)) 0 u0).set (HEC.out.off (Nat.le_succ _)) 1 u1
    exact ⟨HLEN.out, by have := h2.sl; rw [HEO.out.2] at this; exact this, h2.cn, h2.n100⟩)
  cases t with
  | false =>
    have hh : ¬ hasE E k = true := by rw [← HTT.out]; decide
    have HRL : Hid (backC E k = ⟨O, L⟩ ∧ backX E k = 1) := Lib.hid (by
      obtain ⟨e1, e2, _⟩ := back_no hh
      exact ⟨by rw [e1, HEO.out.1, HEO.out.2], e2⟩)
    clear hh
    go_wp2_with fail
    exact bodyPost_ret (v := .tuple #[.agg #[.int .i64 O, .slice p n c], .int .i64 1]) (by simp [results, Try.results14, go_sem, *]) rfl (HFIN.out _ _ _ _ _ _ _ (HECS.out O _ HB1.out _ _) HOF.out (set2_below HB1.out (by omega) _ _) HRL.out)
  | true =>
    have hh : hasE E k = true := HTT.out.symm
    obtain ⟨kk, rfl, hkn⟩ := has_nat (n := n) hh (by rw [HEO.out.2]; exact HLEN.out)
    have hk1 : wrap64 ((kk : Int) + 1) = (kk : Int) + 1 := by unfold wrap64; omega
    by_cases ho : O = (kk : Int) + 1
    · have d2 : (O != ((kk : Int) + 1)) = false := by simp [ho]
      have HRL : Hid (backC E (kk : Int) = ⟨0, L⟩ ∧ backX E (kk : Int) = 0) := Lib.hid (by
        obtain ⟨e1, e2, _⟩ := back_yes hh (HEO.out.1.trans ho)
        exact ⟨by rw [e1, HEO.out.2], e2⟩)
      clear hh ho
      go_wp2_with fail
      exact bodyPost_ret (v := .tuple #[.agg #[.int .i64 0, .slice p n c], .int .i64 0]) (by simp [results, Try.results14, go_sem, *]) rfl (HFIN.out _ _ _ _ _ _ _ (HECS.out 0 _ HB1.out _ _) HOF.out (set2_below HB1.out (by omega) _ _) HRL.out)
    · have d2 : (O != ((kk : Int) + 1)) = true := by simpa using ho
      have HRL : Hid (backC E (kk : Int) = ⟨O, L⟩ ∧ backX E (kk : Int) = 7) := Lib.hid (by
        obtain ⟨e1, e2, _⟩ := back_not hh (by rw [HEO.out.1]; exact ho)
        exact ⟨by rw [e1, HEO.out.1, HEO.out.2], e2⟩)
      clear hh ho
      go_wp2_with fail
      exact bodyPost_ret (v := .tuple #[.agg #[.int .i64 O, .slice p n c], .int .i64 7]) (by simp [results, Try.results14, go_sem, *]) rfl (HFIN.out _ _ _ _ _ _ _ (HECS.out O _ HB1.out _ _) HOF.out (set2_below HB1.out (by omega) _ _) HRL.out)
end Go.Proofs.Ythkpoiaakggimaa
