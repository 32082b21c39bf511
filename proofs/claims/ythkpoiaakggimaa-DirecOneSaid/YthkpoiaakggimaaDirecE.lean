/- The program's New, Read, Write, Back, Alone; no condition but that what is known reads. -/
import Derived.Test.YthkpoiaakggimaaDirecD
namespace Go.Proofs.Ythkpoiaakggimaa
set_option linter.unusedVariables false
open Go.ChangeShapes Go.WideShapes Go.ChangeAt Go.RowKit

theorem read_lone {E : En} {k : Int} (h : hasE E k = true) (h0 : E.owner = 0) (hm : (othE E k).length = 0) : readC E k = ⟨k + 1, E.share.set k.toNat false⟩ ∧ readF E k = 0 ∧ askX E k = 0 := by
  have hl : loneE E k = true := loneE_iff.2 ⟨h0, hm⟩
  obtain ⟨_, hk0, hkl⟩ := hasE_iff.1 h
  have e : E.share.set k.toNat false = List.replicate E.share.length false := lone_set (k := k.toNat) (by omega) (by unfold othE at hm; rw [show ((k.toNat : Nat) : Int) = k by omega]; exact hm)
  rw [e]
  unfold readC readF askX
  rw [if_pos h, if_pos h, if_pos h, if_pos hl]
  exact ⟨rfl, h0, rfl⟩
theorem read_share {E : En} {k : Int} (h : hasE E k = true) (hl : ¬ (E.owner = 0 ∧ (othE E k).length = 0)) (hne : E.owner ≠ k + 1) : readC E k = ⟨E.owner, E.share.set k.toNat true⟩ ∧ readF E k = E.owner ∧ askX E k = 0 := by
  have hl : ¬ loneE E k = true := fun e => hl (loneE_iff.1 e)
  unfold readC readF askX
  rw [if_pos h, if_pos h, if_pos h, if_neg hl, if_neg hne]
  exact ⟨rfl, rfl, rfl⟩
theorem read_own {E : En} {k : Int} (h : hasE E k = true) (he : E.owner = k + 1) : readC E k = ⟨E.owner, E.share⟩ ∧ readF E k = E.owner ∧ askX E k = 0 := by
  have hl : ¬ loneE E k = true := fun e => by have := (loneE_iff.1 e).1; have := (hasE_iff.1 h).2.1; omega
  unfold readC readF askX
  rw [if_pos h, if_pos h, if_pos h, if_neg hl, if_pos he]
  exact ⟨rfl, rfl, rfl⟩
theorem read_no {E : En} {k : Int} (h : ¬ hasE E k = true) : readC E k = ⟨E.owner, E.share⟩ ∧ readF E k = 0 ∧ askX E k = 1 := by
  obtain ⟨h1, h2, h3, _⟩ := has_no h
  exact ⟨h1, h2, h3⟩
theorem write_yes {E : En} {k : Int} (h : hasE E k = true) : writeC E k = ⟨k + 1, List.replicate E.share.length false⟩ ∧ readF E k = E.owner ∧ askX E k = 0 ∧ writeT E k = othE E k := by
  obtain ⟨h1, h2, h3, h4⟩ := has_yes h
  exact ⟨h3, h1, h2, h4⟩
theorem write_no {E : En} {k : Int} (h : ¬ hasE E k = true) : writeC E k = ⟨E.owner, E.share⟩ ∧ readF E k = 0 ∧ askX E k = 1 ∧ writeT E k = [] := by
  obtain ⟨_, h2, h3, h4, h5, _⟩ := has_no h
  exact ⟨h4, h2, h3, h5⟩
theorem back_no {E : En} {k : Int} (h : ¬ hasE E k = true) : backC E k = ⟨E.owner, E.share⟩ ∧ backX E k = 1 ∧ askX E k = 1 := by
  obtain ⟨_, _, h3, _, _, h6, h7⟩ := has_no h
  exact ⟨h6, h7, h3⟩
theorem back_not {E : En} {k : Int} (h : hasE E k = true) (hne : E.owner ≠ k + 1) : backC E k = ⟨E.owner, E.share⟩ ∧ backX E k = 7 ∧ askX E k = 0 := by
  unfold backC backX askX
  rw [if_pos h, if_pos h, if_pos h, if_neg hne, if_neg hne]
  exact ⟨rfl, rfl, rfl⟩
theorem back_yes {E : En} {k : Int} (h : hasE E k = true) (he : E.owner = k + 1) : backC E k = ⟨0, E.share⟩ ∧ backX E k = 0 ∧ askX E k = 0 := by
  unfold backC backX askX
  rw [if_pos h, if_pos h, if_pos h, if_pos he, if_pos he]
  exact ⟨rfl, rfl, rfl⟩
theorem has_nat {E : En} {k : Int} {n : Nat} (h : hasE E k = true) (hn : E.share.length = n) : ∃ kk : Nat, k = (kk : Int) ∧ kk < n := by
  obtain ⟨_, h0, h1⟩ := hasE_iff.1 h
  exact ⟨k.toNat, by omega, by omega⟩

set_option maxHeartbeats 2000000 in
set_option maxRecDepth 100000 in
theorem read_any (S : Nat → Prop) (v : Value) (E : En) (k : Int) (w : World) (h : Eo S w v E) (hS : ∀ R, S R → R < w.heap.size) : Calls Try.prog 7 #[v, .int .i64 k] w fun e w' => Out3 S w w' e (readC E k) (readF E k) (askX E k) := by
  have HASK := Lib.hid (fun W hW => asks_any S v E k W (h.below (w := w) (w' := W) hW))
  obtain ⟨p, n, c, rfl, hc, -⟩ := h
  have hn := hc.n100
  have HLEN := Lib.hid hc.len
  have HSS := Lib.hid hS
  have HCP := Lib.hid (fun W hW => copied_any p n c E W (hc.below (w := w) (w' := W) hW))
  have HOT := Lib.hid (fun W hW => others_any p n c E k W (hc.below (w := w) (w' := W) hW))
  have HFIN : Hid (∀ w' p' c' O' L' F X, w'.ownsRow (w.heap.size + 2) 4 1 (.slice p' n c') n (boC L') → Below w.heap.size w w' → readC E k = ⟨O', L'⟩ ∧ readF E k = F ∧ askX E k = X →
      Out3 S w w' (.returned (.tuple #[.agg #[.int .i64 O', .slice p' n c'], .int .i64 F, .int .i64 X])) (readC E k) (readF E k) (askX E k)) := Lib.hid (fun w' p' c' O' L' F X ho hb e => by
    rw [e.1, e.2.1, e.2.2]
    exact ⟨_, rfl, ⟨_, _, _, rfl, Ec.own (E := ⟨O', L'⟩) ho hn, fun R hR => own_offR ho (by have := hS R hR; omega)⟩, hb⟩)
  obtain ⟨O, hO⟩ : ∃ O, O = E.owner := ⟨_, rfl⟩
  obtain ⟨L, hL⟩ : ∃ L, L = E.share := ⟨_, rfl⟩
  have HEO : Hid (E.owner = O ∧ E.share = L) := Lib.hid ⟨hO.symm, hL.symm⟩
  rw [← hO] at HCP HOT HASK ⊢
  rw [← hL] at HCP HLEN
  clear hO hL hc hS
  obtain ⟨w0, hw0⟩ : ∃ w0, w0 = (w.alloc (.cells #[.int .i64 O, .slice p n c] 24)).alloc (.cells #[.int .i64 0, .slice none 0 0] 24) := ⟨_, rfl⟩
  have HB0 : Hid (Below w.heap.size w w0) := Lib.hid (by rw [hw0]; exact ((Below.refl _ _).alloc (Nat.le_refl _) _).alloc (by simp) _)
  have HA0 : Hid (Blk w0 w.heap.size #[.int .i64 O, .slice p n c]) := Lib.hid (by rw [hw0]; exact (Blk.new _ _ _).alloc _)
  have HT0 : Hid (Blk w0 (w.heap.size + 1) #[.int .i64 0, .slice none 0 0]) := Lib.hid (by
    have := Blk.new (w.alloc (.cells #[.int .i64 O, .slice p n c] 24)) #[.int .i64 0, .slice none 0 0] 24
    rw [World.size_alloc] at this
    rw [hw0]; exact this)
  have HSZ : Hid (w0.heap.size = w.heap.size + 2) := Lib.hid (by rw [hw0, World.size_alloc, World.size_alloc])
  have HW0 := Lib.hid hw0
  clear hw0
  go_enter Try.func7, Try.ntmps7
  have kA := HA0.out.c
  go_upto_region 1 with fail
  rw [← HW0.out]
  clear HW0
  go_wp2_with fail
  refine (HCP.out w0 HB0.out).mono ?_
  rintro e w1 ⟨p1, c1, rfl, ho, hb⟩
  have HO1 : Hid (w1.ownsRow (w.heap.size + 2) 4 1 (.slice p1 n c1) n (boC L)) := Lib.hid (own_base ho (by rw [HSZ.out]; omega))
  have HA1 := Lib.hid (HA0.out.below hb)
  have HT1 := Lib.hid (HT0.out.below hb)
  have HB1 : Hid (Below w.heap.size w w1) := Lib.hid (HB0.out.trans (hb.mono HB0.out.size))
  have HGE : Hid (w.heap.size + 2 ≤ w1.heap.size) := Lib.hid (by rw [← HSZ.out]; exact hb.size)
  clear ho hb kA HA0 HT0 HB0 HSZ HCP
  go_upto_region 2 with fail
  obtain ⟨bo, hbo⟩ : ∃ b, b = w1.heap.size := ⟨_, rfl⟩
  obtain ⟨w2, hw2⟩ : ∃ z, z = w1.alloc (.cells #[.int .i64 O, .slice p1 n c1] 24) := ⟨_, rfl⟩
  have HBA : Hid (Below w1.heap.size w1 w2) := Lib.hid (by rw [hw2]; exact (Below.refl _ _).alloc (Nat.le_refl _) _)
  have HK2 : Hid (Blk w2 bo #[.int .i64 O, .slice p1 n c1]) := Lib.hid (by rw [hw2, hbo]; exact Blk.new _ _ _)
  have HA2 := Lib.hid (HA1.out.below HBA.out)
  have HT2 := Lib.hid (HT1.out.below HBA.out)
  have HO2 := Lib.hid (own_below HO1.out HBA.out)
  have HB2 : Hid (Below w.heap.size w w2) := Lib.hid (HB1.out.trans (HBA.out.mono HB1.out.size))
  have HNE : Hid (∀ g, (Value.slice p1 n c1).ownBlock = some g → g ≠ bo) := Lib.hid (fun g e => by have := (HO1.out.lt g e).2; omega)
  rw [← hbo] at HGE
  rw [← hw2, ← hbo]
  clear hw2 hbo HA1 HT1 HO1 HB1 HBA
  by_cases hh : hasE E k = true
  · obtain ⟨kk, rfl, hkn⟩ := has_nat (n := n) hh (by rw [HEO.out.2]; exact HLEN.out)
    have HH := Lib.hid hh
    have hx : askX E (kk : Int) = 0 := (has_yes hh).2.1
    obtain ⟨g, hg, -, -, hg2, -⟩ := own_go HO2.out (by omega)
    subst hg
    have HGG : Hid (w.heap.size + 2 ≤ g) := Lib.hid hg2
    clear hh hg2
    have hq := HASK.out w2 HB2.out
    rw [hx] at hq
    have kA := HA2.out.c
    go_wp2_with fail
    refine hq.mono ?_
    rintro e w3 ⟨rfl, hb⟩
    have HK3 := Lib.hid (HK2.out.below hb)
    have HA3 := Lib.hid (HA2.out.below hb)
    have HT3 := Lib.hid (HT2.out.below hb)
    have HO3 := Lib.hid (own_below HO2.out hb)
    have HB3 : Hid (Below w.heap.size w w3) := Lib.hid (HB2.out.trans (hb.mono HB2.out.size))
    clear hb hq kA HK2 HA2 HT2 HO2 HB2 HASK
    clear hx
    have HGB : Hid (g ≠ bo) := Lib.hid (HNE.out g rfl)
    have hkI : (kk : Int) < (n : Int) := by omega
    have hk1 : wrap64 ((kk : Int) + 1) = (kk : Int) + 1 := by unfold wrap64; omega
    have HST : Hid (∀ V O' b, Blk V bo #[.int .i64 O', .slice (some ⟨g, 0, none⟩) n c1] → V.ownsRow (w.heap.size + 2) 4 1 (.slice (some ⟨g, 0, none⟩) n c1) n (boC L) → Blk (V.setCell ⟨g, kk, none⟩ (.bool b)) bo #[.int .i64 O', .slice (some ⟨g, 0, none⟩) n c1] ∧ (V.setCell ⟨g, kk, none⟩ (.bool b)).ownsRow (w.heap.size + 2) 4 1 (.slice (some ⟨g, 0, none⟩) n c1) n (boC (L.set kk b)) ∧ ∃ u, V.cell? ⟨g, kk, none⟩ = some u) := Lib.hid (fun V O' b hk ho => by
      refine ⟨hk.other _ HGB.out, ?_, ⟨_, (ho.cellAt kk (by omega)).trans (List.getElem?_eq_getElem (by rw [boC_len, HLEN.out]; exact hkn))⟩⟩
      rw [← boC_set]
      exact (ho.stored kk (.bool b)).1)
    have kA := HA3.out.c
    by_cases h0 : O = 0
    · have d0 : (O == 0) = true := by simp [h0]
      have HH0 := Lib.hid h0
      clear h0
      have hot := HOT.out w3 HB3.out
      obtain ⟨m, hm⟩ : ∃ m, m = (othE E (kk : Int)).length := ⟨_, rfl⟩
      rw [← hm] at hot
      go_wp2_with fail
      refine hot.mono ?_
      rintro e w4 ⟨q, d, rfl, -, hb⟩
      have HK4 := Lib.hid (HK3.out.below hb)
      have HA4 := Lib.hid (HA3.out.below hb)
      have HT4 := Lib.hid (HT3.out.below hb)
      have HO4 := Lib.hid (own_below HO3.out hb)
      have HB4 : Hid (Below w.heap.size w w4) := Lib.hid (HB3.out.trans (hb.mono HB3.out.size))
      clear hb hot HK3 HA3 HT3 HO3 HB3 HOT kA
      have kA := HA4.out.c
      by_cases hm0 : m = 0
      · have d1 : ((m : Int) == 0) = true := by simp [hm0]
        have HM0 := Lib.hid hm0
        have HRL : Hid (readC E (kk : Int) = ⟨(kk : Int) + 1, L.set kk false⟩ ∧ readF E (kk : Int) = O ∧ askX E (kk : Int) = 0) := Lib.hid (by
          obtain ⟨e1, e2, e3⟩ := read_lone HH.out (HEO.out.1.trans HH0.out) (by rw [← hm]; exact hm0)
          exact ⟨by rw [e1, HEO.out.2]; rfl, by rw [e2, HH0.out], e3⟩)
        clear hm0
        have kK := HK4.out.c
        have fK := HK4.out.f
        have lK := HK4.out.lt
        obtain ⟨wp, hwp⟩ : ∃ z, z = w4.setCell ⟨bo, 0, none⟩ (.int .i64 ((kk : Int) + 1)) := ⟨_, rfl⟩
        have HK6 : Hid (Blk wp bo #[.int .i64 ((kk : Int) + 1), .slice (some ⟨g, 0, none⟩) n c1]) := Lib.hid (by rw [hwp]; exact HK4.out.set (n := 0) _ (by simp))
        have HA6 : Hid (Blk wp w.heap.size #[.int .i64 O, .slice p n c]) := Lib.hid (by rw [hwp]; exact HA4.out.other _ (by have := HGE.out; omega))
        have HT6 : Hid (Blk wp (w.heap.size + 1) #[.int .i64 0, .slice none 0 0]) := Lib.hid (by rw [hwp]; exact HT4.out.other _ (by have := HGE.out; omega))
        have HO6 : Hid (wp.ownsRow (w.heap.size + 2) 4 1 (.slice (some ⟨g, 0, none⟩) n c1) n (boC L)) := Lib.hid (by rw [hwp]; exact own_off HO4.out (fun b e => by injection e with e; have e2 : g = b := e; have := HGB.out; omega) _ _)
        have HB6 : Hid (Below w.heap.size w wp) := Lib.hid (by rw [hwp]; exact HB4.out.setCell (p := ⟨bo, 0, none⟩) (by show w.heap.size ≤ bo; have := HGE.out; omega) _)
        obtain ⟨h4, h5, u, hu⟩ := HST.out wp _ false HK6.out HO6.out
        have hfz := HO6.out.frozenAt kk
        obtain ⟨w5, hw5⟩ : ∃ z, z = wp.setCell ⟨g, kk, none⟩ (.bool false) := ⟨_, rfl⟩
        rw [← hw5] at h4 h5
        have HK5 := Lib.hid h4
        have HO5 := Lib.hid h5
        have HA5 : Hid (Blk w5 w.heap.size #[.int .i64 O, .slice p n c]) := Lib.hid (by rw [hw5]; exact HA6.out.other _ (by have := HGG.out; omega))
        have HT5 : Hid (Blk w5 (w.heap.size + 1) #[.int .i64 0, .slice none 0 0]) := Lib.hid (by rw [hw5]; exact HT6.out.other _ (by have := HGG.out; omega))
        have HB5 : Hid (Below w.heap.size w w5) := Lib.hid (by rw [hw5]; exact HB6.out.setCell (p := ⟨g, kk, none⟩) (by show w.heap.size ≤ g; have := HGG.out; omega) _)
        have HW5 := Lib.hid hw5
        have HWP := Lib.hid hwp
        rw [hwp] at hu hfz
        clear h4 h5 HST hw5 hwp HK6 HA6 HT6 HO6 HB6 HA4 HT4 HB4 HO4
        go_upto_region 9 with fail
        rw [← HWP.out, ← HW5.out]
        clear HW5 HWP hu hfz kK fK lK HK4 kA
        have HS9 : Hid (∀ W, Below w5.heap.size w5 W → (∀ t, W.cell? ⟨bo, t, none⟩ = (#[.int .i64 ((kk : Int) + 1), .slice (some ⟨g, 0, none⟩) n c1] : Array Value)[t]?) ∧ ∀ t, W.cell? ⟨w.heap.size, t, none⟩ = (#[.int .i64 O, .slice p n c] : Array Value)[t]?) := Lib.hid (fun W hW => ⟨(HK5.out.below hW).c, (HA5.out.below hW).c⟩)
        go_upto_region 9 with fail
        refine region_plan (fun W : World => (∀ t, W.cell? ⟨bo, t, none⟩ = (#[.int .i64 ((kk : Int) + 1), .slice (some ⟨g, 0, none⟩) n c1] : Array Value)[t]?) ∧ ∀ t, W.cell? ⟨w.heap.size, t, none⟩ = (#[.int .i64 O, .slice p n c] : Array Value)[t]?) 4 [(0, true), (1, true), (2, true), (3, false)] (by kernel_rfl) (by kernel_rfl) (HS9.out _ (Below.refl _ _).drew) ?_
        iterate 3
          refine plan_read (v := ?_) rfl (by rfl) ?_ ?_
          rotate_left
          · intro w' hS
            try dsimp only at hS
            obtain ⟨hS1, hS2⟩ := hS
            go_simp
            try with_reducible rfl
          try simp only [Act.put, List.setIfInBounds_toArray, List.set_cons_zero, List.set_cons_succ, List.getElem_toArray, List.getElem_cons_zero, List.getElem_cons_succ]
        have HT9 := Lib.hid (HT5.out.below (Below.refl w5.heap.size w5).drew)
        have HB9 : Hid (Below w.heap.size w w5.drew) := Lib.hid HB5.out.drew
        have HO9 := Lib.hid (own_below HO5.out (Below.refl w5.heap.size w5).drew)
        have HK9 := Lib.hid (HK5.out.below (Below.refl w5.heap.size w5).drew)
        have HA9 := Lib.hid (HA5.out.below (Below.refl w5.heap.size w5).drew)
        obtain ⟨w9, hw9⟩ : ∃ z, z = w5.drew := ⟨_, rfl⟩
        rw [← hw9] at HT9 HB9 HO9 HK9 HA9 ⊢
        clear hw9 HS9 HK5 HA5 HT5 HB5 HO5
        obtain ⟨wx, hwx⟩ : ∃ z, z = (w9.setCell ⟨w.heap.size + 1, 0, none⟩ (.int .i64 ((kk : Int) + 1))).setCell ⟨w.heap.size + 1, 1, none⟩ (.slice (some ⟨g, 0, none⟩) n c1) := ⟨_, rfl⟩
        have HSX : Hid ((∀ t, wx.cell? ⟨bo, t, none⟩ = (#[.int .i64 ((kk : Int) + 1), .slice (some ⟨g, 0, none⟩) n c1] : Array Value)[t]?) ∧ ∀ t, wx.cell? ⟨w.heap.size, t, none⟩ = (#[.int .i64 O, .slice p n c] : Array Value)[t]?) := Lib.hid (by rw [hwx]; exact ⟨(set2_other HK9.out (by have := HGE.out; omega) _ _).c, (set2_other HA9.out (by omega) _ _).c⟩)
        have HTX : Hid (Blk wx (w.heap.size + 1) #[.int .i64 ((kk : Int) + 1), .slice (some ⟨g, 0, none⟩) n c1]) := Lib.hid (by rw [hwx]; exact set2_same HT9.out _ _)
        have HBX : Hid (Below w.heap.size w wx) := Lib.hid (by rw [hwx]; exact set2_below HB9.out (by omega) _ _)
        have HOX : Hid (wx.ownsRow (w.heap.size + 2) 4 1 (.slice (some ⟨g, 0, none⟩) n c1) n (boC (L.set kk false))) := Lib.hid (by rw [hwx]; exact own_off (own_off HO9.out (fun b e => by injection e with e; have e2 : g = b := e; have := HGG.out; omega) _ _) (fun b e => by injection e with e; have e2 : g = b := e; have := HGG.out; omega) _ _)
        have HWX := Lib.hid hwx
        clear hwx HK9 HA9 HO9 HB9
        have cT := HT9.out.c
        have fT := HT9.out.f
        have lT := HT9.out.lt
        refine plan_store (w1 := wx) rfl (by rfl) (by go_simp; rw [HWX.out]) HSX.out ?_
        try simp only [Act.put, List.setIfInBounds_toArray, List.set_cons_zero, List.set_cons_succ, List.getElem_toArray, List.getElem_cons_zero, List.getElem_cons_succ]
        refine plan_nil ?_
        simp only [List.drop_succ_cons, List.drop_zero]
        clear cT fT lT HWX HT9 HSX
        have cT := HTX.out.c
        go_wp2_with fail
        exact bodyPost_ret (v := .tuple #[.agg #[.int .i64 ((kk : Int) + 1), .slice (some ⟨g, 0, none⟩) n c1], .int .i64 O, .int .i64 0]) (by simp [results, Try.results7, go_sem, *]) rfl (HFIN.out _ _ _ _ _ _ _ HOX.out HBX.out (HRL.out))
      · have d1 : ((m : Int) == 0) = false := by simp [hm0]
        have d2 : (O != ((kk : Int) + 1)) = true := by simp [HH0.out]; omega
        have HRL : Hid (readC E (kk : Int) = ⟨O, L.set kk true⟩ ∧ readF E (kk : Int) = O ∧ askX E (kk : Int) = 0) := Lib.hid (by
          obtain ⟨e1, e2, e3⟩ := read_share HH.out (fun hh => hm0 (by rw [hm]; exact hh.2)) (by rw [HEO.out.1, HH0.out]; omega)
          exact ⟨by rw [e1, HEO.out.1, HEO.out.2]; rfl, by rw [e2, HEO.out.1], e3⟩)
        clear hm0 hm
        obtain ⟨h4, h5, u, hu⟩ := HST.out w4 (O) true HK4.out HO4.out
        have hfz := HO4.out.frozenAt kk
        have kK := HK4.out.c
        obtain ⟨w5, hw5⟩ : ∃ z, z = w4.setCell ⟨g, kk, none⟩ (.bool true) := ⟨_, rfl⟩
        rw [← hw5] at h4 h5
        have HK5 := Lib.hid h4
        have HO5 := Lib.hid h5
        have HA5 : Hid (Blk w5 w.heap.size #[.int .i64 O, .slice p n c]) := Lib.hid (by rw [hw5]; exact HA4.out.other _ (by have := HGG.out; omega))
        have HT5 : Hid (Blk w5 (w.heap.size + 1) #[.int .i64 0, .slice none 0 0]) := Lib.hid (by rw [hw5]; exact HT4.out.other _ (by have := HGG.out; omega))
        have HB5 : Hid (Below w.heap.size w w5) := Lib.hid (by rw [hw5]; exact HB4.out.setCell (p := ⟨g, kk, none⟩) (by show w.heap.size ≤ g; have := HGG.out; omega) _)
        clear h4 h5 HA4 HT4 HB4 HO4 HST
        go_upto_region 9 with fail
        rw [← hw5]
        clear hw5 hu hfz kK HK4
        have HS9 : Hid (∀ W, Below w5.heap.size w5 W → (∀ t, W.cell? ⟨bo, t, none⟩ = (#[.int .i64 O, .slice (some ⟨g, 0, none⟩) n c1] : Array Value)[t]?) ∧ ∀ t, W.cell? ⟨w.heap.size, t, none⟩ = (#[.int .i64 O, .slice p n c] : Array Value)[t]?) := Lib.hid (fun W hW => ⟨(HK5.out.below hW).c, (HA5.out.below hW).c⟩)
        go_upto_region 9 with fail
        refine region_plan (fun W : World => (∀ t, W.cell? ⟨bo, t, none⟩ = (#[.int .i64 O, .slice (some ⟨g, 0, none⟩) n c1] : Array Value)[t]?) ∧ ∀ t, W.cell? ⟨w.heap.size, t, none⟩ = (#[.int .i64 O, .slice p n c] : Array Value)[t]?) 4 [(0, true), (1, true), (2, true), (3, false)] (by kernel_rfl) (by kernel_rfl) (HS9.out _ (Below.refl _ _).drew) ?_
        iterate 3
          refine plan_read (v := ?_) rfl (by rfl) ?_ ?_
          rotate_left
          · intro w' hS
            try dsimp only at hS
            obtain ⟨hS1, hS2⟩ := hS
            go_simp
            try with_reducible rfl
          try simp only [Act.put, List.setIfInBounds_toArray, List.set_cons_zero, List.set_cons_succ, List.getElem_toArray, List.getElem_cons_zero, List.getElem_cons_succ]
        have HT9 := Lib.hid (HT5.out.below (Below.refl w5.heap.size w5).drew)
        have HB9 : Hid (Below w.heap.size w w5.drew) := Lib.hid HB5.out.drew
        have HO9 := Lib.hid (own_below HO5.out (Below.refl w5.heap.size w5).drew)
        have HK9 := Lib.hid (HK5.out.below (Below.refl w5.heap.size w5).drew)
        have HA9 := Lib.hid (HA5.out.below (Below.refl w5.heap.size w5).drew)
        obtain ⟨w9, hw9⟩ : ∃ z, z = w5.drew := ⟨_, rfl⟩
        rw [← hw9] at HT9 HB9 HO9 HK9 HA9 ⊢
        clear hw9 HS9 HK5 HA5 HT5 HB5 HO5
        obtain ⟨wx, hwx⟩ : ∃ z, z = (w9.setCell ⟨w.heap.size + 1, 0, none⟩ (.int .i64 O)).setCell ⟨w.heap.size + 1, 1, none⟩ (.slice (some ⟨g, 0, none⟩) n c1) := ⟨_, rfl⟩
        have HSX : Hid ((∀ t, wx.cell? ⟨bo, t, none⟩ = (#[.int .i64 O, .slice (some ⟨g, 0, none⟩) n c1] : Array Value)[t]?) ∧ ∀ t, wx.cell? ⟨w.heap.size, t, none⟩ = (#[.int .i64 O, .slice p n c] : Array Value)[t]?) := Lib.hid (by rw [hwx]; exact ⟨(set2_other HK9.out (by have := HGE.out; omega) _ _).c, (set2_other HA9.out (by omega) _ _).c⟩)
        have HTX : Hid (Blk wx (w.heap.size + 1) #[.int .i64 O, .slice (some ⟨g, 0, none⟩) n c1]) := Lib.hid (by rw [hwx]; exact set2_same HT9.out _ _)
        have HBX : Hid (Below w.heap.size w wx) := Lib.hid (by rw [hwx]; exact set2_below HB9.out (by omega) _ _)
        have HOX : Hid (wx.ownsRow (w.heap.size + 2) 4 1 (.slice (some ⟨g, 0, none⟩) n c1) n (boC (L.set kk true))) := Lib.hid (by rw [hwx]; exact own_off (own_off HO9.out (fun b e => by injection e with e; have e2 : g = b := e; have := HGG.out; omega) _ _) (fun b e => by injection e with e; have e2 : g = b := e; have := HGG.out; omega) _ _)
        have HWX := Lib.hid hwx
        clear hwx HK9 HA9 HO9 HB9
        have cT := HT9.out.c
        have fT := HT9.out.f
        have lT := HT9.out.lt
        refine plan_store (w1 := wx) rfl (by rfl) (by go_simp; rw [HWX.out]) HSX.out ?_
        try simp only [Act.put, List.setIfInBounds_toArray, List.set_cons_zero, List.set_cons_succ, List.getElem_toArray, List.getElem_cons_zero, List.getElem_cons_succ]
        refine plan_nil ?_
        simp only [List.drop_succ_cons, List.drop_zero]
        clear cT fT lT HWX HT9 HSX
        have cT := HTX.out.c
        go_wp2_with fail
        exact bodyPost_ret (v := .tuple #[.agg #[.int .i64 O, .slice (some ⟨g, 0, none⟩) n c1], .int .i64 O, .int .i64 0]) (by simp [results, Try.results7, go_sem, *]) rfl (HFIN.out _ _ _ _ _ _ _ HOX.out HBX.out (HRL.out))
    · have d0 : (O == 0) = false := by simp [h0]
      clear HOT
      by_cases ho : O = (kk : Int) + 1
      · have d2 : (O != ((kk : Int) + 1)) = false := by simp [ho]
        have HRL : Hid (readC E (kk : Int) = ⟨O, L⟩ ∧ readF E (kk : Int) = O ∧ askX E (kk : Int) = 0) := Lib.hid (by
          obtain ⟨e1, e2, e3⟩ := read_own HH.out (HEO.out.1.trans ho)
          exact ⟨by rw [e1, HEO.out.1, HEO.out.2], by rw [e2, HEO.out.1], e3⟩)
        clear ho h0 HST
        have HS9 : Hid (∀ W, Below w3.heap.size w3 W → (∀ t, W.cell? ⟨bo, t, none⟩ = (#[.int .i64 O, .slice (some ⟨g, 0, none⟩) n c1] : Array Value)[t]?) ∧ ∀ t, W.cell? ⟨w.heap.size, t, none⟩ = (#[.int .i64 O, .slice p n c] : Array Value)[t]?) := Lib.hid (fun W hW => ⟨(HK3.out.below hW).c, (HA3.out.below hW).c⟩)
        go_upto_region 9 with fail
        refine region_plan (fun W : World => (∀ t, W.cell? ⟨bo, t, none⟩ = (#[.int .i64 O, .slice (some ⟨g, 0, none⟩) n c1] : Array Value)[t]?) ∧ ∀ t, W.cell? ⟨w.heap.size, t, none⟩ = (#[.int .i64 O, .slice p n c] : Array Value)[t]?) 4 [(0, true), (1, true), (2, true), (3, false)] (by kernel_rfl) (by kernel_rfl) (HS9.out _ (Below.refl _ _).drew) ?_
        iterate 3
          refine plan_read (v := ?_) rfl (by rfl) ?_ ?_
          rotate_left
          · intro w' hS
            try dsimp only at hS
            obtain ⟨hS1, hS2⟩ := hS
            go_simp
            try with_reducible rfl
          try simp only [Act.put, List.setIfInBounds_toArray, List.set_cons_zero, List.set_cons_succ, List.getElem_toArray, List.getElem_cons_zero, List.getElem_cons_succ]
        have HT9 := Lib.hid (HT3.out.below (Below.refl w3.heap.size w3).drew)
        have HB9 : Hid (Below w.heap.size w w3.drew) := Lib.hid HB3.out.drew
        have HO9 := Lib.hid (own_below HO3.out (Below.refl w3.heap.size w3).drew)
        have HK9 := Lib.hid (HK3.out.below (Below.refl w3.heap.size w3).drew)
        have HA9 := Lib.hid (HA3.out.below (Below.refl w3.heap.size w3).drew)
        obtain ⟨w9, hw9⟩ : ∃ z, z = w3.drew := ⟨_, rfl⟩
        rw [← hw9] at HT9 HB9 HO9 HK9 HA9 ⊢
        clear hw9 HS9 HK3 HA3 HT3 HB3 HO3
        obtain ⟨wx, hwx⟩ : ∃ z, z = (w9.setCell ⟨w.heap.size + 1, 0, none⟩ (.int .i64 O)).setCell ⟨w.heap.size + 1, 1, none⟩ (.slice (some ⟨g, 0, none⟩) n c1) := ⟨_, rfl⟩
        have HSX : Hid ((∀ t, wx.cell? ⟨bo, t, none⟩ = (#[.int .i64 O, .slice (some ⟨g, 0, none⟩) n c1] : Array Value)[t]?) ∧ ∀ t, wx.cell? ⟨w.heap.size, t, none⟩ = (#[.int .i64 O, .slice p n c] : Array Value)[t]?) := Lib.hid (by rw [hwx]; exact ⟨(set2_other HK9.out (by have := HGE.out; omega) _ _).c, (set2_other HA9.out (by omega) _ _).c⟩)
        have HTX : Hid (Blk wx (w.heap.size + 1) #[.int .i64 O, .slice (some ⟨g, 0, none⟩) n c1]) := Lib.hid (by rw [hwx]; exact set2_same HT9.out _ _)
        have HBX : Hid (Below w.heap.size w wx) := Lib.hid (by rw [hwx]; exact set2_below HB9.out (by omega) _ _)
        have HOX : Hid (wx.ownsRow (w.heap.size + 2) 4 1 (.slice (some ⟨g, 0, none⟩) n c1) n (boC L)) := Lib.hid (by rw [hwx]; exact own_off (own_off HO9.out (fun b e => by injection e with e; have e2 : g = b := e; have := HGG.out; omega) _ _) (fun b e => by injection e with e; have e2 : g = b := e; have := HGG.out; omega) _ _)
        have HWX := Lib.hid hwx
        clear hwx HK9 HA9 HO9 HB9
        have cT := HT9.out.c
        have fT := HT9.out.f
        have lT := HT9.out.lt
        refine plan_store (w1 := wx) rfl (by rfl) (by go_simp; rw [HWX.out]) HSX.out ?_
        try simp only [Act.put, List.setIfInBounds_toArray, List.set_cons_zero, List.set_cons_succ, List.getElem_toArray, List.getElem_cons_zero, List.getElem_cons_succ]
        refine plan_nil ?_
        simp only [List.drop_succ_cons, List.drop_zero]
        clear cT fT lT HWX HT9 HSX
        have cT := HTX.out.c
        go_wp2_with fail
        exact bodyPost_ret (v := .tuple #[.agg #[.int .i64 O, .slice (some ⟨g, 0, none⟩) n c1], .int .i64 O, .int .i64 0]) (by simp [results, Try.results7, go_sem, *]) rfl (HFIN.out _ _ _ _ _ _ _ HOX.out HBX.out (HRL.out))
      · have d2 : (O != ((kk : Int) + 1)) = true := by simp [ho]
        have HRL : Hid (readC E (kk : Int) = ⟨O, L.set kk true⟩ ∧ readF E (kk : Int) = O ∧ askX E (kk : Int) = 0) := Lib.hid (by
          obtain ⟨e1, e2, e3⟩ := read_share HH.out (fun hh => h0 (HEO.out.1.symm.trans hh.1)) (by rw [HEO.out.1]; exact ho)
          exact ⟨by rw [e1, HEO.out.1, HEO.out.2]; rfl, by rw [e2, HEO.out.1], e3⟩)
        clear h0 ho
        obtain ⟨h4, h5, u, hu⟩ := HST.out w3 (O) true HK3.out HO3.out
        have hfz := HO3.out.frozenAt kk
        have kK := HK3.out.c
        obtain ⟨w5, hw5⟩ : ∃ z, z = w3.setCell ⟨g, kk, none⟩ (.bool true) := ⟨_, rfl⟩
        rw [← hw5] at h4 h5
        have HK5 := Lib.hid h4
        have HO5 := Lib.hid h5
        have HA5 : Hid (Blk w5 w.heap.size #[.int .i64 O, .slice p n c]) := Lib.hid (by rw [hw5]; exact HA3.out.other _ (by have := HGG.out; omega))
        have HT5 : Hid (Blk w5 (w.heap.size + 1) #[.int .i64 0, .slice none 0 0]) := Lib.hid (by rw [hw5]; exact HT3.out.other _ (by have := HGG.out; omega))
        have HB5 : Hid (Below w.heap.size w w5) := Lib.hid (by rw [hw5]; exact HB3.out.setCell (p := ⟨g, kk, none⟩) (by show w.heap.size ≤ g; have := HGG.out; omega) _)
        clear h4 h5 HA3 HT3 HB3 HO3 HST
        go_upto_region 9 with fail
        rw [← hw5]
        clear hw5 hu hfz kK HK3
        have HS9 : Hid (∀ W, Below w5.heap.size w5 W → (∀ t, W.cell? ⟨bo, t, none⟩ = (#[.int .i64 O, .slice (some ⟨g, 0, none⟩) n c1] : Array Value)[t]?) ∧ ∀ t, W.cell? ⟨w.heap.size, t, none⟩ = (#[.int .i64 O, .slice p n c] : Array Value)[t]?) := Lib.hid (fun W hW => ⟨(HK5.out.below hW).c, (HA5.out.below hW).c⟩)
        go_upto_region 9 with fail
        refine region_plan (fun W : World => (∀ t, W.cell? ⟨bo, t, none⟩ = (#[.int .i64 O, .slice (some ⟨g, 0, none⟩) n c1] : Array Value)[t]?) ∧ ∀ t, W.cell? ⟨w.heap.size, t, none⟩ = (#[.int .i64 O, .slice p n c] : Array Value)[t]?) 4 [(0, true), (1, true), (2, true), (3, false)] (by kernel_rfl) (by kernel_rfl) (HS9.out _ (Below.refl _ _).drew) ?_
        iterate 3
          refine plan_read (v := ?_) rfl (by rfl) ?_ ?_
          rotate_left
          · intro w' hS
            try dsimp only at hS
            obtain ⟨hS1, hS2⟩ := hS
            go_simp
            try with_reducible rfl
          try simp only [Act.put, List.setIfInBounds_toArray, List.set_cons_zero, List.set_cons_succ, List.getElem_toArray, List.getElem_cons_zero, List.getElem_cons_succ]
        have HT9 := Lib.hid (HT5.out.below (Below.refl w5.heap.size w5).drew)
        have HB9 : Hid (Below w.heap.size w w5.drew) := Lib.hid HB5.out.drew
        have HO9 := Lib.hid (own_below HO5.out (Below.refl w5.heap.size w5).drew)
        have HK9 := Lib.hid (HK5.out.below (Below.refl w5.heap.size w5).drew)
        have HA9 := Lib.hid (HA5.out.below (Below.refl w5.heap.size w5).drew)
        obtain ⟨w9, hw9⟩ : ∃ z, z = w5.drew := ⟨_, rfl⟩
        rw [← hw9] at HT9 HB9 HO9 HK9 HA9 ⊢
        clear hw9 HS9 HK5 HA5 HT5 HB5 HO5
        obtain ⟨wx, hwx⟩ : ∃ z, z = (w9.setCell ⟨w.heap.size + 1, 0, none⟩ (.int .i64 O)).setCell ⟨w.heap.size + 1, 1, none⟩ (.slice (some ⟨g, 0, none⟩) n c1) := ⟨_, rfl⟩
        have HSX : Hid ((∀ t, wx.cell? ⟨bo, t, none⟩ = (#[.int .i64 O, .slice (some ⟨g, 0, none⟩) n c1] : Array Value)[t]?) ∧ ∀ t, wx.cell? ⟨w.heap.size, t, none⟩ = (#[.int .i64 O, .slice p n c] : Array Value)[t]?) := Lib.hid (by rw [hwx]; exact ⟨(set2_other HK9.out (by have := HGE.out; omega) _ _).c, (set2_other HA9.out (by omega) _ _).c⟩)
        have HTX : Hid (Blk wx (w.heap.size + 1) #[.int .i64 O, .slice (some ⟨g, 0, none⟩) n c1]) := Lib.hid (by rw [hwx]; exact set2_same HT9.out _ _)
        have HBX : Hid (Below w.heap.size w wx) := Lib.hid (by rw [hwx]; exact set2_below HB9.out (by omega) _ _)
        have HOX : Hid (wx.ownsRow (w.heap.size + 2) 4 1 (.slice (some ⟨g, 0, none⟩) n c1) n (boC (L.set kk true))) := Lib.hid (by rw [hwx]; exact own_off (own_off HO9.out (fun b e => by injection e with e; have e2 : g = b := e; have := HGG.out; omega) _ _) (fun b e => by injection e with e; have e2 : g = b := e; have := HGG.out; omega) _ _)
        have HWX := Lib.hid hwx
        clear hwx HK9 HA9 HO9 HB9
        have cT := HT9.out.c
        have fT := HT9.out.f
        have lT := HT9.out.lt
        refine plan_store (w1 := wx) rfl (by rfl) (by go_simp; rw [HWX.out]) HSX.out ?_
        try simp only [Act.put, List.setIfInBounds_toArray, List.set_cons_zero, List.set_cons_succ, List.getElem_toArray, List.getElem_cons_zero, List.getElem_cons_succ]
        refine plan_nil ?_
        simp only [List.drop_succ_cons, List.drop_zero]
        clear cT fT lT HWX HT9 HSX
        have cT := HTX.out.c
        go_wp2_with fail
        exact bodyPost_ret (v := .tuple #[.agg #[.int .i64 O, .slice (some ⟨g, 0, none⟩) n c1], .int .i64 O, .int .i64 0]) (by simp [results, Try.results7, go_sem, *]) rfl (HFIN.out _ _ _ _ _ _ _ HOX.out HBX.out (HRL.out))
  · have hx : askX E k = 1 := (has_no hh).2.2.1
    have HH := Lib.hid hh
    clear hh
    have hq := HASK.out w2 HB2.out
    rw [hx] at hq
    have kA := HA2.out.c
    go_wp2_with fail
    refine hq.mono ?_
    rintro e w3 ⟨rfl, hb⟩
    have HK3 := Lib.hid (HK2.out.below hb)
    have HA3 := Lib.hid (HA2.out.below hb)
    have HT3 := Lib.hid (HT2.out.below hb)
    have HO3 := Lib.hid (own_below HO2.out hb)
    have HB3 : Hid (Below w.heap.size w w3) := Lib.hid (HB2.out.trans (hb.mono HB2.out.size))
    clear hb hq kA HK2 HA2 HT2 HO2 HB2 HASK
    clear hx HOT
    have kK := HK3.out.c
    have cT := HT3.out.c
    have fT := HT3.out.f
    have lT := HT3.out.lt
    go_wp2_with fail
    exact bodyPost_ret (v := .tuple #[.agg #[.int .i64 O, .slice p1 n c1], .int .i64 0, .int .i64 1]) (by simp [results, Try.results7, go_sem, *]) rfl (HFIN.out _ _ _ _ L _ _ (own_off (own_off HO3.out (fun g e => by have := (HO3.out.lt g e).1; omega) _ _) (fun g e => by have := (HO3.out.lt g e).1; omega) _ _) (set2_below HB3.out (by omega) _ _) (by
      obtain ⟨e1, e2, e3⟩ := read_no HH.out
      exact ⟨by rw [e1, HEO.out.1, HEO.out.2], e2, e3⟩))
end Go.Proofs.Ythkpoiaakggimaa
