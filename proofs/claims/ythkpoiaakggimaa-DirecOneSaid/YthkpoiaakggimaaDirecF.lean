/- The program's Write, Back, New, Alone; no condition but that what is known reads. -/
import Derived.Test.YthkpoiaakggimaaDirecE
namespace Go.Proofs.Ythkpoiaakggimaa
set_option linter.unusedVariables false
open Go.ChangeShapes Go.WideShapes Go.ChangeAt Go.RowKit

def setL : List Value → Nat → List Value → List Value
  | xs, _, [] => xs
  | xs, o, v :: vs => setL (xs.set o v) (o + 1) vs
theorem grown_trans {w w1 w2 : World} {row : Option Nat} (h : w.grownBy w1 row) (h2 : w1.grownBy w2 row) : w.grownBy w2 row :=
  ⟨h2.os.trans h.os, h2.tape.trans h.tape, h2.output.trans h.output, Nat.le_trans h.size h2.size, fun k hk hr => (h2.block k (Nat.lt_of_lt_of_le hk h.size) hr).trans (h.block k hk hr)⟩
theorem own_cells {w : World} {base : Nat} {g n cap : Nat} {xs : List Value} (vs : List Value) (o : Nat) (h : w.ownsRow base 4 1 (.slice (some ⟨g, 0, none⟩) n cap) n xs) :
    (w.setCells g o vs).ownsRow base 4 1 (.slice (some ⟨g, 0, none⟩) n cap) n (setL xs o vs) ∧ w.grownBy (w.setCells g o vs) (some g) := by
  induction vs generalizing w o xs with
  | nil => exact ⟨h, rfl, rfl, rfl, Nat.le_refl _, fun _ _ _ => rfl⟩
  | cons v vs ih =>
    have hs := h.stored o v
    have h2 := ih (o + 1) hs.1
    exact ⟨h2.1, grown_trans hs.2 h2.2⟩
theorem setL_rep (u : Value) (k : Nat) : ∀ (xs : List Value) (o : Nat), o + k = xs.length → (∀ j, j < o → xs[j]? = some u) → setL xs o (List.replicate k u) = List.replicate (o + k) u := by
  induction k with
  | zero =>
    intro xs o hl hj
    refine List.ext_getElem? (fun j => ?_)
    show xs[j]? = _
    by_cases h : j < o
    · rw [hj j h, List.getElem?_replicate, if_pos (by omega)]
    · rw [List.getElem?_eq_none (by omega), List.getElem?_replicate, if_neg (by omega)]
  | succ k ih =>
    intro xs o hl hj
    have := ih (xs.set o u) (o + 1) (by rw [List.length_set]; omega) (fun j hjo => by
      rw [List.getElem?_set]
      by_cases e : o = j
      · subst e; simp; omega
      · rw [if_neg e]; exact hj j (by omega))
    rw [show o + 1 + k = o + (k + 1) by omega] at this
    exact this
theorem own_clear {w : World} {base : Nat} {g n cap : Nat} {l : List Bool} (h : w.ownsRow base 4 1 (.slice (some ⟨g, 0, none⟩) n cap) n (boC l)) :
    (w.setCells g 0 (List.replicate n (.bool false))).ownsRow base 4 1 (.slice (some ⟨g, 0, none⟩) n cap) n (boC (List.replicate n false)) ∧ w.grownBy (w.setCells g 0 (List.replicate n (.bool false))) (some g) := by
  have hl : (boC l).length = n := by have := h.1; rw [Nat.mul_one] at this; exact this
  have hs := own_cells (List.replicate n (.bool false)) 0 h
  rw [setL_rep _ n (boC l) 0 (by omega) (fun j hj => absurd hj (Nat.not_lt_zero _)), Nat.zero_add, boC_rep] at hs
  rw [boC_rep]
  exact hs
theorem zero4 : ∀ w, (zeroValue 4).run Try.prog w = .ok (.bool false) w := by
  obtain ⟨i0, hi, hz0, hz1, hz2⟩ := info_parts info4
  intro w
  simp [zeroValue, typeInfo, hi, hz0]

set_option maxHeartbeats 2000000 in
set_option maxRecDepth 100000 in
theorem write_any (S : Nat → Prop) (v : Value) (E : En) (k : Int) (w : World) (h : Eo S w v E) (hS : ∀ R, S R → R < w.heap.size) : Calls Try.prog 10 #[v, .int .i64 k] w fun e w' => Out4 S w w' e (writeC E k) (readF E k) (writeT E k) (askX E k) := by
  have HASK := Lib.hid (fun W hW => asks_any S v E k W (h.below (w := w) (w' := W) hW))
  obtain ⟨p, n, c, rfl, hc, -⟩ := h
  have hn := hc.n100
  have HLEN := Lib.hid hc.len
  have HSS := Lib.hid hS
  have HCP := Lib.hid (fun W hW => copied_any p n c E W (hc.below (w := w) (w' := W) hW))
  have HOT := Lib.hid (fun W hW => others_any p n c E k W (hc.below (w := w) (w' := W) hW))
  have HFIN : Hid (∀ w' p' c' O' L' q d F T X, w'.ownsRow (w.heap.size + 2) 4 1 (.slice p' n c') n (boC L') → Below w.heap.size w w' → w'.ownsRow w.heap.size 3 1 (.slice q T.length d) T.length (inC T) → T.length ≤ 100 → writeC E k = ⟨O', L'⟩ ∧ readF E k = F ∧ askX E k = X ∧ writeT E k = T →
      Out4 S w w' (.returned (.tuple #[.agg #[.int .i64 O', .slice p' n c'], .int .i64 F, .slice q T.length d, .int .i64 X])) (writeC E k) (readF E k) (writeT E k) (askX E k)) := Lib.hid (fun w' p' c' O' L' q d F T X ho hb hq ht e => by
    rw [e.1, e.2.1, e.2.2.1, e.2.2.2]
    obtain ⟨q', d', e', hs⟩ := Sl.own hq
    injection e' with e1 e2 e3
    subst e1
    exact ⟨_, _, _, rfl, ⟨_, _, _, rfl, Ec.own (E := ⟨O', L'⟩) ho hn, fun R hR => own_offR ho (by have := hS R hR; omega)⟩, hs, fun R hR => own_offR hq (hS R hR), ht, hb⟩)
  obtain ⟨O, hO⟩ : ∃ O, O = E.owner := ⟨_, rfl⟩
  obtain ⟨L, hL⟩ : ∃ L, L = E.share := ⟨_, rfl⟩
  have HEO : Hid (E.owner = O ∧ E.share = L) := Lib.hid ⟨hO.symm, hL.symm⟩
  rw [← hO] at HCP HOT HASK ⊢
  rw [← hL] at HCP HLEN
  clear hO hL hc hS
  obtain ⟨w0, hw0⟩ : ∃ w0, w0 = (w.alloc (.cells #[.int .i64 O, .slice p n c] 24)).alloc (.cells #[.int .i64 0, .slice none 0 0] 24) := ⟨_, rfl⟩
  have HB0 : Hid (Below w.heap.size w w0) := Lib.hid (by rw [hw0]; exact ((Below.refl _ _).alloc (Nat.le_refl _) _).alloc (by simp) _)
  have HA0 : Hid (Blk w0 w.heap.size #[.int .i64 O, .slice p n c]) := Lib.hid (by rw [hw0]; exact (Blk.new _ _ _).alloc _)
  have HT0 : Hid (Blk w0 (w.heap.size + 1) #[.int .i64 0, .slice none 0 0]) := Lib.hid (by
    have := Blk.new (w.alloc (.cells #[.int .i64 O, .slice p n c] 24)) #[.int .i64 0, .slice none 0 0] 24
    rw [World.size_alloc] at this
    rw [hw0]; exact this)
  have HSZ : Hid (w0.heap.size = w.heap.size + 2) := Lib.hid (by rw [hw0, World.size_alloc, World.size_alloc])
  have HW0 := Lib.hid hw0
  clear hw0
  go_enter Try.func10, Try.ntmps10
  have kA := HA0.out.c
  go_upto_region 1 with fail
  rw [← HW0.out]
  clear HW0
  go_wp2_with fail
  refine (HCP.out w0 HB0.out).mono ?_
  rintro e w1 ⟨p1, c1, rfl, ho, hb⟩
  have HO1 : Hid (w1.ownsRow (w.heap.size + 2) 4 1 (.slice p1 n c1) n (boC L)) := Lib.hid (own_base ho (by rw [HSZ.out]; omega))
  have HA1 := Lib.hid (HA0.out.below hb)
  have HT1 := Lib.hid (HT0.out.below hb)
  have HB1 : Hid (Below w.heap.size w w1) := Lib.hid (HB0.out.trans (hb.mono HB0.out.size))
  have HGE : Hid (w.heap.size + 2 ≤ w1.heap.size) := Lib.hid (by rw [← HSZ.out]; exact hb.size)
  clear ho hb kA HA0 HT0 HB0 HSZ HCP
  go_upto_region 2 with fail
  obtain ⟨bo, hbo⟩ : ∃ b, b = w1.heap.size := ⟨_, rfl⟩
  obtain ⟨w2, hw2⟩ : ∃ z, z = w1.alloc (.cells #[.int .i64 O, .slice p1 n c1] 24) := ⟨_, rfl⟩
  have HBA : Hid (Below w1.heap.size w1 w2) := Lib.hid (by rw [hw2]; exact (Below.refl _ _).alloc (Nat.le_refl _) _)
  have HK2 : Hid (Blk w2 bo #[.int .i64 O, .slice p1 n c1]) := Lib.hid (by rw [hw2, hbo]; exact Blk.new _ _ _)
  have HA2 := Lib.hid (HA1.out.below HBA.out)
  have HT2 := Lib.hid (HT1.out.below HBA.out)
  have HO2 := Lib.hid (own_below HO1.out HBA.out)
  have HB2 : Hid (Below w.heap.size w w2) := Lib.hid (HB1.out.trans (HBA.out.mono HB1.out.size))
  have HNE : Hid (∀ g, (Value.slice p1 n c1).ownBlock = some g → g ≠ bo) := Lib.hid (fun g e => by have := (HO1.out.lt g e).2; omega)
  rw [← hbo] at HGE
  rw [← hw2, ← hbo]
  clear hw2 hbo HA1 HT1 HO1 HB1 HBA
  by_cases hh : hasE E k = true
  · obtain ⟨kk, rfl, hkn⟩ := has_nat (n := n) hh (by rw [HEO.out.2]; exact HLEN.out)
    have hx : askX E (kk : Int) = 0 := (has_yes hh).2.1
    have HRL : Hid (writeC E (kk : Int) = ⟨(kk : Int) + 1, List.replicate n false⟩ ∧ readF E (kk : Int) = O ∧ askX E (kk : Int) = 0 ∧ writeT E (kk : Int) = othE E (kk : Int)) := Lib.hid (by
      obtain ⟨e1, e2, e3, e4⟩ := write_yes hh
      exact ⟨by rw [e1, HEO.out.2, HLEN.out], by rw [e2, HEO.out.1], e3, e4⟩)
    have HTL : Hid ((othE E (kk : Int)).length ≤ 100) := Lib.hid (by
      have := oth_le E.share (kk : Int) E.share.length
      unfold othE
      rw [HEO.out.2, HLEN.out] at this ⊢
      omega)
    obtain ⟨g, hg, -, -, hg2, -⟩ := own_go HO2.out (by omega)
    subst hg
    have HGG : Hid (w.heap.size + 2 ≤ g) := Lib.hid hg2
    clear hh hg2
    have hq := HASK.out w2 HB2.out
    rw [hx] at hq
    have kA := HA2.out.c
    go_wp2_with fail
    refine hq.mono ?_
    rintro e w3 ⟨rfl, hb⟩
    have HK3 := Lib.hid (HK2.out.below hb)
    have HA3 := Lib.hid (HA2.out.below hb)
    have HT3 := Lib.hid (HT2.out.below hb)
    have HO3 := Lib.hid (own_below HO2.out hb)
    have HB3 : Hid (Below w.heap.size w w3) := Lib.hid (HB2.out.trans (hb.mono HB2.out.size))
    clear hb hq kA HK2 HA2 HT2 HO2 HB2 HASK
    clear hx
    have HGB : Hid (g ≠ bo) := Lib.hid (HNE.out g rfl)
    have hkI : (kk : Int) < (n : Int) := by omega
    have hk1 : wrap64 ((kk : Int) + 1) = (kk : Int) + 1 := by unfold wrap64; omega
    obtain ⟨T, hT⟩ : ∃ T, T = othE E (kk : Int) := ⟨_, rfl⟩
    rw [← hT] at HRL HTL HOT
    clear hT
    have kK := HK3.out.c
    have fK := HK3.out.f
    have lK := HK3.out.lt
    go_upto_region 6 with fail
    obtain ⟨w4, hw4⟩ : ∃ z, z = w3.setCell ⟨bo, 0, none⟩ (.int .i64 ((kk : Int) + 1)) := ⟨_, rfl⟩
    have HK4 : Hid (Blk w4 bo #[.int .i64 ((kk : Int) + 1), .slice (some ⟨g, 0, none⟩) n c1]) := Lib.hid (by rw [hw4]; exact HK3.out.set (n := 0) _ (by simp))
    have HA4 : Hid (Blk w4 w.heap.size #[.int .i64 O, .slice p n c]) := Lib.hid (by rw [hw4]; exact HA3.out.other _ (by have := HGE.out; omega))
    have HT4 : Hid (Blk w4 (w.heap.size + 1) #[.int .i64 0, .slice none 0 0]) := Lib.hid (by rw [hw4]; exact HT3.out.other _ (by have := HGE.out; omega))
    have HO4 : Hid (w4.ownsRow (w.heap.size + 2) 4 1 (.slice (some ⟨g, 0, none⟩) n c1) n (boC L)) := Lib.hid (by rw [hw4]; exact own_off HO3.out (fun b e => by injection e with e; have e2 : g = b := e; have := HGB.out; omega) _ _)
    have HB4 : Hid (Below w.heap.size w w4) := Lib.hid (by rw [hw4]; exact HB3.out.setCell (p := ⟨bo, 0, none⟩) (by show w.heap.size ≤ bo; have := HGE.out; omega) _)
    rw [← hw4]
    clear hw4 kK fK lK HK3 HA3 HT3 HO3 HB3
    have kK := HK4.out.c
    have hcl : ∀ ty, (Builtin.clear_ #[22] ty #[.slice (some ⟨g, 0, none⟩) n c1]).run Try.prog w4 = .ok (.tuple #[]) (w4.setCells g 0 (List.replicate n (.bool false))) :=
      fun ty => Lib.run_clear_slice w4 _ _ ty _ Try.underlying22 zero4 rfl rfl g 0 n c1 (by omega) (fun t ht => by rw [Nat.zero_add, HO4.out.cellAt t (by omega), boC_at L t (by rw [HLEN.out]; exact ht)]; rfl) (fun t _ => by rw [Nat.zero_add]; exact HO4.out.frozenAt t)
    obtain ⟨hc1, hc2⟩ := own_clear HO4.out
    go_upto_region 7 with fail
    obtain ⟨w5, hw5⟩ : ∃ z, z = w4.setCells g 0 (List.replicate n (.bool false)) := ⟨_, rfl⟩
    rw [← hw5] at hc1 hc2 ⊢
    have HO5 := Lib.hid hc1
    have HK5 := Lib.hid (HK4.out.grown hc2 (fun e => by injection e with e; exact HGB.out e))
    have HA5 := Lib.hid (HA4.out.grown hc2 (fun e => by injection e with e; have := HGG.out; omega))
    have HT5 := Lib.hid (HT4.out.grown hc2 (fun e => by injection e with e; have := HGG.out; omega))
    have HB5 : Hid (Below w.heap.size w w5) := Lib.hid (HB4.out.grown hc2 HB4.out.size (fun b e => by injection e with e; have := HGG.out; omega))
    clear hc1 hc2 hw5 hcl kK HK4 HA4 HT4 HO4 HB4
    have HS7 : Hid (∀ W, Below w5.heap.size w5 W → (∀ t, W.cell? ⟨bo, t, none⟩ = (#[.int .i64 ((kk : Int) + 1), .slice (some ⟨g, 0, none⟩) n c1] : Array Value)[t]?) ∧ ∀ t, W.cell? ⟨w.heap.size, t, none⟩ = (#[.int .i64 O, .slice p n c] : Array Value)[t]?) := Lib.hid (fun W hW => ⟨(HK5.out.below hW).c, (HA5.out.below hW).c⟩)
    refine region_plan (fun W : World => (∀ t, W.cell? ⟨bo, t, none⟩ = (#[.int .i64 ((kk : Int) + 1), .slice (some ⟨g, 0, none⟩) n c1] : Array Value)[t]?) ∧ ∀ t, W.cell? ⟨w.heap.size, t, none⟩ = (#[.int .i64 O, .slice p n c] : Array Value)[t]?) 7 [(0, true), (1, true), (2, true), (3, true), (4, true), (5, false), (6, false)] (by kernel_rfl) (by kernel_rfl) (HS7.out _ (Below.refl _ _).drew) ?_
    iterate 5
      refine plan_read (v := ?_) rfl (by rfl) ?_ ?_
      rotate_left
      · intro w' hS
        try dsimp only at hS
        obtain ⟨hS1, hS2⟩ := hS
        go_simp
        try with_reducible rfl
      try simp only [Act.put, List.setIfInBounds_toArray, List.set_cons_zero, List.set_cons_succ, List.getElem_toArray, List.getElem_cons_zero, List.getElem_cons_succ]
    refine plan_call (F := 23) (args := ?_) rfl (by rfl) ?_ ?_
    rotate_left
    · go_simp
      rfl
    refine (HOT.out w5.drew HB5.out.drew).mono ?_
    rintro e w6 ⟨q, d, rfl, hq, hb⟩
    have HB56 : Hid (Below w5.heap.size w5 w6) := Lib.hid ((Below.refl _ _).drew.trans hb)
    have HQ6 : Hid (w6.ownsRow (w.heap.size + 2) 3 1 (.slice q T.length d) T.length (inC T)) := Lib.hid (own_base hq (by show w.heap.size + 2 ≤ w5.heap.size + 1; have := HT5.out.lt; omega))
    clear hq hb
    refine ⟨_, rfl, HS7.out _ HB56.out, ?_⟩
    try simp only [Act.put, List.setIfInBounds_toArray, List.set_cons_zero, List.set_cons_succ, List.getElem_toArray, List.getElem_cons_zero, List.getElem_cons_succ]
    have HK6 := Lib.hid (HK5.out.below HB56.out)
    have HA6 := Lib.hid (HA5.out.below HB56.out)
    have HT6 := Lib.hid (HT5.out.below HB56.out)
    have HO6 := Lib.hid (own_below HO5.out HB56.out)
    have HB6 : Hid (Below w.heap.size w w6) := Lib.hid (HB5.out.trans (HB56.out.mono HB5.out.size))
    clear HS7 HK5 HA5 HT5 HO5 HB5 HB56
    obtain ⟨wx, hwx⟩ : ∃ z, z = (w6.setCell ⟨w.heap.size + 1, 0, none⟩ (.int .i64 ((kk : Int) + 1))).setCell ⟨w.heap.size + 1, 1, none⟩ (.slice (some ⟨g, 0, none⟩) n c1) := ⟨_, rfl⟩
    have HSX : Hid ((∀ t, wx.cell? ⟨bo, t, none⟩ = (#[.int .i64 ((kk : Int) + 1), .slice (some ⟨g, 0, none⟩) n c1] : Array Value)[t]?) ∧ ∀ t, wx.cell? ⟨w.heap.size, t, none⟩ = (#[.int .i64 O, .slice p n c] : Array Value)[t]?) := Lib.hid (by rw [hwx]; exact ⟨(set2_other HK6.out (by have := HGE.out; omega) _ _).c, (set2_other HA6.out (by omega) _ _).c⟩)
    have HTX : Hid (Blk wx (w.heap.size + 1) #[.int .i64 ((kk : Int) + 1), .slice (some ⟨g, 0, none⟩) n c1]) := Lib.hid (by rw [hwx]; exact set2_same HT6.out _ _)
    have HBX : Hid (Below w.heap.size w wx) := Lib.hid (by rw [hwx]; exact set2_below HB6.out (by omega) _ _)
    have HOX : Hid (wx.ownsRow (w.heap.size + 2) 4 1 (.slice (some ⟨g, 0, none⟩) n c1) n (boC (List.replicate n false))) := Lib.hid (by rw [hwx]; exact own_off (own_off HO6.out (fun b e => by injection e with e; have e2 : g = b := e; have := HGG.out; omega) _ _) (fun b e => by injection e with e; have e2 : g = b := e; have := HGG.out; omega) _ _)
    have HQX : Hid (wx.ownsRow (w.heap.size + 2) 3 1 (.slice q T.length d) T.length (inC T)) := Lib.hid (by rw [hwx]; exact own_off (own_off HQ6.out (fun b e => by have := (HQ6.out.lt b e).1; omega) _ _) (fun b e => by have := (HQ6.out.lt b e).1; omega) _ _)
    have HWX := Lib.hid hwx
    clear hwx HK6 HA6 HO6 HB6 HQ6
    have cT := HT6.out.c
    have fT := HT6.out.f
    have lT := HT6.out.lt
    refine plan_store (w1 := wx) rfl (by rfl) (by go_simp; rw [HWX.out]) HSX.out ?_
    try simp only [Act.put, List.setIfInBounds_toArray, List.set_cons_zero, List.set_cons_succ, List.getElem_toArray, List.getElem_cons_zero, List.getElem_cons_succ]
    refine plan_nil ?_
    simp only [List.drop_succ_cons, List.drop_zero]
    clear cT fT lT HWX HT6 HSX
    have cT := HTX.out.c
    go_wp2_with fail
    exact bodyPost_ret (v := .tuple #[.agg #[.int .i64 ((kk : Int) + 1), .slice (some ⟨g, 0, none⟩) n c1], .int .i64 O, .slice q T.length d, .int .i64 0]) (by simp [results, Try.results10, go_sem, *]) rfl (HFIN.out _ _ _ _ _ _ _ _ T _ HOX.out HBX.out (own_base HQX.out (by omega)) HTL.out HRL.out)
  · have hx : askX E k = 1 := (has_no hh).2.2.1
    have HH := Lib.hid hh
    clear hh
    have hq := HASK.out w2 HB2.out
    rw [hx] at hq
    have kA := HA2.out.c
    go_wp2_with fail
    refine hq.mono ?_
    rintro e w3 ⟨rfl, hb⟩
    have HK3 := Lib.hid (HK2.out.below hb)
    have HA3 := Lib.hid (HA2.out.below hb)
    have HT3 := Lib.hid (HT2.out.below hb)
    have HO3 := Lib.hid (own_below HO2.out hb)
    have HB3 : Hid (Below w.heap.size w w3) := Lib.hid (HB2.out.trans (hb.mono HB2.out.size))
    clear hb hq kA HK2 HA2 HT2 HO2 HB2 HASK
    clear hx HOT
    have kK := HK3.out.c
    have cT := HT3.out.c
    have fT := HT3.out.f
    have lT := HT3.out.lt
    go_wp2_with fail
    exact bodyPost_ret (v := .tuple #[.agg #[.int .i64 O, .slice p1 n c1], .int .i64 0, .slice none 0 0, .int .i64 1]) (by simp [results, Try.results10, go_sem, *]) rfl (HFIN.out _ _ _ _ L _ _ _ [] _ (own_off (own_off HO3.out (fun g e => by have := (HO3.out.lt g e).1; omega) _ _) (fun g e => by have := (HO3.out.lt g e).1; omega) _ _) (set2_below HB3.out (by omega) _ _) (World.ownsRow_nil _ _ _ _) (Nat.zero_le _) (by
      obtain ⟨e1, e2, e3, e4⟩ := write_no HH.out
      exact ⟨by rw [e1, HEO.out.1, HEO.out.2], e2, e3, e4⟩))

set_option maxHeartbeats 2000000 in
set_option maxRecDepth 100000 in
theorem back_any (S : Nat → Prop) (v : Value) (E : En) (k : Int) (w : World) (h : Eo S w v E) (hS : ∀ R, S R → R < w.heap.size) : Calls Try.prog 13 #[v, .int .i64 k] w fun e w' => Out2 S w w' e (backC E k) (backX E k) := by
  have HASK := Lib.hid (fun W hW => asks_any S v E k W (h.below (w := w) (w' := W) hW))
  obtain ⟨p, n, c, rfl, hc, -⟩ := h
  have hn := hc.n100
  have HLEN := Lib.hid hc.len
  have HSS := Lib.hid hS
  have HCP := Lib.hid (fun W hW => copied_any p n c E W (hc.below (w := w) (w' := W) hW))
  have HOT := Lib.hid (fun W hW => others_any p n c E k W (hc.below (w := w) (w' := W) hW))
  clear HOT
  have HFIN : Hid (∀ w' p' c' O' L' X, w'.ownsRow (w.heap.size + 2) 4 1 (.slice p' n c') n (boC L') → Below w.heap.size w w' → backC E k = ⟨O', L'⟩ ∧ backX E k = X →
      Out2 S w w' (.returned (.tuple #[.agg #[.int .i64 O', .slice p' n c'], .int .i64 X])) (backC E k) (backX E k)) := Lib.hid (fun w' p' c' O' L' X ho hb e => by
    rw [e.1, e.2]
    exact ⟨_, rfl, ⟨_, _, _, rfl, Ec.own (E := ⟨O', L'⟩) ho hn, fun R hR => own_offR ho (by have := hS R hR; omega)⟩, hb⟩)
  obtain ⟨O, hO⟩ : ∃ O, O = E.owner := ⟨_, rfl⟩
  obtain ⟨L, hL⟩ : ∃ L, L = E.share := ⟨_, rfl⟩
  have HEO : Hid (E.owner = O ∧ E.share = L) := Lib.hid ⟨hO.symm, hL.symm⟩
  rw [← hO] at HCP HASK ⊢
  rw [← hL] at HCP HLEN
  clear hO hL hc hS
  obtain ⟨w0, hw0⟩ : ∃ w0, w0 = (w.alloc (.cells #[.int .i64 O, .slice p n c] 24)).alloc (.cells #[.int .i64 0, .slice none 0 0] 24) := ⟨_, rfl⟩
  have HB0 : Hid (Below w.heap.size w w0) := Lib.hid (by rw [hw0]; exact ((Below.refl _ _).alloc (Nat.le_refl _) _).alloc (by simp) _)
  have HA0 : Hid (Blk w0 w.heap.size #[.int .i64 O, .slice p n c]) := Lib.hid (by rw [hw0]; exact (Blk.new _ _ _).alloc _)
  have HT0 : Hid (Blk w0 (w.heap.size + 1) #[.int .i64 0, .slice none 0 0]) := Lib.hid (by
    have := Blk.new (w.alloc (.cells #[.int .i64 O, .slice p n c] 24)) #[.int .i64 0, .slice none 0 0] 24
    rw [World.size_alloc] at this
    rw [hw0]; exact this)
  have HSZ : Hid (w0.heap.size = w.heap.size + 2) := Lib.hid (by rw [hw0, World.size_alloc, World.size_alloc])
  have HW0 := Lib.hid hw0
  clear hw0
  go_enter Try.func13, Try.ntmps13
  have kA := HA0.out.c
  go_upto_region 1 with fail
  rw [← HW0.out]
  clear HW0
  go_wp2_with fail
  refine (HCP.out w0 HB0.out).mono ?_
  rintro e w1 ⟨p1, c1, rfl, ho, hb⟩
  have HO1 : Hid (w1.ownsRow (w.heap.size + 2) 4 1 (.slice p1 n c1) n (boC L)) := Lib.hid (own_base ho (by rw [HSZ.out]; omega))
  have HA1 := Lib.hid (HA0.out.below hb)
  have HT1 := Lib.hid (HT0.out.below hb)
  have HB1 : Hid (Below w.heap.size w w1) := Lib.hid (HB0.out.trans (hb.mono HB0.out.size))
  have HGE : Hid (w.heap.size + 2 ≤ w1.heap.size) := Lib.hid (by rw [← HSZ.out]; exact hb.size)
  clear ho hb kA HA0 HT0 HB0 HSZ HCP
  go_upto_region 2 with fail
  obtain ⟨bo, hbo⟩ : ∃ b, b = w1.heap.size := ⟨_, rfl⟩
  obtain ⟨w2, hw2⟩ : ∃ z, z = w1.alloc (.cells #[.int .i64 O, .slice p1 n c1] 24) := ⟨_, rfl⟩
  have HBA : Hid (Below w1.heap.size w1 w2) := Lib.hid (by rw [hw2]; exact (Below.refl _ _).alloc (Nat.le_refl _) _)
  have HK2 : Hid (Blk w2 bo #[.int .i64 O, .slice p1 n c1]) := Lib.hid (by rw [hw2, hbo]; exact Blk.new _ _ _)
  have HA2 := Lib.hid (HA1.out.below HBA.out)
  have HT2 := Lib.hid (HT1.out.below HBA.out)
  have HO2 := Lib.hid (own_below HO1.out HBA.out)
  have HB2 : Hid (Below w.heap.size w w2) := Lib.hid (HB1.out.trans (HBA.out.mono HB1.out.size))
  have HNE : Hid (∀ g, (Value.slice p1 n c1).ownBlock = some g → g ≠ bo) := Lib.hid (fun g e => by have := (HO1.out.lt g e).2; omega)
  rw [← hbo] at HGE
  rw [← hw2, ← hbo]
  clear hw2 hbo HA1 HT1 HO1 HB1 HBA
  by_cases hh : hasE E k = true
  · obtain ⟨kk, rfl, hkn⟩ := has_nat (n := n) hh (by rw [HEO.out.2]; exact HLEN.out)
    have hx : askX E (kk : Int) = 0 := (has_yes hh).2.1
    have HH := Lib.hid hh
    clear hh
    have hq := HASK.out w2 HB2.out
    rw [hx] at hq
    have kA := HA2.out.c
    go_wp2_with fail
    refine hq.mono ?_
    rintro e w3 ⟨rfl, hb⟩
    have HK3 := Lib.hid (HK2.out.below hb)
    have HA3 := Lib.hid (HA2.out.below hb)
    have HT3 := Lib.hid (HT2.out.below hb)
    have HO3 := Lib.hid (own_below HO2.out hb)
    have HB3 : Hid (Below w.heap.size w w3) := Lib.hid (HB2.out.trans (hb.mono HB2.out.size))
    clear hb hq kA HK2 HA2 HT2 HO2 HB2 HASK
    clear hx
    have hk1 : wrap64 ((kk : Int) + 1) = (kk : Int) + 1 := by unfold wrap64; omega
    have kA := HA3.out.c
    have kK := HK3.out.c
    have cT := HT3.out.c
    have fT := HT3.out.f
    have lT := HT3.out.lt
    by_cases ho : O = (kk : Int) + 1
    · have d2 : (O != ((kk : Int) + 1)) = false := by simp [ho]
      have HRL : Hid (backC E (kk : Int) = ⟨0, L⟩ ∧ backX E (kk : Int) = 0) := Lib.hid (by
        obtain ⟨e1, e2, _⟩ := back_yes HH.out (HEO.out.1.trans ho)
        exact ⟨by rw [e1, HEO.out.2], e2⟩)
      clear ho
      have fK := HK3.out.f
      have lK := HK3.out.lt
      go_upto_region 8 with fail
      obtain ⟨w4, hw4⟩ : ∃ z, z = w3.setCell ⟨bo, 0, none⟩ (.int .i64 0) := ⟨_, rfl⟩
      have HK4 : Hid (Blk w4 bo #[.int .i64 0, .slice p1 n c1]) := Lib.hid (by rw [hw4]; exact HK3.out.set (n := 0) _ (by simp))
      have HT4 : Hid (Blk w4 (w.heap.size + 1) #[.int .i64 0, .slice none 0 0]) := Lib.hid (by rw [hw4]; exact HT3.out.other _ (by have := HGE.out; omega))
      have HO4 : Hid (w4.ownsRow (w.heap.size + 2) 4 1 (.slice p1 n c1) n (boC L)) := Lib.hid (by rw [hw4]; exact own_off HO3.out (fun b e => HNE.out b e) _ _)
      have HB4 : Hid (Below w.heap.size w w4) := Lib.hid (by rw [hw4]; exact HB3.out.setCell (p := ⟨bo, 0, none⟩) (by show w.heap.size ≤ bo; have := HGE.out; omega) _)
      rw [← hw4]
      clear hw4 kK fK lK kA cT fT lT HK3 HA3 HT3 HO3 HB3
      have kK := HK4.out.c
      have cT := HT4.out.c
      have fT := HT4.out.f
      have lT := HT4.out.lt
      go_wp2_with fail
      exact bodyPost_ret (v := .tuple #[.agg #[.int .i64 0, .slice p1 n c1], .int .i64 0]) (by simp [results, Try.results13, go_sem, *]) rfl (HFIN.out _ _ _ _ L _ (own_off (own_off HO4.out (fun g e => by have := (HO4.out.lt g e).1; omega) _ _) (fun g e => by have := (HO4.out.lt g e).1; omega) _ _) (set2_below HB4.out (by omega) _ _) (HRL.out))
    · have d2 : (O != ((kk : Int) + 1)) = true := by simp [ho]
      have HRL : Hid (backC E (kk : Int) = ⟨O, L⟩ ∧ backX E (kk : Int) = 7) := Lib.hid (by
        obtain ⟨e1, e2, _⟩ := back_not HH.out (by rw [HEO.out.1]; exact ho)
        exact ⟨by rw [e1, HEO.out.1, HEO.out.2], e2⟩)
      clear ho
      go_wp2_with fail
      exact bodyPost_ret (v := .tuple #[.agg #[.int .i64 O, .slice p1 n c1], .int .i64 7]) (by simp [results, Try.results13, go_sem, *]) rfl (HFIN.out _ _ _ _ L _ (own_off (own_off HO3.out (fun g e => by have := (HO3.out.lt g e).1; omega) _ _) (fun g e => by have := (HO3.out.lt g e).1; omega) _ _) (set2_below HB3.out (by omega) _ _) (HRL.out))
  · have hx : askX E k = 1 := (has_no hh).2.2.1
    have HH := Lib.hid hh
    clear hh
    have hq := HASK.out w2 HB2.out
    rw [hx] at hq
    have kA := HA2.out.c
    go_wp2_with fail
    refine hq.mono ?_
    rintro e w3 ⟨rfl, hb⟩
    have HK3 := Lib.hid (HK2.out.below hb)
    have HA3 := Lib.hid (HA2.out.below hb)
    have HT3 := Lib.hid (HT2.out.below hb)
    have HO3 := Lib.hid (own_below HO2.out hb)
    have HB3 : Hid (Below w.heap.size w w3) := Lib.hid (HB2.out.trans (hb.mono HB2.out.size))
    clear hb hq kA HK2 HA2 HT2 HO2 HB2 HASK
    clear hx
    have kK := HK3.out.c
    have cT := HT3.out.c
    have fT := HT3.out.f
    have lT := HT3.out.lt
    go_wp2_with fail
    exact bodyPost_ret (v := .tuple #[.agg #[.int .i64 O, .slice p1 n c1], .int .i64 1]) (by simp [results, Try.results13, go_sem, *]) rfl (HFIN.out _ _ _ _ L _ (own_off (own_off HO3.out (fun g e => by have := (HO3.out.lt g e).1; omega) _ _) (fun g e => by have := (HO3.out.lt g e).1; omega) _ _) (set2_below HB3.out (by omega) _ _) (by
      obtain ⟨e1, e2, _⟩ := back_no HH.out
      exact ⟨by rw [e1, HEO.out.1, HEO.out.2], e2⟩))

set_option maxHeartbeats 2000000 in
theorem new_any (n : Int) (w : World) : Calls Try.prog 15 #[.int .i64 n] w fun e w' => Out2 (fun R => R < w.heap.size) w w' e (newC n) (newX n) := by
  have HM := Lib.hid (fun W => mayBe_any n W)
  obtain ⟨b, hb⟩ : ∃ b, b = mayN n := ⟨_, rfl⟩
  have HC : Hid (newC n = if b = true then ⟨0, List.replicate n.toNat false⟩ else ⟨0, []⟩) := Lib.hid (by rw [hb]; rfl)
  have HE : Hid (newX n = if b = true then 0 else 1) := Lib.hid (by rw [hb]; rfl)
  rw [← hb] at HM
  have HN : Hid (b = true → 1 ≤ n ∧ n ≤ 4) := Lib.hid (fun e => by rw [hb] at e; exact mayN_iff.1 e)
  obtain ⟨C, hC⟩ : ∃ C, C = newC n := ⟨_, rfl⟩
  obtain ⟨E, hE⟩ : ∃ E, E = newX n := ⟨_, rfl⟩
  rw [← hC] at HC ⊢
  rw [← hE] at HE ⊢
  clear hC hE hb
  obtain ⟨i0, hi, hz0, hz1, hz2⟩ := info_parts info4
  have HI := Lib.hid (And.intro hi (And.intro hz0 (And.intro hz1 hz2)))
  clear hi hz0 hz1 hz2
  have HB0 : Hid (Below w.heap.size w (w.alloc (.cells #[.int .i64 0, .slice none 0 0] 24))) := Lib.hid ((Below.refl _ _).alloc (Nat.le_refl _) _)
  have HK0 : Hid (Blk (w.alloc (.cells #[.int .i64 0, .slice none 0 0] 24)) w.heap.size #[.int .i64 0, .slice none 0 0]) := Lib.hid (Blk.new _ _ _)
  go_enter Try.func15, Try.ntmps15
  go_wp2_with fail
  refine (HM.out _).mono ?_
  rintro e w' ⟨rfl, rfl⟩
  cases b with
  | false =>
    have hC : C = ⟨0, []⟩ := HC.out
    have hE : E = 1 := HE.out
    subst hC hE
    clear HC HE HN HI HM
    go_wp2_with fail
    exact bodyPost_ret (v := .tuple #[.agg #[.int .i64 0, .slice none 0 0], .int .i64 1]) (by simp [results, Try.results15, go_sem]) rfl ⟨_, rfl, ⟨none, 0, 0, rfl, ⟨rfl, Sl.empty _ _ _, Nat.le_refl _, by decide⟩, fun R _ h => absurd h (by decide)⟩, HB0.out⟩
  | true =>
    obtain ⟨h1, h4⟩ := HN.out rfl
    obtain ⟨N, rfl⟩ := Int.eq_ofNat_of_zero_le (show 0 ≤ n by omega)
    have hC : C = ⟨0, List.replicate N false⟩ := HC.out
    have hE : E = 0 := HE.out
    subst hC hE
    have hN4 : N ≤ 4 := by omega
    have hN1 : 1 ≤ N := by omega
    clear HC HE HN HM h1 h4
    obtain ⟨w0, hw0⟩ : ∃ w0, w0 = w.alloc (.cells #[.int .i64 0, .slice none 0 0] 24) := ⟨_, rfl⟩
    have HSZ : Hid (w0.heap.size = w.heap.size + 1) := Lib.hid (by rw [hw0]; exact World.size_alloc _ _)
    rw [← hw0] at HB0 HK0 ⊢
    clear hw0
    go_wp2_with (first | (refine wpList_make_full _ rfl _ _ 22 rfl w0.heap.size 4 i0 (.bool false) 1 Try.underlying22 HI.out.1 HI.out.2.1 HI.out.2.2.1 .i64 .i64 N N N rfl rfl rfl rfl (by rw [HI.out.2.2.2]; omega) (by unfold maxLen; omega) (Nat.le_refl _) ?_))
    intro w1 g1 g2
    have e1 : (madeCells #[Value.bool false] N).toList = List.replicate N (.bool false) := toList_madeCells_one _ _
    have HO : Hid (w1.ownsRow w0.heap.size 4 1 (.slice (some ⟨w0.heap.size, 0, none⟩) N N) N (boC (List.replicate N false))) := Lib.hid (by rw [← boC_rep, ← e1]; exact g1)
    have HB1 : Hid (Below w0.heap.size w0 w1) := Lib.hid ((Below.refl _ _).grown g2 (Nat.le_refl _) (fun k hk => by cases hk))
    have HK1 := Lib.hid (HK0.out.below HB1.out)
    have HBW : Hid (Below w.heap.size w w1) := Lib.hid (HB0.out.trans (HB1.out.mono HB0.out.size))
    obtain ⟨g, hg⟩ : ∃ g, g = w0.heap.size := ⟨_, rfl⟩
    have HG : Hid (g = w.heap.size + 1) := Lib.hid (by rw [hg]; exact HSZ.out)
    rw [← hg] at HO ⊢
    clear g1 g2 e1 hg HB1 HK0 HSZ HB0
    have cK := HK1.out.c
    have fK := HK1.out.f
    have lK := HK1.out.lt
    go_wp2_with fail
    refine bodyPost_ret (v := .tuple #[.agg #[.int .i64 0, .slice (some ⟨g, 0, none⟩) N N], .int .i64 0]) (by simp [results, Try.results15, go_sem, *]) rfl ⟨_, rfl, ⟨some ⟨g, 0, none⟩, N, N, rfl, ?_, fun R (hR : R < w.heap.size) _ a e => ?_⟩, ?_⟩
    · exact Ec.own (E := ⟨0, List.replicate N false⟩) (own_off (own_off HO.out (fun b e => by injection e with e; have e2 : g = b := e; have := HG.out; omega) _ _) (fun b e => by injection e with e; have e2 : g = b := e; have := HG.out; omega) _ _) (by omega)
    · injection e with e
      subst e
      show g ≠ R
      have := HG.out
      omega
    · exact set2_below HBW.out (Nat.le_refl _) _ _

set_option maxHeartbeats 2000000 in
theorem alone_any (S : Nat → Prop) (v : Value) (E : En) (w : World) (h : Eo S w v E) : Calls Try.prog 20 #[v] w fun e w' => e = .returned (.bool (aloneE E)) ∧ Below w.heap.size w w' := by
  have HM := Lib.hid (fun W hW => may_any S v E (E.share.length : Int) W (h.below (w := w) (w' := W) hW))
  obtain ⟨p, n, c, rfl, hc, -⟩ := h
  have HCO := Lib.hid (fun W hW => contains_any p n c E.share W hc.len (hc.sl.below (w := w) (w' := W) hW) hc.n100)
  have HR : Hid (aloneE E = (mayE E (n : Int) && (decide (0 < E.owner) && !(E.share.contains true)))) := Lib.hid (by unfold aloneE; rw [hc.len])
  rw [hc.len] at HM
  obtain ⟨r, hr⟩ : ∃ r, r = aloneE E := ⟨_, rfl⟩
  rw [← hr] at HR ⊢
  obtain ⟨O, hO⟩ : ∃ O, O = E.owner := ⟨_, rfl⟩
  rw [← hO] at HM HR ⊢
  obtain ⟨m, hm⟩ : ∃ m, m = mayE E (n : Int) := ⟨_, rfl⟩
  rw [← hm] at HM HR
  obtain ⟨t, ht⟩ : ∃ t, t = E.share.contains true := ⟨_, rfl⟩
  rw [← ht] at HCO HR
  clear hr hO hc hm ht
  obtain ⟨w0, hw0⟩ : ∃ w0, w0 = w.alloc (.cells #[.int .i64 O, .slice p n c] 24) := ⟨_, rfl⟩
  have HB0 : Hid (Below w.heap.size w w0) := Lib.hid (by rw [hw0]; exact (Below.refl _ _).alloc (Nat.le_refl _) _)
  have HA0 : Hid (Blk w0 w.heap.size #[.int .i64 O, .slice p n c]) := Lib.hid (by rw [hw0]; exact Blk.new _ _ _)
  have HW0 := Lib.hid hw0
  have HQ := Lib.hid (HM.out w0 HB0.out)
  clear hw0 HM
  go_enter Try.func20, Try.ntmps20
  have kA := HA0.out.c
  go_upto_region 1 with fail
  rw [← HW0.out]
  clear HW0
  cases m with
  | false =>
    have e : r = false := HR.out
    subst e
    clear HR
    go_wp2_with fail
    refine HQ.out.mono ?_
    rintro e w1 ⟨rfl, hb1⟩
    have HB1 : Hid (Below w.heap.size w w1) := Lib.hid (HB0.out.trans (hb1.mono HB0.out.size))
    clear hb1 kA HA0 HQ HB0
    go_wp2_with fail
    go_ret
    exact ⟨rfl, HB1.out⟩
  | true =>
    by_cases h1 : 0 < O
    · have d1 : decide (0 < O) = true := decide_eq_true h1
      have e : r = !t := by rw [HR.out, d1]; rfl
      subst e
      clear HR h1
      go_wp2_with fail
      refine HQ.out.mono ?_
      rintro e w1 ⟨rfl, hb1⟩
      have HB1 : Hid (Below w.heap.size w w1) := Lib.hid (HB0.out.trans (hb1.mono HB0.out.size))
      have HA1 := Lib.hid (HA0.out.below hb1)
      clear hb1 kA HA0 HQ HB0
      have kA := HA1.out.c
      have hq := HCO.out w1 HB1.out
      go_wp2_with fail
      refine hq.mono ?_
      rintro e w2 ⟨rfl, hb2⟩
      have HB2 : Hid (Below w.heap.size w w2) := Lib.hid (HB1.out.trans (hb2.mono HB1.out.size))
      clear hb2 kA HA1 HB1 hq
      go_wp2_with fail
      go_ret
      exact ⟨rfl, HB2.out⟩
    · have d1 : decide (0 < O) = false := decide_eq_false h1
      have e : r = false := by rw [HR.out, d1]; rfl
      subst e
      clear HR h1
      go_wp2_with fail
      refine HQ.out.mono ?_
      rintro e w1 ⟨rfl, hb1⟩
      have HB1 : Hid (Below w.heap.size w w1) := Lib.hid (HB0.out.trans (hb1.mono HB0.out.size))
      have HA1 := Lib.hid (HA0.out.below hb1)
      clear hb1 kA HA0 HQ HB0
      have kA := HA1.out.c
      go_wp2_with fail
      go_ret
      exact ⟨rfl, HB1.out⟩
end Go.Proofs.Ythkpoiaakggimaa
