/- What those that are held tell, a copy of a gate, and a call's own gate, by the program; no condition but that they read. -/
import Derived.Test.YteffmidpinlpjaaCmC
import Derived.Test.YteffmidpinlpjaaCmD
import Derived.Test.YteffmidpinlpjaaCmF
namespace Go.Proofs.Yteffmidpinlpjaa
set_option linter.unusedVariables false
set_option linter.unusedSimpArgs false
open Go.ChangeShapes Go.WideShapes Go.ChangeAt Go.RowKit

theorem map_take_td (l : List Hd) (k : Nat) (hk : k < l.length) : (l.take (k + 1)).map Hd.td = (l.take k).map Hd.td ++ [(l.getD k zH).td] := by
  rw [take_getD l zH k hk, List.map_append]; rfl
set_option maxHeartbeats 4000000 in
set_option maxRecDepth 100000 in
theorem told_any (p : Option Addr) (n c : Nat) (l : List Hd) (w : World) (hl : l.length = n) (hs : Sl w p n (hdC l)) (hn : n ≤ 10000) :
    Calls Try.prog 24 #[.slice p n c] w fun e w' => ∃ q d, e = .returned (.slice q n d) ∧ w'.ownsRow w.heap.size 28 2 (.slice q n d) n (tdC (l.map Hd.td)) ∧ Below w.heap.size w w' := by
  have HAT : Hid (∀ k, k < n → ∃ b off, p = some ⟨b, off, none⟩ ∧ HdAt w b off k (l.getD k zH)) := Lib.hid (fun k hk => hd_at hs hl k hk)
  have HT : Hid (∀ k, k < n → tdC ((l.take (k + 1)).map Hd.td) = tdC ((l.take k).map Hd.td) ++ tdC [(l.getD k zH).td]) := Lib.hid (fun k hk => by rw [map_take_td l k (by omega), tdC_app])
  have HALL : Hid ((l.take n).map Hd.td = l.map Hd.td) := Lib.hid (by rw [← hl, List.take_length])
  obtain ⟨i0, hi, hz0, hz1, hz2⟩ := info_parts infoT
  have HI := Lib.hid (And.intro hi (And.intro hz0 (And.intro hz1 hz2)))
  clear hs hl hi hz0 hz1 hz2
  go_enter Try.func24, Try.ntmps24
  go_upto_region 3 with fail
  go_loopw [3, 8] (fun v i wr => ∃ k : Nat, k ≤ n ∧ i = .int .i64 k ∧ (∃ q d, v = .slice q k d ∧ wr.ownsRow w.heap.size 28 2 (.slice q k d) k (tdC ((l.take k).map Hd.td))) ∧ Below w.heap.size w wr) (fun _ i _ => n - (intOf i).toNat)
  case atStart => exact ⟨0, Nat.zero_le _, rfl, ⟨none, 0, rfl, by rw [List.take_zero]; exact World.ownsRow_nil _ _ _ _⟩, Below.refl _ _⟩
  case round =>
    obtain ⟨k, hk, rfl, ⟨q, d, rfl, ho⟩, hb⟩ := hrel
    have HO := Lib.hid ho
    have HB := Lib.hid hb
    clear ho hb
    by_cases hlt : k < n
    · obtain ⟨b, off, rfl, hat⟩ := HAT.out k hlt
      obtain ⟨l0, c0, c1, c2⟩ := hat.below HB.out
      have hkI : (k : Int) < (n : Int) := by omega
      have HTK := Lib.hid (HT.out k hlt)
      obtain ⟨y, hy⟩ : ∃ y, y = l.getD k zH := ⟨_, rfl⟩
      rw [← hy] at c0 c1 c2 HTK
      obtain ⟨⟨yc, yv⟩, ys⟩ := y
      dsimp only at c0 c1 c2 HTK
      clear hat hy
      go_upto_region 5 with fail
      obtain ⟨w1, hw1⟩ : ∃ z, z = wr.alloc (.cells #[.int .i64 yc, .int .u32 yv, .int .i64 ys] 52) := ⟨_, rfl⟩
      have HX : Hid (Blk w1 wr.heap.size #[.int .i64 yc, .int .u32 yv, .int .i64 ys]) := Lib.hid (by rw [hw1]; exact Blk.new _ _ _)
      have HB1 : Hid (Below wr.heap.size wr w1) := Lib.hid (by rw [hw1]; exact (Below.refl _ _).alloc (Nat.le_refl _) _)
      obtain ⟨bx, hbx⟩ : ∃ z, z = wr.heap.size := ⟨_, rfl⟩
      rw [← hbx] at HX ⊢
      rw [← hw1]
      have HO1 := Lib.hid (own_below HO.out HB1.out)
      have HBW : Hid (Below w.heap.size w w1) := Lib.hid (HB.out.trans (HB1.out.mono HB.out.size))
      clear hw1 hbx c0 c1 c2 HB1 HO HB
      have kX := HX.out.c
      go_upto_region 6 with (first | (at_builtin; refine wpList_append_sl rfl _ _ 23 rfl w.heap.size 28 i0 _ 2 16 Try.underlying23 HI.out.1 HI.out.2.1 HI.out.2.2.1 HI.out.2.2.2 rfl (by decide) _ k (tdC ((l.take k).map Hd.td)) rfl (own_below HO1.out ((Below.refl _ _).alloc (Nat.le_refl _) _)) (some ⟨w1.heap.size, 0, none⟩) 1 1 (tdC [⟨yc, yv⟩]) rfl rfl (blk_sl (Blk.new _ _ _)) (tdC_one _) (by unfold maxLen; omega) (by omega) (by have := HBW.out.size; rw [World.size_alloc]; omega) ?_; intro v' w2 g1 g2 g3; obtain ⟨q', d', rfl, -⟩ := own_cap g1; have HO2 := Lib.hid g1; have HB2 : Hid (Below w.heap.size w w2) := Lib.hid ((HBW.out.alloc HBW.out.size _).grown g2 (by have := HBW.out.size; rw [World.size_alloc]; omega) (fun k hk => (HO1.out.lt k hk).1)); clear g1 g2 g3 kX))
      clear HO1 HBW HX
      go_wp2_with fail
      go_roundw
      case rel => exact ⟨k + 1, by omega, by go_num, ⟨q', d', rfl, by rw [HTK.out]; exact HO2.out⟩, HB2.out⟩
      case measure => simp [intOf]; omega
    · have hkn : k = n := by omega
      have hltI : ¬ (k : Int) < (n : Int) := by omega
      have HO2 : Hid (wr.ownsRow w.heap.size 28 2 (.slice q n d) n (tdC (l.map Hd.td))) := Lib.hid (by rw [← HALL.out, ← hkn]; exact HO.out)
      have HKN := Lib.hid hkn
      clear hkn
      go_wp2_with fail
      go_ret
      exact ⟨q, d, by rw [← HKN.out]; rfl, HO2.out, HB.out⟩
set_option maxHeartbeats 4000000 in
theorem copied_any (p q : Option Addr) (m c n d : Nat) (L : Gt) (w : World) (h : Lc w p m c q n d L) :
    Calls Try.prog 19 #[.agg #[.slice p m c, .slice q n d]] w fun e w' => ∃ p' c' q' d', e = .returned (.agg #[.slice p' m c', .slice q' n d']) ∧ OwnL (w.heap.size + 2) w' p' m c' q' n d' L ∧ Below w.heap.size w w' := by
  have HC := Lib.hid h
  have HCM := Lib.hid (fun W hW => cloneH_any p m c L.held W h.ml (h.ms.below (w := w) (w' := W) hW) h.m10 h.mc)
  have HCU := Lib.hid (fun W hW => cloneT_any q n d L.out W h.ll (h.ls.below (w := w) (w' := W) hW) h.n10 h.nd)
  have HFIN : Hid (∀ w' p' c' q' d', w'.ownsRow (w.heap.size + 2) 52 3 (.slice p' m c') m (hdC L.held) → w'.ownsRow (w.heap.size + 2) 28 2 (.slice q' n d') n (tdC L.out) → (∀ g, (Value.slice p' m c').ownBlock = some g → (Value.slice q' n d').ownBlock ≠ some g) → OwnL (w.heap.size + 2) w' p' m c' q' n d' L) := Lib.hid (fun w' p' c' q' d' h1 h2 h3 => ⟨h1, h2, h3, h.m10, h.n10⟩)
  obtain ⟨A, hA⟩ : ∃ A, A = hdC L.held := ⟨_, rfl⟩
  rw [← hA] at HCM HFIN
  obtain ⟨B, hB⟩ : ∃ B, B = tdC L.out := ⟨_, rfl⟩
  rw [← hB] at HCU HFIN
  clear hA hB h HC
  obtain ⟨w0, hw0⟩ : ∃ w0, w0 = (w.alloc (.cells #[.slice p m c, .slice q n d] 25)).alloc (.cells #[.slice none 0 0, .slice none 0 0] 25) := ⟨_, rfl⟩
  have HB0 : Hid (Below w.heap.size w w0) := Lib.hid (by rw [hw0]; exact ((Below.refl _ _).alloc (Nat.le_refl _) _).alloc (by simp) _)
  have HA0 : Hid (Blk w0 w.heap.size #[.slice p m c, .slice q n d]) := Lib.hid (by rw [hw0]; exact (Blk.new _ _ _).alloc _)
  have HT0 : Hid (Blk w0 (w.heap.size + 1) #[.slice none 0 0, .slice none 0 0]) := Lib.hid (by
    have := Blk.new (w.alloc (.cells #[.slice p m c, .slice q n d] 25)) #[.slice none 0 0, .slice none 0 0] 25
    rw [World.size_alloc] at this
    rw [hw0]; exact this)
  have HSZ : Hid (w0.heap.size = w.heap.size + 2) := Lib.hid (by rw [hw0, World.size_alloc, World.size_alloc])
  have HW0 := Lib.hid hw0
  clear hw0
  have HS : Hid (∀ V, Below w0.heap.size w0 V → ∀ t, V.cell? ⟨w.heap.size, t, none⟩ = (#[.slice p m c, .slice q n d] : Array Value)[t]?) := Lib.hid (fun V hV => (HA0.out.below hV).c)
  go_enter Try.func19, Try.ntmps19
  go_upto_region 1 with fail
  rw [← HW0.out]
  clear HW0
  refine region_plan (fun V : World => ∀ t, V.cell? ⟨w.heap.size, t, none⟩ = (#[.slice p m c, .slice q n d] : Array Value)[t]?) 6 [(0, true), (1, true), (3, true), (4, true), (2, false), (5, false)] (by kernel_rfl) (by kernel_rfl) (HS.out _ (Below.refl _ _).drew) ?_
  iterate 4
    refine plan_read (v := ?_) rfl (by rfl) ?_ ?_
    rotate_left
    · intro w' hS
      try dsimp only at hS
      go_simp
      try with_reducible rfl
    try simp only [Act.put, List.setIfInBounds_toArray, List.set_cons_zero, List.set_cons_succ, List.getElem_toArray, List.getElem_cons_zero, List.getElem_cons_succ]
  refine plan_call (F := 29) (args := ?_) rfl (by rfl) ?_ ?_
  rotate_left
  · go_simp
    rfl
  refine (HCM.out w0.drew HB0.out.drew).mono ?_
  rintro e w1 ⟨r, rfl, hr, hb⟩
  have HB1 : Hid (Below w0.heap.size w0 w1) := Lib.hid ((Below.refl _ _).drew.trans hb)
  have HR : Hid (w1.ownsRow (w.heap.size + 2) 52 3 r m A) := Lib.hid (own_base hr (by show w.heap.size + 2 ≤ w0.heap.size; rw [HSZ.out]; exact Nat.le_refl _))
  have HRL : Hid (∀ g, r.ownBlock = some g → g < w1.heap.size) := Lib.hid (fun g e => (hr.lt g e).2)
  clear hr hb
  obtain ⟨p', c', rfl, -⟩ := own_cap HR.out
  refine ⟨_, rfl, HS.out _ HB1.out, ?_⟩
  try simp only [Act.put, List.setIfInBounds_toArray, List.set_cons_zero, List.set_cons_succ, List.getElem_toArray, List.getElem_cons_zero, List.getElem_cons_succ]
  refine plan_call (F := 30) (args := ?_) rfl (by rfl) ?_ ?_
  rotate_left
  · go_simp
    rfl
  refine (HCU.out w1 (HB0.out.trans (HB1.out.mono HB0.out.size))).mono ?_
  rintro e w2 ⟨r, rfl, hr, hb⟩
  have HB2 : Hid (Below w0.heap.size w0 w2) := Lib.hid (HB1.out.trans (hb.mono HB1.out.size))
  have HR2 := Lib.hid (own_below HR.out hb)
  have HU : Hid (w2.ownsRow (w.heap.size + 2) 28 2 r n B) := Lib.hid (own_base hr (by have := HB1.out.size; have := HSZ.out; omega))
  have HUL : Hid (∀ g, r.ownBlock = some g → w1.heap.size ≤ g) := Lib.hid (fun g e => (hr.lt g e).1)
  clear hr hb
  obtain ⟨q', d', rfl, -⟩ := own_cap HU.out
  refine ⟨_, rfl, HS.out _ HB2.out, ?_⟩
  try simp only [Act.put, List.setIfInBounds_toArray, List.set_cons_zero, List.set_cons_succ, List.getElem_toArray, List.getElem_cons_zero, List.getElem_cons_succ]
  refine plan_nil ?_
  simp only [List.drop_succ_cons, List.drop_zero]
  have HT1 := Lib.hid (HT0.out.below HB2.out)
  have HBW : Hid (Below w.heap.size w w2) := Lib.hid (HB0.out.trans (HB2.out.mono HB0.out.size))
  have HOL := Lib.hid (HFIN.out w2 p' c' q' d' HR2.out HU.out (fun g e e2 => by have h1 := HRL.out g e; have h2 := HUL.out g e2; omega))
  clear HS HT0 HB0 HB1 HA0 HCM HCU HSZ HFIN HR HR2 HU HUL HRL HB2
  have cT := HT1.out.c
  have fT := HT1.out.f
  have lT := HT1.out.lt
  go_wp2_with fail
  exact bodyPost_ret (v := .agg #[.slice p' m c', .slice q' n d']) (by simp [results, Try.results19, go_sem, *]) rfl ⟨_, _, _, _, rfl, HOL.out.setOff2 (by omega) _ _, set2_below HBW.out (by omega) _ _⟩

/-- A call's own copy of a gate, in a variable bo, beside the result's, bt. -/
structure St (w W : World) (bt bo : Nat) (p : Option Addr) (m c : Nat) (q : Option Addr) (n d : Nat) (M : List Hd) (l : List Td) : Prop where
  ht : Blk W bt #[.slice none 0 0, .slice none 0 0]
  hk : Blk W bo #[.slice p m c, .slice q n d]
  ho : OwnL (bt + 1) W p m c q n d ⟨M, l⟩
  hb : Below w.heap.size w W
  gt : w.heap.size ≤ bt
  ge : bt + 1 ≤ bo
  np : ∀ g, (Value.slice p m c).ownBlock = some g → g ≠ bo
  nq : ∀ g, (Value.slice q n d).ownBlock = some g → g ≠ bo
theorem St.below {w W W' : World} {bt bo : Nat} {p q : Option Addr} {m c n d : Nat} {M : List Hd} {l : List Td} (h : St w W bt bo p m c q n d M l) (hb : Below W.heap.size W W') : St w W' bt bo p m c q n d M l :=
  ⟨h.ht.below hb, h.hk.below hb, h.ho.below hb, h.hb.trans (hb.mono h.hb.size), h.gt, h.ge, h.np, h.nq⟩
theorem St.make {w w1 : World} {bt : Nat} {p q : Option Addr} {m c n d : Nat} {M : List Hd} {l : List Td} (h : OwnL (bt + 1) w1 p m c q n d ⟨M, l⟩) (hb : Below w.heap.size w w1) (ht : Blk w1 bt #[.slice none 0 0, .slice none 0 0]) (hg : w.heap.size ≤ bt) (hs : bt + 1 ≤ w1.heap.size) :
    St w (w1.alloc (.cells #[.slice p m c, .slice q n d] 25)) bt w1.heap.size p m c q n d M l :=
  ⟨ht.alloc _, Blk.new _ _ _, h.below ((Below.refl _ _).alloc (Nat.le_refl _) _), hb.alloc hb.size _, hg, hs, fun g e => by have := (h.mo.lt g e).2; omega, fun g e => by have := (h.lo.lt g e).2; omega⟩
theorem St.lo {w W : World} {bt bo : Nat} {p q : Option Addr} {m c n d : Nat} {M : List Hd} {l : List Td} (h : St w W bt bo p m c q n d M l) : Lo (fun R => R < bt + 1) W (.agg #[.slice p m c, .slice q n d]) ⟨M, l⟩ := h.ho.out (fun R hR => hR)
theorem St.out {S : Nat → Prop} {w W : World} {bt bo : Nat} {p q : Option Addr} {m c n d : Nat} {M : List Hd} {l : List Td} (h : St w W bt bo p m c q n d M l) (hS : ∀ R, S R → R < w.heap.size) (X : Int) {L : Gt} {E : Int} (hL : L = ⟨M, l⟩) (hE : E = X) :
    OutL S w ((W.setCell ⟨bt, 0, none⟩ (.slice p m c)).setCell ⟨bt, 1, none⟩ (.slice q n d)) (.returned (.tuple #[.agg #[.slice p m c, .slice q n d], .int .i64 X])) L E := by
  subst hL hE
  exact ⟨_, rfl, (h.ho.setOff2 (by omega) _ _).out (fun R hR => by have := hS R hR; have := h.gt; omega), set2_below h.hb h.gt _ _⟩
/-- What is held has become another list, and is stored. -/
theorem St.held {w W W' : World} {bt bo : Nat} {p q p' : Option Addr} {m c n d m' c' : Nat} {M M' : List Hd} {l : List Td} (h : St w W bt bo p m c q n d M l) (hn : m' ≤ 10000)
    (ho : W'.ownsRow (bt + 1) 52 3 (.slice p' m' c') m' (hdC M')) (hg : W.grownBy W' (Value.slice p m c).ownBlock) (hb : (Value.slice p' m' c').ownBlock = (Value.slice p m c).ownBlock ∨ (∀ g, (Value.slice p' m' c').ownBlock = some g → W.heap.size ≤ g)) :
    St w (W'.setCell ⟨bo, 0, none⟩ (.slice p' m' c')) bt bo p' m' c' q n d M' l := by
  have hk' : Blk W' bo #[.slice p m c, .slice q n d] := h.hk.grown hg (fun e => h.np bo e rfl)
  have hlt := h.hk.lt
  have np' : ∀ g, (Value.slice p' m' c').ownBlock = some g → g ≠ bo := fun g e => by
    rcases hb with hb | hb
    · exact h.np g (by rw [← hb]; exact e)
    · have := hb g e; omega
  have hlo : W'.ownsRow (bt + 1) 28 2 (.slice q n d) n (tdC l) := by
    refine h.ho.lo.kept hg ?_
    cases hv : (Value.slice q n d).ownBlock with
    | none => exact .inl rfl
    | some b => exact .inr (fun e => h.ho.sep b e.symm hv)
  refine ⟨(h.ht.grown hg (fun e => by have := (h.ho.mo.lt _ e).1; omega)).other _ (by have := h.ge; omega), hk'.set (n := 0) _ (by simp), ⟨own_off ho np' _ _, own_off hlo h.nq _ _, fun g e e2 => ?_, hn, h.ho.n10⟩, ?_, h.gt, h.ge, np', h.nq⟩
  · rcases hb with hb | hb
    · exact h.ho.sep g (by rw [← hb]; exact e) e2
    · have := hb g e
      have := (h.ho.lo.lt g e2).2
      omega
  · exact (h.hb.grown hg h.hb.size (fun g e => by have := (h.ho.mo.lt g e).1; have := h.gt; omega)).setCell (p := ⟨bo, 0, none⟩) (by show w.heap.size ≤ bo; have := h.ge; have := h.gt; omega) _
/-- What was let out has become another list, and is stored. -/
theorem St.outs {w W W' : World} {bt bo : Nat} {p q q' : Option Addr} {m c n d n' d' : Nat} {M : List Hd} {l l' : List Td} (h : St w W bt bo p m c q n d M l) (hn : n' ≤ 10000)
    (ho : W'.ownsRow (bt + 1) 28 2 (.slice q' n' d') n' (tdC l')) (hg : W.grownBy W' (Value.slice q n d).ownBlock) (hb : (Value.slice q' n' d').ownBlock = (Value.slice q n d).ownBlock ∨ (∀ g, (Value.slice q' n' d').ownBlock = some g → W.heap.size ≤ g)) :
    St w (W'.setCell ⟨bo, 1, none⟩ (.slice q' n' d')) bt bo p m c q' n' d' M l' := by
  have hk' : Blk W' bo #[.slice p m c, .slice q n d] := h.hk.grown hg (fun e => h.nq bo e rfl)
  have hlt := h.hk.lt
  have nq' : ∀ g, (Value.slice q' n' d').ownBlock = some g → g ≠ bo := fun g e => by
    rcases hb with hb | hb
    · exact h.nq g (by rw [← hb]; exact e)
    · have := hb g e; omega
  have hmo : W'.ownsRow (bt + 1) 52 3 (.slice p m c) m (hdC M) := by
    refine h.ho.mo.kept hg ?_
    cases hv : (Value.slice p m c).ownBlock with
    | none => exact .inl rfl
    | some b => exact .inr (fun e => h.ho.sep b hv e.symm)
  refine ⟨(h.ht.grown hg (fun e => by have := (h.ho.lo.lt _ e).1; omega)).other _ (by have := h.ge; omega), hk'.set (n := 1) _ (by simp), ⟨own_off hmo h.np _ _, own_off ho nq' _ _, fun g e e2 => ?_, h.ho.m10, hn⟩, ?_, h.gt, h.ge, h.np, nq'⟩
  · rcases hb with hb | hb
    · exact h.ho.sep g e (by rw [← hb]; exact e2)
    · have := hb g e2
      have := (h.ho.mo.lt g e).2
      omega
  · exact (h.hb.grown hg h.hb.size (fun g e => by have := (h.ho.lo.lt g e).1; have := h.gt; omega)).setCell (p := ⟨bo, 1, none⟩) (by show w.heap.size ≤ bo; have := h.ge; have := h.gt; omega) _
end Go.Proofs.Yteffmidpinlpjaa
