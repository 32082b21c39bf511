/- Whether a log is right, how much room it has, and a copy of it, by the program; no condition but that it reads. -/
import Derived.Test.YtbgllkjhgjoodaaUnE
namespace Go.Proofs.Ytbgllkjhgjoodaa
set_option linter.unusedVariables false
open Go.ChangeShapes Go.WideShapes Go.ChangeAt Go.RowKit Go.Maps


set_option maxHeartbeats 2000000 in
theorem cloneM_any (p : Option Addr) (n c : Nat) (l : List Int) (w : World) (hl : l.length = n) (hs : Sl w p n (wdC l)) (hm : n ≤ 10000) (hcn : n ≤ c) :
    Calls Try.prog 34 #[.slice p n c] w fun e w' => ∃ r, e = .returned r ∧ w'.ownsRow w.heap.size 26 1 r n (wdC l) ∧ Below w.heap.size w w' := by
  obtain ⟨i0, hi, hz0, hz1, hz2⟩ := info_parts info26
  have HI := Lib.hid (And.intro hi (And.intro hz0 (And.intro hz1 hz2)))
  have HS := Lib.hid hs
  have HL := Lib.hid hl
  clear hs hl hi hz0 hz1 hz2
  have hq : ∀ W, (binOp .eql 22 (.slice p n c) (.slice none 0 0)).run Try.prog W = .ok (.bool p.isNone) W := fun W => Lib.run_eql_slice_nil W _ 26 _ _ _ _ _ Try.underlying22
  cases p with
  | none =>
    have h0 : n = 0 := by
      rcases Nat.eq_zero_or_pos n with h0 | h0
      · exact h0
      · obtain ⟨b, off, _, h2, _⟩ := HS.out h0
        cases h2
    subst h0
    have hl : l = [] := List.eq_nil_of_length_eq_zero HL.out
    subst hl
    clear HS HL hcn HI
    simp only [Option.isNone_none, Option.isNone_some] at hq
    go_enter Try.func34, Try.ntmps34
    go_wp2
    go_ret
    exact ⟨_, rfl, World.ownsRow_nil _ _ _ _, Below.refl _ _⟩
  | some a =>
    simp only [Option.isNone_none, Option.isNone_some] at hq
    go_enter Try.func34, Try.ntmps34
    go_wp2_with (first | (at_builtin; refine wpList_append_sl rfl _ _ 22 rfl w.heap.size 26 i0 _ 1 4 Try.underlying22 HI.out.1 HI.out.2.1 HI.out.2.2.1 HI.out.2.2.2 rfl (by decide) _ 0 [] rfl (fresh_made (Nat.le_refl _)) (some a) n c (wdC l) rfl (by rw [wdC_len, HL.out]; omega) (HS.out.below ((Below.refl _ _).alloc (Nat.le_refl _) _)) (wdC_one _) (by unfold maxLen; omega) (by omega) (by simp) ?_))
    intro v' w' g1 g2 g3
    have HG : Hid (w'.ownsRow w.heap.size 26 1 v' n (wdC l)) := Lib.hid (by simpa using g1)
    have HB : Hid (Below w.heap.size w w') := Lib.hid (((Below.refl w.heap.size w).alloc (Nat.le_refl _) _).grown g2 (by simp) (fun k hk => by simp [Value.ownBlock] at hk; omega))
    clear g1 g2 g3
    go_wp2
    go_ret
    exact ⟨_, rfl, HG.out, HB.out⟩

set_option maxHeartbeats 2000000 in
theorem cloneU_any (p : Option Addr) (n c : Nat) (l : List Un) (w : World) (hl : l.length = n) (hs : Sl w p n (unC l)) (hm : n ≤ 10000) (hcn : n ≤ c) :
    Calls Try.prog 35 #[.slice p n c] w fun e w' => ∃ r, e = .returned r ∧ w'.ownsRow w.heap.size 51 3 r n (unC l) ∧ Below w.heap.size w w' := by
  obtain ⟨i0, hi, hz0, hz1, hz2⟩ := info_parts info51
  have HI := Lib.hid (And.intro hi (And.intro hz0 (And.intro hz1 hz2)))
  have HS := Lib.hid hs
  have HL := Lib.hid hl
  clear hs hl hi hz0 hz1 hz2
  have hq : ∀ W, (binOp .eql 23 (.slice p n c) (.slice none 0 0)).run Try.prog W = .ok (.bool p.isNone) W := fun W => Lib.run_eql_slice_nil W _ 51 _ _ _ _ _ Try.underlying23
  cases p with
  | none =>
    have h0 : n = 0 := by
      rcases Nat.eq_zero_or_pos n with h0 | h0
      · exact h0
      · obtain ⟨b, off, _, h2, _⟩ := HS.out h0
        cases h2
    subst h0
    have hl : l = [] := List.eq_nil_of_length_eq_zero HL.out
    subst hl
    clear HS HL hcn HI
    simp only [Option.isNone_none, Option.isNone_some] at hq
    go_enter Try.func35, Try.ntmps35
    go_wp2
    go_ret
    exact ⟨_, rfl, World.ownsRow_nil _ _ _ _, Below.refl _ _⟩
  | some a =>
    simp only [Option.isNone_none, Option.isNone_some] at hq
    go_enter Try.func35, Try.ntmps35
    go_wp2_with (first | (at_builtin; refine wpList_append_sl rfl _ _ 23 rfl w.heap.size 51 i0 _ 3 24 Try.underlying23 HI.out.1 HI.out.2.1 HI.out.2.2.1 HI.out.2.2.2 rfl (by decide) _ 0 [] rfl (fresh_made (Nat.le_refl _)) (some a) n c (unC l) rfl (by rw [unC_len, HL.out]) (HS.out.below ((Below.refl _ _).alloc (Nat.le_refl _) _)) (unC_oneCell _) (by unfold maxLen; omega) (by omega) (by simp) ?_))
    intro v' w' g1 g2 g3
    have HG : Hid (w'.ownsRow w.heap.size 51 3 v' n (unC l)) := Lib.hid (by simpa using g1)
    have HB : Hid (Below w.heap.size w w') := Lib.hid (((Below.refl w.heap.size w).alloc (Nat.le_refl _) _).grown g2 (by simp) (fun k hk => by simp [Value.ownBlock] at hk; omega))
    clear g1 g2 g3
    go_wp2
    go_ret
    exact ⟨_, rfl, HG.out, HB.out⟩

set_option maxHeartbeats 4000000 in
theorem copied_any (p q : Option Addr) (m c n d : Nat) (L : Lg) (w : World) (h : Lc w p m c q n d L) :
    Calls Try.prog 21 #[.agg #[.slice p m c, .int .i64 L.span, .slice q n d]] w fun e w' => ∃ p' c' q' d', e = .returned (.agg #[.slice p' m c', .int .i64 L.span, .slice q' n d']) ∧ OwnL (w.heap.size + 2) w' p' m c' q' n d' L ∧ Below w.heap.size w w' := by
  have HC := Lib.hid h
  have HCM := Lib.hid (fun W hW => cloneM_any p m c L.mem W h.ml (h.ms.below (w := w) (w' := W) hW) h.m10 h.mc)
  have HCU := Lib.hid (fun W hW => cloneU_any q n d L.list W h.ll (h.ls.below (w := w) (w' := W) hW) h.n10 h.nd)
  have HFIN : Hid (∀ w' p' c' q' d', w'.ownsRow (w.heap.size + 2) 26 1 (.slice p' m c') m (wdC L.mem) → w'.ownsRow (w.heap.size + 2) 51 3 (.slice q' n d') n (unC L.list) → (∀ g, (Value.slice p' m c').ownBlock = some g → (Value.slice q' n d').ownBlock ≠ some g) → OwnL (w.heap.size + 2) w' p' m c' q' n d' L) := Lib.hid (fun w' p' c' q' d' h1 h2 h3 => ⟨h1, h2, h3, h.m10, h.n10⟩)
  obtain ⟨s, hs⟩ : ∃ s, s = L.span := ⟨_, rfl⟩
  rw [← hs]
  obtain ⟨A, hA⟩ : ∃ A, A = wdC L.mem := ⟨_, rfl⟩
  rw [← hA] at HCM HFIN
  obtain ⟨B, hB⟩ : ∃ B, B = unC L.list := ⟨_, rfl⟩
  rw [← hB] at HCU HFIN
  clear hs hA hB h HC
  obtain ⟨w0, hw0⟩ : ∃ w0, w0 = (w.alloc (.cells #[.slice p m c, .int .i64 s, .slice q n d] 25)).alloc (.cells #[.slice none 0 0, .int .i64 0, .slice none 0 0] 25) := ⟨_, rfl⟩
  have HB0 : Hid (Below w.heap.size w w0) := Lib.hid (by rw [hw0]; exact ((Below.refl _ _).alloc (Nat.le_refl _) _).alloc (by simp) _)
  have HA0 : Hid (Blk w0 w.heap.size #[.slice p m c, .int .i64 s, .slice q n d]) := Lib.hid (by rw [hw0]; exact (Blk.new _ _ _).alloc _)
  have HT0 : Hid (Blk w0 (w.heap.size + 1) #[.slice none 0 0, .int .i64 0, .slice none 0 0]) := Lib.hid (by
    have := Blk.new (w.alloc (.cells #[.slice p m c, .int .i64 s, .slice q n d] 25)) #[.slice none 0 0, .int .i64 0, .slice none 0 0] 25
    rw [World.size_alloc] at this
    rw [hw0]; exact this)
  have HSZ : Hid (w0.heap.size = w.heap.size + 2) := Lib.hid (by rw [hw0, World.size_alloc, World.size_alloc])
  have HW0 := Lib.hid hw0
  clear hw0
  have HS : Hid (∀ V, Below w0.heap.size w0 V → ∀ t, V.cell? ⟨w.heap.size, t, none⟩ = (#[.slice p m c, .int .i64 s, .slice q n d] : Array Value)[t]?) := Lib.hid (fun V hV => (HA0.out.below hV).c)
  go_enter Try.func21, Try.ntmps21
  go_upto_region 1 with fail
  rw [← HW0.out]
  clear HW0
  refine region_plan (fun V : World => ∀ t, V.cell? ⟨w.heap.size, t, none⟩ = (#[.slice p m c, .int .i64 s, .slice q n d] : Array Value)[t]?) 8 [(0, true), (1, true), (3, true), (4, true), (5, true), (6, true), (2, false), (7, false)] (by kernel_rfl) (by kernel_rfl) (HS.out _ (Below.refl _ _).drew) ?_
  iterate 6
    refine plan_read (v := ?_) rfl (by rfl) ?_ ?_
    rotate_left
    · intro w' hS
      try dsimp only at hS
      go_simp
      try with_reducible rfl
    try simp only [Act.put, List.setIfInBounds_toArray, List.set_cons_zero, List.set_cons_succ, List.getElem_toArray, List.getElem_cons_zero, List.getElem_cons_succ]
  refine plan_call (F := 34) (args := ?_) rfl (by rfl) ?_ ?_
  rotate_left
  · go_simp
    rfl
  refine (HCM.out w0.drew HB0.out.drew).mono ?_
  rintro e w1 ⟨r, rfl, hr, hb⟩
  have HB1 : Hid (Below w0.heap.size w0 w1) := Lib.hid ((Below.refl _ _).drew.trans hb)
  have HR : Hid (w1.ownsRow (w.heap.size + 2) 26 1 r m A) := Lib.hid (own_base hr (by show w.heap.size + 2 ≤ w0.heap.size; rw [HSZ.out]; exact Nat.le_refl _))
  have HRL : Hid (∀ g, r.ownBlock = some g → g < w1.heap.size) := Lib.hid (fun g e => (hr.lt g e).2)
  clear hr hb
  obtain ⟨p', c', rfl, -⟩ := own_cap HR.out
  refine ⟨_, rfl, HS.out _ HB1.out, ?_⟩
  try simp only [Act.put, List.setIfInBounds_toArray, List.set_cons_zero, List.set_cons_succ, List.getElem_toArray, List.getElem_cons_zero, List.getElem_cons_succ]
  refine plan_call (F := 35) (args := ?_) rfl (by rfl) ?_ ?_
  rotate_left
  · go_simp
    rfl
  refine (HCU.out w1 (HB0.out.trans (HB1.out.mono HB0.out.size))).mono ?_
  rintro e w2 ⟨r, rfl, hr, hb⟩
  have HB2 : Hid (Below w0.heap.size w0 w2) := Lib.hid (HB1.out.trans (hb.mono HB1.out.size))
  have HR2 := Lib.hid (own_below HR.out hb)
  have HU : Hid (w2.ownsRow (w.heap.size + 2) 51 3 r n B) := Lib.hid (own_base hr (by have := HB1.out.size; have := HSZ.out; omega))
  have HUL : Hid (∀ g, r.ownBlock = some g → w1.heap.size ≤ g) := Lib.hid (fun g e => (hr.lt g e).1)
  clear hr hb
  obtain ⟨q', d', rfl, -⟩ := own_cap HU.out
  refine ⟨_, rfl, HS.out _ HB2.out, ?_⟩
  try simp only [Act.put, List.setIfInBounds_toArray, List.set_cons_zero, List.set_cons_succ, List.getElem_toArray, List.getElem_cons_zero, List.getElem_cons_succ]
  refine plan_nil ?_
  simp only [List.drop_succ_cons, List.drop_zero]
  have HT1 := Lib.hid (HT0.out.below HB2.out)
  have HBW : Hid (Below w.heap.size w w2) := Lib.hid (HB0.out.trans (HB2.out.mono HB0.out.size))
  have HOL := Lib.hid (HFIN.out w2 p' c' q' d' HR2.out HU.out (fun g e e2 => by have h1 := HRL.out g e; have h2 := HUL.out g e2; omega))
  clear HS HT0 HB0 HB1 HA0 HCM HCU HSZ HFIN HR HR2 HU HUL HRL HB2
  have cT := HT1.out.c
  have fT := HT1.out.f
  have lT := HT1.out.lt
  go_wp2_with fail
  exact bodyPost_ret (v := .agg #[.slice p' m c', .int .i64 s, .slice q' n d']) (by simp [results, Try.results21, go_sem, *]) rfl ⟨_, _, _, _, rfl, HOL.out.setOff3 (by omega) _ _ _, set3_below HBW.out (by omega) _ _ _⟩

theorem bad_iff {m : Nat} {s : Int} {l : List Un} : anyBad m s l = false ↔ ∀ u ∈ l, FitU m s u := by
  unfold anyBad
  rw [List.any_eq_false]
  exact ⟨fun h u hu => fitB_iff.1 (by simpa using h u hu), fun h u hu => by rw [fitB_iff.2 (h u hu)]; decide⟩
theorem right_eq (L : Lg) : rightL L = (sizeB (L.mem.length : Int) && (upB L.span topS && (decide ((L.list.length : Int) ≤ 256) && (!anyBad L.mem.length L.span L.list && (sortB L.list && decide (L.list.Pairwise ApartU)))))) := by
  rw [Bool.eq_iff_iff, right_iff, rt_iff]
  unfold sortB
  simp only [Bool.and_eq_true, up_iff, decide_eq_true_eq, Bool.not_eq_true', bad_iff]
  unfold sizeB
  rw [decide_eq_true_eq]
  constructor
  · rintro ⟨h1, h2, h3, h4, h5, h6, h7, h8⟩
    exact ⟨⟨by omega, by omega⟩, ⟨h3, h4⟩, by omega, h6, h7, h8⟩
  · rintro ⟨⟨h1, h2⟩, ⟨h3, h4⟩, h5, h6, h7, h8⟩
    exact ⟨by omega, by omega, h3, h4, by omega, h6, h7, h8⟩
theorem wf_fit {m : Nat} {s : Int} {l : List Un} (hs : s ≤ topS) (hm : m ≤ 64) (h : anyBad m s l = false) : wfL l := fun u hu => by
  have h1 := List.any_eq_false.1 h u hu
  have h2 : FitU m s u := fitB_iff.1 (by simpa using h1)
  unfold FitU at h2
  unfold topS at hs
  exact ⟨WalkArith.wf_i64 (by omega), WalkArith.wf_i64 (by omega)⟩

set_option maxHeartbeats 4000000 in
set_option maxRecDepth 100000 in
theorem right_any (S : Nat → Prop) (v : Value) (L : Lg) (w : World) (h : Lo S w v L) : Calls Try.prog 18 #[v] w fun e w' => e = .returned (.bool (rightL L)) ∧ Below w.heap.size w w' := by
  have HFI : Hid (∀ W, Below w.heap.size w W → Calls Try.prog 31 #[v] W fun e w' => e = .returned (.bool (!anyBad L.mem.length L.span L.list)) ∧ Below W.heap.size W w') := Lib.hid (fun W hW => fits_any S v L W (h.below hW))
  obtain ⟨p, m, c, q, n, d, rfl, hc, -⟩ := h
  have HSO : Hid (∀ W, Below w.heap.size w W → Calls Try.prog 32 #[.slice q n d, .func (.func 33) #[] #[]] W fun e w' => e = .returned (.bool (sortB L.list)) ∧ Below W.heap.size W w') := Lib.hid (fun W hW => sorted_any q n d L.list W hc.ll (hc.ls.below hW) hc.n10)
  have HBE : Hid (wfL L.list → ∀ W, Below w.heap.size w W → Calls Try.prog 23 #[.slice q n d] W fun e w' => e = .returned (.map (some W.heap.size)) ∧ w'.ownsMap Try.prog 58 rawE W.heap.size n (beM L.list n) ∧ Below W.heap.size W w') := Lib.hid (fun hw W hW => before_any q n d L.list W hc.ll (hc.ls.below hW) hc.n10 hw)
  have HLEN : Hid (wfL L.list → ((Maps.size (beM L.list n) : Int) == (n : Int)) = decide (L.list.Pairwise ApartU)) := Lib.hid (fun hw => by have := be_len hw; rw [hc.ll] at this; exact this)
  have HWF : Hid (sizeB (m : Int) = true → upB L.span topS = true → anyBad m L.span L.list = false → wfL L.list) := Lib.hid (fun h1 h2 h3 => wf_fit (up_iff.1 h2).2 (by have := of_decide_eq_true h1; omega) h3)
  have HR := Lib.hid (right_eq L)
  rw [hc.ml, hc.ll] at HR
  rw [hc.ml] at HFI
  obtain ⟨r, hr⟩ : ∃ r, r = rightL L := ⟨_, rfl⟩
  rw [← hr] at HR ⊢
  obtain ⟨s, hs⟩ : ∃ s, s = L.span := ⟨_, rfl⟩
  obtain ⟨l, hl⟩ : ∃ l, l = L.list := ⟨_, rfl⟩
  rw [← hl] at HR HFI HSO HBE HLEN HWF
  rw [← hs] at HR HFI HWF ⊢
  have hn := hc.n10
  clear hr hs hl hc
  obtain ⟨b0, d0⟩ : ∃ b, sizeB (m : Int) = b := ⟨_, rfl⟩
  obtain ⟨b1, d1⟩ : ∃ b, upB s topS = b := ⟨_, rfl⟩
  obtain ⟨b3, d3⟩ : ∃ b, anyBad m s l = b := ⟨_, rfl⟩
  obtain ⟨b4, d4⟩ : ∃ b, sortB l = b := ⟨_, rfl⟩
  rw [d0, d1, d3] at HWF
  rw [d0, d1, d3, d4] at HR
  rw [d3] at HFI
  rw [d4] at HSO
  have HM := Lib.hid (fun W => mayBe_any (m : Int) W)
  rw [d0] at HM
  have HU := Lib.hid (fun W => upTo_any s topS W)
  rw [d1] at HU
  clear d0 d1 d3 d4
  obtain ⟨w0, hw0⟩ : ∃ w0, w0 = w.alloc (.cells #[.slice p m c, .int .i64 s, .slice q n d] 25) := ⟨_, rfl⟩
  have HB0 : Hid (Below w.heap.size w w0) := Lib.hid (by rw [hw0]; exact (Below.refl _ _).alloc (Nat.le_refl _) _)
  have HA0 : Hid (Blk w0 w.heap.size #[.slice p m c, .int .i64 s, .slice q n d]) := Lib.hid (by rw [hw0]; exact Blk.new _ _ _)
  have HW0 := Lib.hid hw0
  clear hw0
  have HS : Hid (∀ V, Below w0.heap.size w0 V → ∀ t, V.cell? ⟨w.heap.size, t, none⟩ = (#[.slice p m c, .int .i64 s, .slice q n d] : Array Value)[t]?) := Lib.hid (fun V hV => (HA0.out.below hV).c)
  go_enter Try.func18, Try.ntmps18
  go_upto_region 1 with fail
  rw [← HW0.out]
  clear HW0
  have kA := HA0.out.c
  go_wp2_with fail
  refine (HM.out _).mono ?_
  rintro e w' ⟨rfl, rfl⟩
  cases b0 with
  | false =>
    go_wp2_with fail
    go_ret
    exact ⟨by rw [HR.out]; rfl, HB0.out⟩
  | true =>
  go_wp2_with fail
  refine (HU.out _).mono ?_
  rintro e w' ⟨rfl, rfl⟩
  cases b1 with
  | false =>
    go_wp2_with fail
    go_ret
    exact ⟨by rw [HR.out]; rfl, HB0.out⟩
  | true =>
  by_cases h2 : (n : Int) ≤ 256
  · have d2 : decide ((256 : Int) < (n : Int)) = false := decide_eq_false (by omega)
    have d2' : decide ((n : Int) ≤ 256) = true := decide_eq_true h2
    rw [d2'] at HR
    clear h2 d2'
    go_upto_region 3 with fail
    clear kA
    cases b3 with
    | true =>
      refine region_plan (fun V : World => ∀ t, V.cell? ⟨w.heap.size, t, none⟩ = (#[.slice p m c, .int .i64 s, .slice q n d] : Array Value)[t]?) 15 [(0, true), (1, false), (2, true), (3, true), (4, true), (5, false), (6, true), (7, true), (8, true), (9, true), (12, true), (13, true), (14, true), (10, false), (11, false)] (by kernel_rfl) (by kernel_rfl) (HS.out _ (Below.refl _ _).drew) ?_
      iterate 1
        refine plan_read (v := ?_) rfl (by rfl) ?_ ?_
        rotate_left
        · intro w' hS
          try dsimp only at hS
          go_simp
          try with_reducible rfl
        try simp only [Act.put, List.setIfInBounds_toArray, List.set_cons_zero, List.set_cons_succ, List.getElem_toArray, List.getElem_cons_zero, List.getElem_cons_succ]
      refine plan_call (F := 31) (args := ?_) rfl (by rfl) ?_ ?_
      rotate_left
      · go_simp
        rfl
      refine (HFI.out w0.drew HB0.out.drew).mono ?_
      rintro e w1 ⟨rfl, hb⟩
      have HB1 : Hid (Below w0.heap.size w0 w1) := Lib.hid ((Below.refl _ _).drew.trans hb)
      clear hb
      refine ⟨_, rfl, HS.out _ HB1.out, ?_⟩
      try simp only [Act.put, List.setIfInBounds_toArray, List.set_cons_zero, List.set_cons_succ, List.getElem_toArray, List.getElem_cons_zero, List.getElem_cons_succ]
      iterate 1
        refine plan_read (v := ?_) rfl (by rfl) ?_ ?_
        rotate_left
        · intro w' hS
          try dsimp only at hS
          go_simp
          try with_reducible rfl
        try simp only [Act.put, List.setIfInBounds_toArray, List.set_cons_zero, List.set_cons_succ, List.getElem_toArray, List.getElem_cons_zero, List.getElem_cons_succ]
      refine plan_skip rfl (by rfl) ?_
      try simp only [Act.put, List.setIfInBounds_toArray, List.set_cons_zero, List.set_cons_succ, List.getElem_toArray, List.getElem_cons_zero, List.getElem_cons_succ]
      refine plan_skip rfl (by rfl) ?_
      try simp only [Act.put, List.setIfInBounds_toArray, List.set_cons_zero, List.set_cons_succ, List.getElem_toArray, List.getElem_cons_zero, List.getElem_cons_succ]
      refine plan_skipc rfl (by rfl) (HS.out _ HB1.out) ?_
      try simp only [Act.put, List.setIfInBounds_toArray, List.set_cons_zero, List.set_cons_succ, List.getElem_toArray, List.getElem_cons_zero, List.getElem_cons_succ]
      iterate 2
        refine plan_read (v := ?_) rfl (by rfl) ?_ ?_
        rotate_left
        · intro w' hS
          try dsimp only at hS
          go_simp
          try with_reducible rfl
        try simp only [Act.put, List.setIfInBounds_toArray, List.set_cons_zero, List.set_cons_succ, List.getElem_toArray, List.getElem_cons_zero, List.getElem_cons_succ]
      refine plan_skip rfl (by rfl) ?_
      try simp only [Act.put, List.setIfInBounds_toArray, List.set_cons_zero, List.set_cons_succ, List.getElem_toArray, List.getElem_cons_zero, List.getElem_cons_succ]
      refine plan_skip rfl (by rfl) ?_
      try simp only [Act.put, List.setIfInBounds_toArray, List.set_cons_zero, List.set_cons_succ, List.getElem_toArray, List.getElem_cons_zero, List.getElem_cons_succ]
      refine plan_skip rfl (by rfl) ?_
      try simp only [Act.put, List.setIfInBounds_toArray, List.set_cons_zero, List.set_cons_succ, List.getElem_toArray, List.getElem_cons_zero, List.getElem_cons_succ]
      refine plan_skip rfl (by rfl) ?_
      try simp only [Act.put, List.setIfInBounds_toArray, List.set_cons_zero, List.set_cons_succ, List.getElem_toArray, List.getElem_cons_zero, List.getElem_cons_succ]
      refine plan_skip rfl (by rfl) ?_
      try simp only [Act.put, List.setIfInBounds_toArray, List.set_cons_zero, List.set_cons_succ, List.getElem_toArray, List.getElem_cons_zero, List.getElem_cons_succ]
      refine plan_skipc rfl (by rfl) (HS.out _ HB1.out) ?_
      try simp only [Act.put, List.setIfInBounds_toArray, List.set_cons_zero, List.set_cons_succ, List.getElem_toArray, List.getElem_cons_zero, List.getElem_cons_succ]
      refine plan_skipc rfl (by rfl) (HS.out _ HB1.out) ?_
      try simp only [Act.put, List.setIfInBounds_toArray, List.set_cons_zero, List.set_cons_succ, List.getElem_toArray, List.getElem_cons_zero, List.getElem_cons_succ]
      refine plan_nil ?_
      simp only [List.drop_succ_cons, List.drop_zero]
      go_wp2_with fail
      go_ret
      exact ⟨by rw [HR.out]; rfl, HB0.out.trans (HB1.out.mono HB0.out.size)⟩
    | false =>
    have hwf := HWF.out (by first | rfl | trivial) (by first | rfl | trivial) (by first | rfl | trivial)
    have HBW := Lib.hid (HBE.out hwf)
    have HLW := Lib.hid (HLEN.out hwf)
    clear HBE HLEN HWF hwf
    cases b4 with
    | false =>
      refine region_plan (fun V : World => ∀ t, V.cell? ⟨w.heap.size, t, none⟩ = (#[.slice p m c, .int .i64 s, .slice q n d] : Array Value)[t]?) 15 [(0, true), (1, false), (2, true), (3, true), (4, true), (5, false), (6, true), (7, true), (8, true), (9, true), (12, true), (13, true), (14, true), (10, false), (11, false)] (by kernel_rfl) (by kernel_rfl) (HS.out _ (Below.refl _ _).drew) ?_
      iterate 1
        refine plan_read (v := ?_) rfl (by rfl) ?_ ?_
        rotate_left
        · intro w' hS
          try dsimp only at hS
          go_simp
          try with_reducible rfl
        try simp only [Act.put, List.setIfInBounds_toArray, List.set_cons_zero, List.set_cons_succ, List.getElem_toArray, List.getElem_cons_zero, List.getElem_cons_succ]
      refine plan_call (F := 31) (args := ?_) rfl (by rfl) ?_ ?_
      rotate_left
      · go_simp
        rfl
      refine (HFI.out w0.drew HB0.out.drew).mono ?_
      rintro e w1 ⟨rfl, hb⟩
      have HB1 : Hid (Below w0.heap.size w0 w1) := Lib.hid ((Below.refl _ _).drew.trans hb)
      clear hb
      refine ⟨_, rfl, HS.out _ HB1.out, ?_⟩
      try simp only [Act.put, List.setIfInBounds_toArray, List.set_cons_zero, List.set_cons_succ, List.getElem_toArray, List.getElem_cons_zero, List.getElem_cons_succ]
      iterate 3
        refine plan_read (v := ?_) rfl (by rfl) ?_ ?_
        rotate_left
        · intro w' hS
          try dsimp only at hS
          go_simp
          try with_reducible rfl
        try simp only [Act.put, List.setIfInBounds_toArray, List.set_cons_zero, List.set_cons_succ, List.getElem_toArray, List.getElem_cons_zero, List.getElem_cons_succ]
      refine plan_call (F := 32) (args := ?_) rfl (by rfl) ?_ ?_
      rotate_left
      · go_simp
        rfl
      refine (HSO.out w1 (HB0.out.trans (HB1.out.mono HB0.out.size))).mono ?_
      rintro e w2 ⟨rfl, hb⟩
      have HB2 : Hid (Below w0.heap.size w0 w2) := Lib.hid (HB1.out.trans (hb.mono HB1.out.size))
      clear hb
      refine ⟨_, rfl, HS.out _ HB2.out, ?_⟩
      try simp only [Act.put, List.setIfInBounds_toArray, List.set_cons_zero, List.set_cons_succ, List.getElem_toArray, List.getElem_cons_zero, List.getElem_cons_succ]
      iterate 2
        refine plan_read (v := ?_) rfl (by rfl) ?_ ?_
        rotate_left
        · intro w' hS
          try dsimp only at hS
          go_simp
          try with_reducible rfl
        try simp only [Act.put, List.setIfInBounds_toArray, List.set_cons_zero, List.set_cons_succ, List.getElem_toArray, List.getElem_cons_zero, List.getElem_cons_succ]
      refine plan_skip rfl (by rfl) ?_
      try simp only [Act.put, List.setIfInBounds_toArray, List.set_cons_zero, List.set_cons_succ, List.getElem_toArray, List.getElem_cons_zero, List.getElem_cons_succ]
      refine plan_skip rfl (by rfl) ?_
      try simp only [Act.put, List.setIfInBounds_toArray, List.set_cons_zero, List.set_cons_succ, List.getElem_toArray, List.getElem_cons_zero, List.getElem_cons_succ]
      refine plan_skip rfl (by rfl) ?_
      try simp only [Act.put, List.setIfInBounds_toArray, List.set_cons_zero, List.set_cons_succ, List.getElem_toArray, List.getElem_cons_zero, List.getElem_cons_succ]
      refine plan_skip rfl (by rfl) ?_
      try simp only [Act.put, List.setIfInBounds_toArray, List.set_cons_zero, List.set_cons_succ, List.getElem_toArray, List.getElem_cons_zero, List.getElem_cons_succ]
      refine plan_skip rfl (by rfl) ?_
      try simp only [Act.put, List.setIfInBounds_toArray, List.set_cons_zero, List.set_cons_succ, List.getElem_toArray, List.getElem_cons_zero, List.getElem_cons_succ]
      refine plan_skipc rfl (by rfl) (HS.out _ HB2.out) ?_
      try simp only [Act.put, List.setIfInBounds_toArray, List.set_cons_zero, List.set_cons_succ, List.getElem_toArray, List.getElem_cons_zero, List.getElem_cons_succ]
      refine plan_skipc rfl (by rfl) (HS.out _ HB2.out) ?_
      try simp only [Act.put, List.setIfInBounds_toArray, List.set_cons_zero, List.set_cons_succ, List.getElem_toArray, List.getElem_cons_zero, List.getElem_cons_succ]
      refine plan_nil ?_
      simp only [List.drop_succ_cons, List.drop_zero]
      go_wp2_with fail
      go_ret
      exact ⟨by rw [HR.out]; rfl, HB0.out.trans (HB2.out.mono HB0.out.size)⟩
    | true =>
      refine region_plan (fun V : World => ∀ t, V.cell? ⟨w.heap.size, t, none⟩ = (#[.slice p m c, .int .i64 s, .slice q n d] : Array Value)[t]?) 15 [(0, true), (1, false), (2, true), (3, true), (4, true), (5, false), (6, true), (7, true), (8, true), (9, true), (12, true), (13, true), (14, true), (10, false), (11, false)] (by kernel_rfl) (by kernel_rfl) (HS.out _ (Below.refl _ _).drew) ?_
      iterate 1
        refine plan_read (v := ?_) rfl (by rfl) ?_ ?_
        rotate_left
        · intro w' hS
          try dsimp only at hS
          go_simp
          try with_reducible rfl
        try simp only [Act.put, List.setIfInBounds_toArray, List.set_cons_zero, List.set_cons_succ, List.getElem_toArray, List.getElem_cons_zero, List.getElem_cons_succ]
      refine plan_call (F := 31) (args := ?_) rfl (by rfl) ?_ ?_
      rotate_left
      · go_simp
        rfl
      refine (HFI.out w0.drew HB0.out.drew).mono ?_
      rintro e w1 ⟨rfl, hb⟩
      have HB1 : Hid (Below w0.heap.size w0 w1) := Lib.hid ((Below.refl _ _).drew.trans hb)
      clear hb
      refine ⟨_, rfl, HS.out _ HB1.out, ?_⟩
      try simp only [Act.put, List.setIfInBounds_toArray, List.set_cons_zero, List.set_cons_succ, List.getElem_toArray, List.getElem_cons_zero, List.getElem_cons_succ]
      iterate 3
        refine plan_read (v := ?_) rfl (by rfl) ?_ ?_
        rotate_left
        · intro w' hS
          try dsimp only at hS
          go_simp
          try with_reducible rfl
        try simp only [Act.put, List.setIfInBounds_toArray, List.set_cons_zero, List.set_cons_succ, List.getElem_toArray, List.getElem_cons_zero, List.getElem_cons_succ]
      refine plan_call (F := 32) (args := ?_) rfl (by rfl) ?_ ?_
      rotate_left
      · go_simp
        rfl
      refine (HSO.out w1 (HB0.out.trans (HB1.out.mono HB0.out.size))).mono ?_
      rintro e w2 ⟨rfl, hb⟩
      have HB2 : Hid (Below w0.heap.size w0 w2) := Lib.hid (HB1.out.trans (hb.mono HB1.out.size))
      clear hb
      refine ⟨_, rfl, HS.out _ HB2.out, ?_⟩
      try simp only [Act.put, List.setIfInBounds_toArray, List.set_cons_zero, List.set_cons_succ, List.getElem_toArray, List.getElem_cons_zero, List.getElem_cons_succ]
      iterate 7
        refine plan_read (v := ?_) rfl (by rfl) ?_ ?_
        rotate_left
        · intro w' hS
          try dsimp only at hS
          go_simp
          try with_reducible rfl
        try simp only [Act.put, List.setIfInBounds_toArray, List.set_cons_zero, List.set_cons_succ, List.getElem_toArray, List.getElem_cons_zero, List.getElem_cons_succ]
      refine plan_call (F := 23) (args := ?_) rfl (by rfl) ?_ ?_
      rotate_left
      · go_simp
        rfl
      refine (HBW.out w2 (HB0.out.trans (HB2.out.mono HB0.out.size))).mono ?_
      rintro e w3 ⟨rfl, ho, hb⟩
      have HB3 : Hid (Below w0.heap.size w0 w3) := Lib.hid (HB2.out.trans (hb.mono HB2.out.size))
      have HO := Lib.hid ho
      clear hb ho
      refine ⟨_, rfl, HS.out _ HB3.out, ?_⟩
      try simp only [Act.put, List.setIfInBounds_toArray, List.set_cons_zero, List.set_cons_succ, List.getElem_toArray, List.getElem_cons_zero, List.getElem_cons_succ]
      refine plan_make (v := .int .i64 (Maps.size (beM l n))) (w1 := w3) rfl (by rfl) ?_ (HS.out _ HB3.out) ?_
      · have hl := HO.out.len Try.underlying56 3
        go_simp
      try simp only [Act.put, List.setIfInBounds_toArray, List.set_cons_zero, List.set_cons_succ, List.getElem_toArray, List.getElem_cons_zero, List.getElem_cons_succ]
      refine plan_nil ?_
      simp only [List.drop_succ_cons, List.drop_zero]
      obtain ⟨z, hz⟩ : ∃ z, z = decide (l.Pairwise ApartU) := ⟨_, rfl⟩
      rw [← hz] at HR HLW
      have hlw := HLW.out
      clear hz
      go_wp2_with fail
      go_ret
      exact ⟨by rw [HR.out]; rfl, HB0.out.trans (HB3.out.mono HB0.out.size)⟩
  · have d2 : decide ((256 : Int) < (n : Int)) = true := decide_eq_true (by omega)
    have d2' : decide ((n : Int) ≤ 256) = false := decide_eq_false h2
    rw [d2'] at HR
    clear h2 d2'
    go_wp2_with fail
    go_ret
    exact ⟨by rw [HR.out]; rfl, HB0.out⟩
end Go.Proofs.Ytbgllkjhgjoodaa
