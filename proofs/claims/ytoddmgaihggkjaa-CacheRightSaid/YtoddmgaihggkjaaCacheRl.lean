/- The document's own: a line put; no condition but that the cache reads. -/
import Derived.Test.YtoddmgaihggkjaaCacheRj
import Derived.Test.YtoddmgaihggkjaaCachePn
namespace Go.Proofs.Ytoddmgaihggkjaa
set_option linter.unusedVariables false
open Go.ChangeShapes Go.WideShapes Go.ChangeAt Go.RowKit

theorem okP_no {C : Ch} {a s : Int} (h : rightC C = false ∨ a < 0 ∨ 1099511627776 ≤ C.clock ∨ s < 1 ∨ 4 < s) : okP C a s = false := by
  unfold okP
  rcases h with h | h | h | h
  · rw [can_no (.inl h)]; rfl
  · rw [can_no (.inr (.inl h))]; rfl
  · rw [can_no (.inr (.inr h))]; rfl
  · rw [decide_eq_false (by omega), Bool.and_false]
theorem put_1 {C : Ch} {a s : Int} {x : Nat} (h : rightC C = false ∨ a < 0 ∨ 1099511627776 ≤ C.clock ∨ s < 1 ∨ 4 < s) : putC C a s x = C ∧ putO C a s = zL ∧ putE C a s = 1 := by
  have hm := okP_no h
  unfold putC putO putE
  rw [hm]
  exact ⟨rfl, rfl, rfl⟩
theorem okP_yes {C : Ch} {a s : Int} (h : rightC C = true) (ha : ¬ a < 0) (hk : ¬ 1099511627776 ≤ C.clock) (h1 : ¬ s < 1) (h4 : ¬ 4 < s) : okP C a s = true := by
  unfold okP
  rw [can_yes h ha hk, decide_eq_true (by omega)]
  rfl
theorem put_0 {C : Ch} {a s : Int} {x : Nat} (h : okP C a s = true) : putC C a s x = ⟨C.sets, C.ways, C.clock + 1, C.lines.set (setNo C a) (putL C a s x)⟩ ∧ putE C a s = 0 := by
  unfold putC putE
  rw [h]
  exact ⟨rfl, rfl⟩
theorem put_has {C : Ch} {a s : Int} {x j : Nat} (hj : atC C a = (j : Int)) : putL C a s x = (setC C a).set j ⟨a, s, x, C.clock + 1⟩ ∧ putO C a s = zL := by
  unfold putL putO
  rw [if_pos (show 0 ≤ atC C a by omega), decide_eq_false (show ¬ atC C a < 0 by omega), hj]
  exact ⟨rfl, by rw [Bool.false_and, Bool.and_false]; rfl⟩
theorem put_room {C : Ch} {a s : Int} {x : Nat} (hj : atC C a < 0) (hf : ((setC C a).length : Int) ≠ C.ways) : putL C a s x = setC C a ++ [⟨a, s, x, C.clock + 1⟩] ∧ putO C a s = zL := by
  have e : fullC C a = false := decide_eq_false hf
  unfold putL putO
  rw [if_neg (show ¬ 0 ≤ atC C a by omega), e]
  exact ⟨rfl, by rw [Bool.and_false, Bool.and_false]; rfl⟩
theorem put_full {C : Ch} {a s : Int} {x : Nat} (ho : okP C a s = true) (hj : atC C a < 0) (hf : ((setC C a).length : Int) = C.ways) : putL C a s x = (setC C a).eraseIdx (outN (setC C a)) ++ [⟨a, s, x, C.clock + 1⟩] ∧ putO C a s = (setC C a).getD (outN (setC C a)) zL := by
  have e : fullC C a = true := decide_eq_true hf
  unfold putL putO
  rw [if_neg (show ¬ 0 ≤ atC C a by omega), e, ho, decide_eq_true hj]
  exact ⟨rfl, rfl⟩
theorem set_last {l : List Ln} {z x : Ln} : (l ++ [z]).set l.length x = l ++ [x] := by simp

set_option maxHeartbeats 8000000 in
set_option maxRecDepth 100000 in
theorem refput_any (S : Nat → Prop) (v : Value) (C : Ch) (a s : Int) (vx : Nat) (w : World) (h : Co S w v C) (hS : ∀ R, S R → R < w.heap.size) : Calls Try.prog 19 #[v, .int .i64 a, .int .i64 s, .int .u32 vx] w fun e w' => OutP S w w' e (putC C a s vx) (putO C a s) (putE C a s) := by
  have HF := Lib.hid (fun W hW => refright_any S v C W (h.below (w := w) (w' := W) hW))
  obtain ⟨p, n, c, xs, rfl, hc, hoff⟩ := h
  have hn := hc.n100
  have HC := Lib.hid hc
  have HOF := Lib.hid hoff
  have HSS := Lib.hid hS
  obtain ⟨C', hC'⟩ : ∃ z, z = putC C a s vx := ⟨_, rfl⟩
  obtain ⟨O', hO'⟩ : ∃ z, z = putO C a s := ⟨_, rfl⟩
  obtain ⟨E, hE⟩ : ∃ z, z = putE C a s := ⟨_, rfl⟩
  rw [← hC', ← hO', ← hE]
  have HCE := Lib.hid hC'
  have HOE := Lib.hid hO'
  have HEE := Lib.hid hE
  have HSAME : Hid (∀ w', Below w.heap.size w w' → OutP S w w' (.returned (.tuple #[.agg #[.int .i64 C.sets, .int .i64 C.ways, .int .i64 C.clock, .slice p n c], .agg #[.int .i64 0, .int .i64 0, .int .u32 0, .int .i64 0], .int .i64 1])) C zL 1) := Lib.hid (fun w' hb => ⟨_, rfl, ⟨p, n, c, xs, rfl, hc.below hb, hoff⟩, hb⟩)
  clear hc hC' hO' hE hoff hS
  obtain ⟨w0, hw0⟩ : ∃ w0, w0 = ((w.alloc (.cells #[.int .i64 C.sets, .int .i64 C.ways, .int .i64 C.clock, .slice p n c] 24)).alloc (.cells #[.int .i64 0, .int .i64 0, .int .i64 0, .slice none 0 0] 24)).alloc (.cells #[.int .i64 0, .int .i64 0, .int .u32 0, .int .i64 0] 30) := ⟨_, rfl⟩
  have HB0 : Hid (Below w.heap.size w w0) := Lib.hid (by rw [hw0]; exact (((Below.refl _ _).alloc (Nat.le_refl _) _).alloc (by simp) _).alloc (by simp; omega) _)
  have HA0 : Hid (Blk w0 w.heap.size #[.int .i64 C.sets, .int .i64 C.ways, .int .i64 C.clock, .slice p n c]) := Lib.hid (by rw [hw0]; exact ((Blk.new _ _ _).alloc _).alloc _)
  have HT0 : Hid (Blk w0 (w.heap.size + 1) #[.int .i64 0, .int .i64 0, .int .i64 0, .slice none 0 0]) := Lib.hid (by
    have := Blk.new (w.alloc (.cells #[.int .i64 C.sets, .int .i64 C.ways, .int .i64 C.clock, .slice p n c] 24)) #[.int .i64 0, .int .i64 0, .int .i64 0, .slice none 0 0] 24
    rw [World.size_alloc] at this
    rw [hw0]; exact this.alloc _)
  have HU0 : Hid (Blk w0 (w.heap.size + 1 + 1) #[.int .i64 0, .int .i64 0, .int .u32 0, .int .i64 0]) := Lib.hid (by
    have := Blk.new ((w.alloc (.cells #[.int .i64 C.sets, .int .i64 C.ways, .int .i64 C.clock, .slice p n c] 24)).alloc (.cells #[.int .i64 0, .int .i64 0, .int .i64 0, .slice none 0 0] 24)) #[.int .i64 0, .int .i64 0, .int .u32 0, .int .i64 0] 30
    rw [World.size_alloc, World.size_alloc] at this
    rw [hw0]; exact this)
  have HQ := Lib.hid (HF.out w0 HB0.out)
  have HW0 := Lib.hid hw0
  clear HF hw0
  go_enter Try.func19, Try.ntmps19
  have kA := HA0.out.c
  go_upto_region 1 with fail
  rw [← HW0.out]
  clear HW0
  go_wp2_with fail
  refine HQ.out.mono ?_
  rintro e w1 ⟨rfl, hb1⟩
  have HA1 := Lib.hid (HA0.out.below hb1)
  have HT1 := Lib.hid (HT0.out.below hb1)
  have HU1 := Lib.hid (HU0.out.below hb1)
  have HB1 : Hid (Below w.heap.size w w1) := Lib.hid (HB0.out.trans (hb1.mono HB0.out.size))
  clear hb1 HA0 HB0 HQ HT0 HU0 kA
  have kA := HA1.out.c
  have cT := HT1.out.c
  have fT := HT1.out.f
  have lT := HT1.out.lt
  have cU := HU1.out.c
  have fU := HU1.out.f
  have lU := HU1.out.lt
  cases hr : rightC C with
  | false =>
    obtain ⟨e1, e2, e3⟩ := put_1 (C := C) (a := a) (s := s) (x := vx) (.inl hr)
    have e4 := HCE.out.trans e1
    have e5 := HOE.out.trans e2
    have e6 := HEE.out.trans e3
    subst e4 e5 e6
    clear e1 e2 e3 HCE HOE HEE hr
    go_wp2_with fail
    exact bodyPost_ret (v := .tuple #[.agg #[.int .i64 C'.sets, .int .i64 C'.ways, .int .i64 C'.clock, .slice p n c], .agg #[.int .i64 0, .int .i64 0, .int .u32 0, .int .i64 0], .int .i64 1]) (by simp [results, Try.results19, go_sem, *]) rfl (HSAME.out _ (set4_below (set4_below HB1.out (by omega) _ _ _ _) (by omega) _ _ _ _))
  | true =>
  by_cases ha : a < 0
  · have dha : decide (a < 0) = true := decide_eq_true ha
    obtain ⟨e1, e2, e3⟩ := put_1 (C := C) (a := a) (s := s) (x := vx) (.inr (.inl ha))
    have e4 := HCE.out.trans e1
    have e5 := HOE.out.trans e2
    have e6 := HEE.out.trans e3
    subst e4 e5 e6
    clear e1 e2 e3 HCE HOE HEE hr ha
    go_wp2_with fail
    exact bodyPost_ret (v := .tuple #[.agg #[.int .i64 C'.sets, .int .i64 C'.ways, .int .i64 C'.clock, .slice p n c], .agg #[.int .i64 0, .int .i64 0, .int .u32 0, .int .i64 0], .int .i64 1]) (by simp [results, Try.results19, go_sem, *]) rfl (HSAME.out _ (set4_below (set4_below HB1.out (by omega) _ _ _ _) (by omega) _ _ _ _))
  have dha : decide (a < 0) = false := decide_eq_false ha
  have HNA := Lib.hid ha
  clear ha
  by_cases hck : 1099511627776 ≤ C.clock
  · have dhck : decide (1099511627776 ≤ C.clock) = true := decide_eq_true hck
    obtain ⟨e1, e2, e3⟩ := put_1 (C := C) (a := a) (s := s) (x := vx) (.inr (.inr (.inl hck)))
    have e4 := HCE.out.trans e1
    have e5 := HOE.out.trans e2
    have e6 := HEE.out.trans e3
    subst e4 e5 e6
    clear e1 e2 e3 HCE HOE HEE hr hck
    go_wp2_with fail
    exact bodyPost_ret (v := .tuple #[.agg #[.int .i64 C'.sets, .int .i64 C'.ways, .int .i64 C'.clock, .slice p n c], .agg #[.int .i64 0, .int .i64 0, .int .u32 0, .int .i64 0], .int .i64 1]) (by simp [results, Try.results19, go_sem, *]) rfl (HSAME.out _ (set4_below (set4_below HB1.out (by omega) _ _ _ _) (by omega) _ _ _ _))
  have dhck : decide (1099511627776 ≤ C.clock) = false := decide_eq_false hck
  have HCK := Lib.hid hck
  clear hck
  by_cases hs1 : s < 1
  · have dhs1 : decide (s < 1) = true := decide_eq_true hs1
    obtain ⟨e1, e2, e3⟩ := put_1 (C := C) (a := a) (s := s) (x := vx) (.inr (.inr (.inr (.inl hs1))))
    have e4 := HCE.out.trans e1
    have e5 := HOE.out.trans e2
    have e6 := HEE.out.trans e3
    subst e4 e5 e6
    clear e1 e2 e3 HCE HOE HEE hr hs1
    go_wp2_with fail
    exact bodyPost_ret (v := .tuple #[.agg #[.int .i64 C'.sets, .int .i64 C'.ways, .int .i64 C'.clock, .slice p n c], .agg #[.int .i64 0, .int .i64 0, .int .u32 0, .int .i64 0], .int .i64 1]) (by simp [results, Try.results19, go_sem, *]) rfl (HSAME.out _ (set4_below (set4_below HB1.out (by omega) _ _ _ _) (by omega) _ _ _ _))
  have dhs1 : decide (s < 1) = false := decide_eq_false hs1
  have HN1 := Lib.hid hs1
  clear hs1
  by_cases hs4 : 4 < s
  · have dhs4 : decide (4 < s) = true := decide_eq_true hs4
    obtain ⟨e1, e2, e3⟩ := put_1 (C := C) (a := a) (s := s) (x := vx) (.inr (.inr (.inr (.inr hs4))))
    have e4 := HCE.out.trans e1
    have e5 := HOE.out.trans e2
    have e6 := HEE.out.trans e3
    subst e4 e5 e6
    clear e1 e2 e3 HCE HOE HEE hr hs4
    go_wp2_with fail
    exact bodyPost_ret (v := .tuple #[.agg #[.int .i64 C'.sets, .int .i64 C'.ways, .int .i64 C'.clock, .slice p n c], .agg #[.int .i64 0, .int .i64 0, .int .u32 0, .int .i64 0], .int .i64 1]) (by simp [results, Try.results19, go_sem, *]) rfl (HSAME.out _ (set4_below (set4_below HB1.out (by omega) _ _ _ _) (by omega) _ _ _ _))
  have dhs4 : decide (4 < s) = false := decide_eq_false hs4
  have HN4 := Lib.hid hs4
  clear hs4
  have HRT := Lib.hid (right_rt hr)
  have hokp := okP_yes (C := C) (a := a) (s := s) hr (by have := HNA.out; omega) (by have := HCK.out; omega) (by have := HN1.out; omega) (by have := HN4.out; omega)
  obtain ⟨e1, e2⟩ := put_0 (x := vx) hokp
  have HOK := Lib.hid hokp
  have HC1 := Lib.hid (HCE.out.trans e1)
  have e4 := HEE.out.trans e2
  subst e4
  have hkn : setNo C a < n := by have := HRT.out.set_lt a; have := HC.out.zn; omega
  have hk2 := HRT.out.set_as a
  have hs1 := HRT.out.n1
  obtain ⟨b, off, q, x, c2, rfl, hat2⟩ := HC.out.setAt (setNo C a) hkn
  rw [setC_eq] at hat2
  obtain ⟨i0, hi, hz0, hz1, hz2⟩ := info_parts info30
  have HI := Lib.hid (And.intro hi (And.intro hz0 (And.intro hz1 hz2)))
  have HX := Lib.hid hat2.len
  have HSL : Hid (∀ V, Below w.heap.size w V → Sl V q x (lnC (setC C a))) := Lib.hid (fun V hV => by
    have := (hat2.below hV).lm.sl
    rw [hat2.len] at this
    exact this)
  have HX100 : Hid (x ≤ 100) := Lib.hid hat2.x100
  have HK0 : Hid (0 ≤ C.clock ∧ C.clock < 1099511627776) := Lib.hid ⟨HRT.out.k0, by have := HCK.out; omega⟩
  have HWAY : Hid ((x : Int) ≤ C.ways ∧ 1 ≤ C.ways ∧ C.ways ≤ 8) := Lib.hid (by
    have h1 := HRT.out.wl (setNo C a) (by rw [HC.out.zn]; exact hkn)
    rw [setC_eq, hat2.len] at h1
    exact ⟨h1, HRT.out.m1, HRT.out.m8⟩)
  have HAT : Hid (∀ V, Below w.heap.size w V → Calls Try.prog 25 #[.agg #[.int .i64 C.sets, .int .i64 C.ways, .int .i64 C.clock, .slice (some ⟨b, off, none⟩) n c], .int .i64 a] V fun e w' => e = .returned (.int .i64 (atC C a)) ∧ Below V.heap.size V w') := Lib.hid (fun V hV => at_any (some ⟨b, off, none⟩) n c xs C a V (HC.out.below hV) HRT.out (by have := HNA.out; omega))
  have HHAS : Hid (∀ j : Nat, atC C a = (j : Int) → putL C a s vx = (setC C a).set j ⟨a, s, vx, C.clock + 1⟩ ∧ O' = zL) := Lib.hid (fun j hj => ⟨(put_has hj).1, HOE.out.trans (put_has (s := s) (x := vx) hj).2⟩)
  have HROOM : Hid (atC C a < 0 → (x : Int) ≠ C.ways → putL C a s vx = setC C a ++ [⟨a, s, vx, C.clock + 1⟩] ∧ O' = zL) := Lib.hid (fun h1 h2 => by
    rw [← hat2.len] at h2
    exact ⟨(put_room h1 h2).1, HOE.out.trans (put_room (s := s) (x := vx) h1 h2).2⟩)
  have HFULL : Hid (atC C a < 0 → (x : Int) = C.ways → putL C a s vx = (setC C a).eraseIdx (outN (setC C a)) ++ [⟨a, s, vx, C.clock + 1⟩] ∧ O' = (setC C a).getD (outN (setC C a)) zL) := Lib.hid (fun h1 h2 => by
    rw [← hat2.len] at h2
    exact ⟨(put_full hokp h1 h2).1, HOE.out.trans (put_full (x := vx) hokp h1 h2).2⟩)
  have HATL : Hid (0 ≤ atC C a → ∃ j : Nat, atC C a = (j : Int) ∧ j < x) := Lib.hid (fun h => by
    obtain ⟨j, h1, h2, _⟩ := atC_lt2 h
    exact ⟨j, h1, by rw [← hat2.len]; exact h2⟩)
  have HWI : Hid (∀ V (q : Option Addr) (cq : Nat), Below w.heap.size w V → w.heap.size + 3 ≤ V.heap.size → (putL C a s vx).length ≤ 100 → Lw (w.heap.size + 3) V (.slice q (putL C a s vx).length cq) (putL C a s vx) → Calls Try.prog 33 #[.agg #[.int .i64 C.sets, .int .i64 C.ways, .int .i64 (C.clock + 1), .slice (some ⟨b, off, none⟩) n c], .int .i64 (setNo C a : Nat), .slice q (putL C a s vx).length cq] V fun e w' => ∃ v, e = .returned v ∧ Co (fun R => S R ∨ (R = w.heap.size + 1 ∨ R = w.heap.size + 1 + 1)) w' v C' ∧ Below V.heap.size V w') := Lib.hid (fun V q cq hV h2 h100 hl => by
    rw [HC1.out]
    refine with_any (fun R => S R ∨ (R = w.heap.size + 1 ∨ R = w.heap.size + 1 + 1)) (some ⟨b, off, none⟩) n c (setNo C a) xs C (C.clock + 1) q cq _ V (HC.out.below hV) hkn hl.lv h100 (fun R hR => ?_) (fun R hR _ g e => ?_) (fun R hR => ?_)
    · rcases hR with hR | hR
      · exact HOF.out R hR
      · exact HC.out.off (by omega)
    · have h3 := (World.ownsRow.lt hl g e).1
      rcases hR with hR | hR
      · have := HSS.out R hR; omega
      · omega
    · rcases hR with hR | hR
      · have := HSS.out R hR; omega
      · omega)
  have HLCL : Hid ((lnC (setC C a)).length = x * 4) := Lib.hid (by rw [lnC_len, hat2.len])
  have HC'S : Hid (C'.sets = C.sets ∧ C'.ways = C.ways ∧ C'.clock = C.clock + 1) := Lib.hid (by rw [HC1.out]; exact ⟨rfl, rfl, rfl⟩)
  obtain ⟨T, hT⟩ : ∃ T, T = atC C a := ⟨_, rfl⟩
  rw [← hT] at HAT HHAS HROOM HFULL HATL
  obtain ⟨P, hP⟩ : ∃ P, P = putL C a s vx := ⟨_, rfl⟩
  rw [← hP] at HHAS HROOM HFULL HWI
  obtain ⟨l, hle⟩ : ∃ l, l = setC C a := ⟨_, rfl⟩
  rw [← hle] at HSL HHAS HROOM HFULL HLCL HX
  obtain ⟨k, hke⟩ : ∃ k, k = setNo C a := ⟨_, rfl⟩
  have HCELL : Hid (∀ V, Below w.heap.size w V → V.cell? ⟨b, off + k, none⟩ = some (.slice q x c2)) := Lib.hid (fun V hV => by rw [hke]; exact (hat2.below hV).cell)
  rw [← hke] at hkn hk2 HWI
  obtain ⟨A, W, K, hA, hW, hK⟩ : ∃ A W K, A = C.sets ∧ W = C.ways ∧ K = C.clock := ⟨_, _, _, rfl, rfl, rfl⟩
  rw [← hA] at hk2 hs1
  rw [← hK] at HK0 HHAS HROOM HFULL dhck
  rw [← hW] at HWAY HROOM HFULL
  rw [← hA, ← hW, ← hK] at HWI HC'S HAT HA1 kA
  rw [← hA, ← hW, ← hK]
  have htm : a.tmod A = (k : Int) := by rw [Int.tmod_eq_emod_of_nonneg (by have := HNA.out; omega), hk2]
  have hA0 : A ≠ 0 := by omega
  have hkI : (k : Int) < (n : Int) := by omega
  clear hA hW hK hke hle hP hT e1 e2 hokp hr hat2 HCE HOE HEE HC1 HRT HCK HN1 HN4 HOF HC HSAME hk2 hi hz0 hz1 hz2 HOK
  go_upto_region 4 with fail
  obtain ⟨O, hO⟩ : ∃ z, z = w1.heap.size := ⟨_, rfl⟩
  obtain ⟨w2, hw2⟩ : ∃ z, z = w1.alloc (.cells #[.int .i64 0, .int .i64 0, .int .u32 0, .int .i64 0] 30) := ⟨_, rfl⟩
  have HO2 : Hid (Blk w2 O #[.int .i64 0, .int .i64 0, .int .u32 0, .int .i64 0]) := Lib.hid (by rw [hw2, hO]; exact Blk.new _ _ _)
  have HA2 : Hid (Blk w2 w.heap.size #[.int .i64 A, .int .i64 W, .int .i64 K, .slice (some ⟨b, off, none⟩) n c]) := Lib.hid (by rw [hw2]; exact HA1.out.alloc _)
  have HT2 : Hid (Blk w2 (w.heap.size + 1) #[.int .i64 0, .int .i64 0, .int .i64 0, .slice none 0 0]) := Lib.hid (by rw [hw2]; exact HT1.out.alloc _)
  have HU2 : Hid (Blk w2 (w.heap.size + 1 + 1) #[.int .i64 0, .int .i64 0, .int .u32 0, .int .i64 0]) := Lib.hid (by rw [hw2]; exact HU1.out.alloc _)
  have HB2 : Hid (Below w.heap.size w w2) := Lib.hid (by rw [hw2]; exact HB1.out.alloc HB1.out.size _)
  have HOG : Hid (w.heap.size + 3 ≤ O) := Lib.hid (by rw [hO]; have := HU1.out.lt; omega)
  rw [← hw2, ← hO]
  clear hw2 hO kA cT fT lT cU fU lU HA1 HT1 HU1 HB1
  have HS : Hid (∀ V, Below w2.heap.size w2 V → (∀ t, V.cell? ⟨w.heap.size, t, none⟩ = (#[.int .i64 A, .int .i64 W, .int .i64 K, .slice (some ⟨b, off, none⟩) n c] : Array Value)[t]?) ∧ V.cell? ⟨b, off + k, none⟩ = some (.slice q x c2)) := Lib.hid (fun V hV =>
    ⟨(HA2.out.below hV).c, HCELL.out V (HB2.out.trans (hV.mono HB2.out.size))⟩)
  refine region_planT (fun V : World => (∀ t, V.cell? ⟨w.heap.size, t, none⟩ = (#[.int .i64 A, .int .i64 W, .int .i64 K, .slice (some ⟨b, off, none⟩) n c] : Array Value)[t]?) ∧ V.cell? ⟨b, off + k, none⟩ = some (.slice q x c2)) 9 (.read 1 (.read 2 (.read 3 (.read 4 (.read 5 (.read 6 (.read 7 (.read 8 (.one 0 .stop))))))))) (by kernel_rfl) (by kernel_rfl) (HS.out _ (Below.refl _ _).drew) ?_
  iterate 8
    refine planT_read (v := ?_) rfl (by rfl) ?_ ?_
    rotate_left
    · intro w' hS
      try dsimp only at hS
      go_simp
      try with_reducible rfl
    try simp only [Act.put, List.setIfInBounds_toArray, List.set_cons_zero, List.set_cons_succ, List.getElem_toArray, List.getElem_cons_zero, List.getElem_cons_succ]
  refine planT_one (op_make (v := .slice (some ⟨w2.heap.size, 0, none⟩) 0 0) (w1 := w2.drew.alloc (.cells #[] 30)) rfl (by rfl) (by go_simp) ⟨HS.out _ ((Below.refl _ _).drew.alloc (Nat.le_refl _) _), ?_⟩)
  try simp only [Act.put, List.setIfInBounds_toArray, List.set_cons_zero, List.set_cons_succ, List.getElem_toArray, List.getElem_cons_zero, List.getElem_cons_succ]
  refine planT_stop ?_
  simp only [List.drop_succ_cons, List.drop_zero]
  clear dha dhck dhs1 dhs4
  go_wp2_with (first | (at_builtin; refine wpList_append_sl rfl _ _ 28 rfl w2.heap.size 30 i0 _ 4 32 Try.underlying28 HI.out.1 HI.out.2.1 HI.out.2.2.1 HI.out.2.2.2 rfl (by decide) _ 0 [] rfl (fresh_made (w := w2.drew) (Nat.le_refl _)) q x c2 (lnC l) rfl HLCL.out (HSL.out _ (HB2.out.drew.alloc HB2.out.size _)) (lnC_one _) (by have := HX100.out; unfold maxLen; omega) (by have := HX100.out; omega) (by simp) ?_))
  intro v' w3 g1 g2 g3
  have HB3 : Hid (Below w2.heap.size w2 w3) := Lib.hid ((((Below.refl w2.heap.size w2).alloc (Nat.le_refl _) _).drew).grown g2 (by simp) (fun k hk => by simp [Value.ownBlock] at hk; omega))
  obtain ⟨q3, c3, rfl, -⟩ := own_cap g1
  have HL3 : Hid (w3.ownsRow (O + 1) 30 4 (.slice q3 x c3) x (lnC l)) := Lib.hid (own_base g1 HO2.out.lt)
  have HA3 := Lib.hid (HA2.out.below HB3.out)
  have HBW : Hid (Below w.heap.size w w3) := Lib.hid (HB2.out.trans (HB3.out.mono HB2.out.size))
  clear g1 g2 g3 HS HSL hkI
  have kA := HA3.out.c
  have HQ3 := Lib.hid (HAT.out w3 HBW.out)
  clear HAT
  go_wp2_with fail
  refine HQ3.out.mono ?_
  rintro e w4 ⟨rfl, hb4⟩
  have HB4 : Hid (Below w2.heap.size w2 w4) := Lib.hid (HB3.out.trans (hb4.mono HB3.out.size))
  have HA4 := Lib.hid (HA3.out.below hb4)
  have HL4 : Hid (w4.ownsRow (O + 1) 30 4 (.slice q3 x c3) x (lnC l)) := Lib.hid (own_below HL3.out hb4)
  have HT4 := Lib.hid (HT2.out.below HB4.out)
  have HU4 := Lib.hid (HU2.out.below HB4.out)
  have HO4 := Lib.hid (HO2.out.below HB4.out)
  have HBX : Hid (Below w.heap.size w w4) := Lib.hid (HBW.out.trans (hb4.mono HBW.out.size))
  clear hb4 kA HQ3 HA2 HT2 HU2 HO2 HA3 HL3 HB3 HBW HB4 HB2
  have kA := HA4.out.c
  go_upto_region 6 with fail
  go_cut [59] (fun s59 wd => s59 = .bool (decide (T < 0 ∧ (x : Int) = W)) ∧ w4 = wd)
  case first =>
    have hlen := HX.out
    by_cases hT : T < 0
    · have dT : decide (T < 0) = true := decide_eq_true hT
      by_cases hxw : (x : Int) = W
      · have dW : ((x : Int) == W) = true := by simpa using hxw
        have HGO : Hid (decide (T < 0 ∧ (x : Int) = W) = true) := Lib.hid (decide_eq_true ⟨hT, hxw⟩)
        clear hT hxw hlen
        go_wp2_with fail
        go_meet
        case rel => exact ⟨by rw [HGO.out], rfl⟩
      · have dW : ((x : Int) == W) = false := by simpa using hxw
        have HGO : Hid (decide (T < 0 ∧ (x : Int) = W) = false) := Lib.hid (decide_eq_false (fun h => hxw h.2))
        clear hT hxw hlen
        go_wp2_with fail
        go_meet
        case rel => exact ⟨by rw [HGO.out], rfl⟩
    · have dT : decide (T < 0) = false := decide_eq_false hT
      have HGO : Hid (decide (T < 0 ∧ (x : Int) = W) = false) := Lib.hid (decide_eq_false (fun h => hT h.1))
      clear hT hlen
      go_wp2_with fail
      go_meet
      case rel => exact ⟨by rw [HGO.out], rfl⟩
  case rest =>
  obtain ⟨rfl, rfl⟩ := hcut
  go_upto_if 59 with fail
  go_cut [12] (fun s12 wd => ∃ L1 q1 c1, s12 = .slice q1 (List.length L1) c1 ∧ Lw (O + 1) wd s12 L1 ∧ (0 ≤ T → L1 = l) ∧ (T < 0 → P = L1 ++ [⟨a, s, vx, K + 1⟩]) ∧ L1.length ≤ 8 ∧ Blk wd w.heap.size #[.int .i64 A, .int .i64 W, .int .i64 K, .slice (some ⟨b, off, none⟩) n c] ∧ Blk wd (w.heap.size + 1) #[.int .i64 0, .int .i64 0, .int .i64 0, .slice none 0 0] ∧ Blk wd (w.heap.size + 1 + 1) #[.int .i64 0, .int .i64 0, .int .u32 0, .int .i64 0] ∧ Blk wd O #[.int .i64 O'.addr, .int .i64 O'.state, .int .u32 (O'.val : Int), .int .i64 O'.used] ∧ Below w.heap.size w wd)
  case first =>
    by_cases hg : T < 0 ∧ (x : Int) = W
    · rw [decide_eq_true hg]
      obtain ⟨hT, hxw⟩ := hg
      obtain ⟨hP, hO⟩ := HFULL.out hT hxw
      have HPP := Lib.hid hP
      have HOO := Lib.hid hO
      have hx1 : 1 ≤ x := by have := HWAY.out.2.1; omega
      have hx8 : x ≤ 8 := by have := HWAY.out.2.2; omega
      have HTN := Lib.hid hT
      clear hP hO hT hxw
      obtain ⟨W4, hW4⟩ : ∃ z, z = w4 := ⟨_, rfl⟩
      rw [← hW4] at HA4 HL4 HT4 HU4 HO4 HBX kA ⊢
      clear hW4
      go_wp2_with fail
      go_loopw [14, 15] (fun s14 s15 WQ => ∃ i : Nat, s14 = .int .i64 (leastK l i : Nat) ∧ s15 = .int .i64 i ∧ 1 ≤ i ∧ i ≤ x ∧ Below W4.heap.size W4 WQ) (fun _ s15 _ => x - (intOf s15).toNat)
      case atStart => exact ⟨1, by show _ = Value.int .i64 ((leastK l 1 : Nat) : Int); rw [show leastK l 1 = 0 by unfold leastK leastK; split <;> rfl]; rfl, rfl, Nat.le_refl _, hx1, Below.refl _ _⟩
      case round =>
        obtain ⟨i, rfl, rfl, hi1, hix, hbv⟩ := hrel
        have HBV := Lib.hid hbv
        clear hbv kA
        have hLm : Lm wr q3 l := by
          have := Lw.lv (base := O + 1) (l := l) (v := .slice q3 x c3) (by unfold Lw; rw [HX.out]; exact own_below HL4.out HBV.out)
          obtain ⟨q', c', e, _, hl⟩ := this
          injection e with e1
          rw [e1]; exact hl
        have hll := leastK_lt l i (by rw [HX.out]; exact hix) (by omega)
        obtain ⟨o, hoe⟩ : ∃ o, o = leastK l i := ⟨_, rfl⟩
        rw [← hoe] at hll ⊢
        have HOEQ := Lib.hid hoe
        clear hoe
        by_cases hlt : i < x
        · have hiI : (i : Int) < (x : Int) := by omega
          have hoI : (o : Int) < (x : Int) := by omega
          obtain ⟨b1, o1, rfl, h1⟩ := hLm.at_ i (by rw [HX.out]; exact hlt)
          obtain ⟨b2, o2, e2, h2⟩ := hLm.at_ o (by rw [HX.out]; omega)
          injection e2 with e2
          injection e2 with e3 e4 _
          subst e3 e4
          obtain ⟨l0, k0, k1, k2, k3⟩ := h1
          obtain ⟨_, d0, d1, d2, d3⟩ := h2
          have HST : Hid (leastK l (i + 1) = if (l.getD i zL).used < (l.getD o zL).used then i else o) := Lib.hid (by rw [HOEQ.out]; rfl)
          obtain ⟨y, hy⟩ : ∃ y, y = l.getD i zL := ⟨_, rfl⟩
          obtain ⟨z, hz⟩ : ∃ y, y = l.getD o zL := ⟨_, rfl⟩
          rw [← hy, ← hz] at HST
          rw [← hy] at k0 k1 k2 k3
          rw [← hz] at d0 d1 d2 d3
          clear hy hz hLm
          go_upto_region 11 with fail
          refine region_plan (fun V : World => V = wr.drew) 10 [(0, true), (1, true), (2, true), (3, true), (4, true), (5, true), (6, true), (7, true), (8, true), (9, true)] (by kernel_rfl) (by kernel_rfl) rfl ?_
          iterate 10
            refine plan_read (v := ?_) rfl (by rfl) ?_ ?_
            rotate_left
            · intro w' hS
              try dsimp only at hS
              go_simp
              try with_reducible rfl
            try simp only [Act.put, List.setIfInBounds_toArray, List.set_cons_zero, List.set_cons_succ, List.getElem_toArray, List.getElem_cons_zero, List.getElem_cons_succ]
          refine plan_nil ?_
          simp only [List.drop_succ_cons, List.drop_zero]
          by_cases hu : y.used < z.used
          · have hq : decide (y.used < z.used) = true := decide_eq_true hu
            have hst := HST.out
            rw [if_pos hu] at hst
            have HS2 := Lib.hid hst
            clear hst hu
            go_wp2_with fail
            go_roundw
            case rel => exact ⟨i + 1, by rw [HS2.out], by go_num, by omega, by omega, drewN_below HBV.out 1⟩
            case measure => simp [intOf]; omega
          · have hq : decide (y.used < z.used) = false := decide_eq_false hu
            have hst := HST.out
            rw [if_neg hu] at hst
            have HS2 := Lib.hid hst
            clear hst hu
            go_wp2_with fail
            go_roundw
            case rel => exact ⟨i + 1, by rw [HS2.out], by go_num, by omega, by omega, drewN_below HBV.out 1⟩
            case measure => simp [intOf]; omega
        · have hie : i = x := by omega
          subst hie
          have hoN : o = outN l := by rw [HOEQ.out]; unfold outN; rw [HX.out]
          have HON := Lib.hid hoN
          have hoI : (o : Int) < (i : Int) := by omega
          obtain ⟨b1, o1, rfl, h1⟩ := hLm.at_ o (by rw [HX.out]; omega)
          obtain ⟨l0, d0, d1, d2, d3⟩ := h1
          have hyO : l.getD o zL = O' := by rw [hoN]; exact HOO.out.symm
          rw [hyO] at d0 d1 d2 d3
          have HTV := Lib.hid (HT4.out.below HBV.out)
          have HUV := Lib.hid (HU4.out.below HBV.out)
          have HAV := Lib.hid (HA4.out.below HBV.out)
          have HOV := Lib.hid (HO4.out.below HBV.out)
          have HLV : Hid (wr.ownsRow (O + 1) 30 4 (.slice (some ⟨b1, o1, none⟩) i c3) i (lnC l)) := Lib.hid (own_below HL4.out HBV.out)
          have HBZ : Hid (Below w.heap.size w wr) := Lib.hid (HBX.out.trans (HBV.out.mono HBX.out.size))
          have hol : o < l.length := by rw [HX.out]; omega
          have HOLT := Lib.hid hol
          have cO := HOV.out.c
          have fO := HOV.out.f
          have lO := HOV.out.lt
          clear hyO hol hoN hLm HA4 HT4 HU4 HO4 HL4 HBX HBV
          go_upto_region 14 with fail
          obtain ⟨w5, hw5⟩ : ∃ z, z = (((wr.setCell ⟨O, 0, none⟩ (.int .i64 O'.addr)).setCell ⟨O, 1, none⟩ (.int .i64 O'.state)).setCell ⟨O, 2, none⟩ (.int .u32 (O'.val : Int))).setCell ⟨O, 3, none⟩ (.int .i64 O'.used) := ⟨_, rfl⟩
          have HO5 : Hid (Blk w5 O #[.int .i64 O'.addr, .int .i64 O'.state, .int .u32 (O'.val : Int), .int .i64 O'.used]) := Lib.hid (by rw [hw5]; exact set4_same HOV.out _ _ _ _)
          have HA5 : Hid (Blk w5 w.heap.size #[.int .i64 A, .int .i64 W, .int .i64 K, .slice (some ⟨b, off, none⟩) n c]) := Lib.hid (by rw [hw5]; exact set4_other HAV.out (by have := HOG.out; omega) _ _ _ _)
          have HT5 : Hid (Blk w5 (w.heap.size + 1) #[.int .i64 0, .int .i64 0, .int .i64 0, .slice none 0 0]) := Lib.hid (by rw [hw5]; exact set4_other HTV.out (by have := HOG.out; omega) _ _ _ _)
          have HU5 : Hid (Blk w5 (w.heap.size + 1 + 1) #[.int .i64 0, .int .i64 0, .int .u32 0, .int .i64 0]) := Lib.hid (by rw [hw5]; exact set4_other HUV.out (by have := HOG.out; omega) _ _ _ _)
          have HB5 : Hid (Below w.heap.size w w5) := Lib.hid (by rw [hw5]; exact set4_below HBZ.out (by have := HOG.out; omega) _ _ _ _)
          have HL5 : Hid (w5.ownsRow (O + 1) 30 4 (.slice (some ⟨b1, o1, none⟩) i c3) i (lnC l)) := Lib.hid (by
            have hne : ∀ g, (Value.slice (some ⟨b1, o1, none⟩) i c3).ownBlock = some g → g ≠ O := fun g e => by have := (HLV.out.lt g e).1; omega
            rw [hw5]
            exact own_off (own_off (own_off (own_off HLV.out hne _ _) hne _ _) hne _ _) hne _ _)
          rw [← hw5]
          clear hw5 cO fO lO HOV HAV HTV HUV HBZ HLV l0 d0 d1 d2 d3
          have HWO : Hid (Calls Try.prog 31 #[.slice (some ⟨b1, o1, none⟩) i c3, .int .i64 (o : Int)] w5 fun e w' => ∃ v, e = .returned v ∧ Lw w5.heap.size w' v (l.eraseIdx o) ∧ Below w5.heap.size w5 w') := Lib.hid (by
            have hlv : Lv w5 (.slice (some ⟨b1, o1, none⟩) i c3) l := Lw.lv (base := O + 1) (by unfold Lw; rw [HX.out]; exact HL5.out)
            obtain ⟨q', c', e, hcap, hlm⟩ := hlv
            injection e with e1 e2 e3
            have := without_any b1 o1 c3 l o w5 (by rw [e1]; exact hlm) HOLT.out (by rw [e3]; exact hcap) (by rw [HX.out]; omega)
            rw [HX.out] at this
            exact this)
          have HEL : Hid ((l.eraseIdx o).length ≤ 8) := Lib.hid (by
            have := List.length_eraseIdx_of_lt (l := l) (i := o) HOLT.out
            rw [this, HX.out]; omega)
          have HO1 : Hid (O + 1 ≤ w5.heap.size) := Lib.hid HO5.out.lt
          go_wp2_with fail
          refine HWO.out.mono ?_
          rintro e w6 ⟨v7, rfl, hv7, hb6⟩
          have HV7 : Hid (Lw (O + 1) w6 v7 (l.eraseIdx o)) := Lib.hid (hv7.mono HO1.out)
          obtain ⟨q7, c7, rfl, -⟩ := own_cap hv7
          have HO6 := Lib.hid (HO5.out.below hb6)
          have HA6 := Lib.hid (HA5.out.below hb6)
          have HT6 := Lib.hid (HT5.out.below hb6)
          have HU6 := Lib.hid (HU5.out.below hb6)
          have HB6 : Hid (Below w.heap.size w w6) := Lib.hid (HB5.out.trans (hb6.mono HB5.out.size))
          clear hv7 hb6 HWO HL5 HO5 HA5 HT5 HU5 HB5 hoI
          go_wp2_with fail
          go_meet
          case rel => exact ⟨l.eraseIdx o, q7, c7, rfl, HV7.out, fun h => absurd h (by have := HTN.out; omega), fun _ => by rw [HON.out]; exact HPP.out, HEL.out, HA6.out, HT6.out, HU6.out, HO6.out, HB6.out⟩
    · rw [decide_eq_false hg]
      have HNG := Lib.hid hg
      clear hg
      go_wp2_with fail
      go_meet
      case rel => exact ⟨l, q3, c3, by rw [HX.out], by unfold Lw; rw [HX.out]; exact HL4.out, fun _ => rfl, fun h => (HROOM.out h (fun e => HNG.out ⟨h, e⟩)).1, by rw [HX.out]; have := HWAY.out; omega, HA4.out, HT4.out, HU4.out, by
        have hO : O' = zL := by
          by_cases h : T < 0
          · exact (HROOM.out h (fun e => HNG.out ⟨h, e⟩)).2
          · obtain ⟨j, hj, _⟩ := HATL.out (by omega)
            exact (HHAS.out j hj).2
        rw [hO]
        exact HO4.out, HBX.out⟩
  case rest =>
  obtain ⟨wd, hwd⟩ : ∃ z, z = wc := ⟨_, rfl⟩
  rw [← hwd] at hcut ⊢
  clear hwd
  obtain ⟨L1, q1, c1, rfl, hl1, he1, he2, h8, ha, ht, hu, ho, hb⟩ := hcut
  clear HA4 HT4 HU4 HO4 HBX HL4 kA HFULL HROOM HLCL
  have HE1 := Lib.hid he1
  have HE2 := Lib.hid he2
  have HA5 := Lib.hid ha
  have HT5 := Lib.hid ht
  have HU5 := Lib.hid hu
  have HO5 := Lib.hid ho
  have HB5 := Lib.hid hb
  have HL5 : Hid (wd.ownsRow (O + 1) 30 4 (.slice q1 L1.length c1) L1.length (lnC L1)) := Lib.hid hl1
  obtain ⟨y1, hy1⟩ : ∃ y, y = L1.length := ⟨_, rfl⟩
  rw [← hy1] at HL5 h8 ⊢
  have HY1 := Lib.hid hy1
  clear he1 he2 ha ht hu ho hb hl1 hy1
  go_upto_if 86 with fail
  go_cut [12, 13] (fun s12 s13 wx => ∃ L2 q2 c2, ∃ i : Nat, s12 = .slice q2 (List.length L2) c2 ∧ Lw (O + 1) wx s12 L2 ∧ s13 = .int .i64 (i : Nat) ∧ i < L2.length ∧ L2.set i ⟨a, s, vx, K + 1⟩ = P ∧ L2.length ≤ 100 ∧ Blk wx w.heap.size #[.int .i64 A, .int .i64 W, .int .i64 K, .slice (some ⟨b, off, none⟩) n c] ∧ Blk wx (w.heap.size + 1) #[.int .i64 0, .int .i64 0, .int .i64 0, .slice none 0 0] ∧ Blk wx (w.heap.size + 1 + 1) #[.int .i64 0, .int .i64 0, .int .u32 0, .int .i64 0] ∧ Blk wx O #[.int .i64 O'.addr, .int .i64 O'.state, .int .u32 (O'.val : Int), .int .i64 O'.used] ∧ Below w.heap.size w wx)
  case first =>
    by_cases hT : T < 0
    · have dT : decide (T < 0) = true := decide_eq_true hT
      have HTN := Lib.hid hT
      have hsv : O + 1 ≤ wd.heap.size := HO5.out.lt
      have HSZ0 : Hid (Sl (wd.alloc (.cells #[.int .i64 0, .int .i64 0, .int .u32 0, .int .i64 0] 30)) (some ⟨wd.heap.size, 0, none⟩) 1 (lnC [zL])) := Lib.hid (fun _ => ⟨wd.heap.size, 0, by simp, rfl, fun j hj => by
        have h1 := (Blk.new wd #[.int .i64 0, .int .i64 0, .int .u32 0, .int .i64 0] 30).c j
        rw [Nat.zero_add]
        exact h1.trans Array.getElem?_toList.symm⟩)
      clear hT
      rw [dT]
      go_wp2_with (first | (at_builtin; refine wpList_append_sl rfl _ _ 28 rfl (O + 1) 30 i0 _ 4 32 Try.underlying28 HI.out.1 HI.out.2.1 HI.out.2.2.1 HI.out.2.2.2 rfl (by decide) _ y1 (lnC L1) rfl (own_below HL5.out ((Below.refl _ _).alloc (Nat.le_refl _) _)) (some ⟨wd.heap.size, 0, none⟩) 1 1 (lnC [zL]) rfl rfl HSZ0.out (lnC_one _) (by unfold maxLen; omega) (by omega) (by simp; omega) ?_))
      intro v' w7 g1 g2 g3
      obtain ⟨q6, c6, rfl, -⟩ := own_cap g1
      have HL7 : Hid (w7.ownsRow (O + 1) 30 4 (.slice q6 (y1 + 1) c6) (y1 + 1) (lnC (L1 ++ [zL]))) := Lib.hid (by rw [lnC_app]; exact g1)
      have hrow : ∀ R, R ≤ O → (Value.slice q1 y1 c1).ownBlock ≠ some R := fun R hR e => by have := (HL5.out.lt R e).1; omega
      have HA7 := Lib.hid ((HA5.out.alloc (.cells #[.int .i64 0, .int .i64 0, .int .u32 0, .int .i64 0] 30)).grown g2 (hrow _ (by have := HOG.out; omega)))
      have HT7 := Lib.hid ((HT5.out.alloc (.cells #[.int .i64 0, .int .i64 0, .int .u32 0, .int .i64 0] 30)).grown g2 (hrow _ (by have := HOG.out; omega)))
      have HU7 := Lib.hid ((HU5.out.alloc (.cells #[.int .i64 0, .int .i64 0, .int .u32 0, .int .i64 0] 30)).grown g2 (hrow _ (by have := HOG.out; omega)))
      have HO7 := Lib.hid ((HO5.out.alloc (.cells #[.int .i64 0, .int .i64 0, .int .u32 0, .int .i64 0] 30)).grown g2 (hrow _ (Nat.le_refl _)))
      have HB7 : Hid (Below w.heap.size w w7) := Lib.hid ((HB5.out.alloc HB5.out.size _).grown g2 (by simp; have := HOG.out; omega) (fun k hk => by have := (HL5.out.lt k hk).1; have := HOG.out; omega))
      clear g1 g2 g3 hrow HSZ0 hsv
      go_wp2_with fail
      go_meet
      case rel => exact ⟨L1 ++ [zL], q6, c6, y1, by rw [List.length_append, ← HY1.out]; rfl, by unfold Lw; rw [List.length_append, ← HY1.out]; exact HL7.out, rfl, by rw [List.length_append, ← HY1.out]; exact Nat.lt_succ_self _, by rw [HY1.out, set_last]; exact (HE2.out HTN.out).symm, by rw [List.length_append, ← HY1.out]; show y1 + 1 ≤ 100; omega, HA7.out, HT7.out, HU7.out, HO7.out, HB7.out⟩
    · have dT : decide (T < 0) = false := decide_eq_false hT
      obtain ⟨j, hj, hjx⟩ := HATL.out (by omega)
      have hLl := HE1.out (by omega)
      have HTJ := Lib.hid hj
      have HLL := Lib.hid hLl
      have HJX := Lib.hid hjx
      clear hT hj hLl hjx
      rw [dT]
      go_wp2_with fail
      go_meet
      case rel => exact ⟨L1, q1, c1, j, by rw [← HY1.out], by unfold Lw; rw [← HY1.out]; exact HL5.out, by rw [HTJ.out], by rw [HLL.out, HX.out]; exact HJX.out, by rw [HLL.out]; exact (HHAS.out j HTJ.out).1.symm, by rw [← HY1.out]; omega, HA5.out, HT5.out, HU5.out, HO5.out, HB5.out⟩
  case rest =>
  obtain ⟨wx, hwx⟩ : ∃ z, z = wc := ⟨_, rfl⟩
  rw [← hwx] at hcut ⊢
  clear hwx
  obtain ⟨L2, q2, c2', i, rfl, hl2, rfl, hi2, hP2, h100, ha, ht, hu, ho, hb⟩ := hcut
  clear HA5 HT5 HU5 HO5 HB5 HL5 HE1 HE2 h8 HHAS HATL HI
  have HP2 := Lib.hid hP2
  have HT6 := Lib.hid ht
  have HU6 := Lib.hid hu
  have HO6 := Lib.hid ho
  have HB6 := Lib.hid hb
  have HA6 := Lib.hid ha
  obtain ⟨g, rfl, -, -, hg0, hg1⟩ := own_go hl2 (by omega)
  have HL6 : Hid (wx.ownsRow (O + 1) 30 4 (.slice (some ⟨g, 0, none⟩) L2.length c2') L2.length (lnC L2)) := Lib.hid hl2
  have HGG := Lib.hid hg0
  obtain ⟨m, hm⟩ : ∃ y, y = L2.length := ⟨_, rfl⟩
  rw [← hm] at HL6 hi2 h100 ⊢
  have HM := Lib.hid hm
  have HIM := Lib.hid hi2
  have HM1 := Lib.hid h100
  clear hP2 ht hu ho hb ha hl2 hm hg0 hg1 h100 hi2
  have kA := HA6.out.c
  have fA := HA6.out.f
  have lA := HA6.out.lt
  have hw : wrap64 (K + 1) = K + 1 := by have := HK0.out; unfold wrap64; omega
  have hw2 : IntKind.i64.wrap (K + 1) = K + 1 := by have := HK0.out; rw [IntKind.wrap_i64]; omega
  go_upto_region 19 with fail
  obtain ⟨w8, hw8⟩ : ∃ z, z = wx.setCell ⟨w.heap.size, 2, none⟩ (.int .i64 (K + 1)) := ⟨_, rfl⟩
  have HA8 : Hid (Blk w8 w.heap.size #[.int .i64 A, .int .i64 W, .int .i64 (K + 1), .slice (some ⟨b, off, none⟩) n c]) := Lib.hid (by rw [hw8]; exact HA6.out.set (n := 2) _ (by simp))
  have HT8 : Hid (Blk w8 (w.heap.size + 1) #[.int .i64 0, .int .i64 0, .int .i64 0, .slice none 0 0]) := Lib.hid (by rw [hw8]; exact HT6.out.other _ (by omega))
  have HU8 : Hid (Blk w8 (w.heap.size + 1 + 1) #[.int .i64 0, .int .i64 0, .int .u32 0, .int .i64 0]) := Lib.hid (by rw [hw8]; exact HU6.out.other _ (by omega))
  have HO8 : Hid (Blk w8 O #[.int .i64 O'.addr, .int .i64 O'.state, .int .u32 (O'.val : Int), .int .i64 O'.used]) := Lib.hid (by rw [hw8]; exact HO6.out.other _ (by have := HOG.out; omega))
  have HB8 : Hid (Below w.heap.size w w8) := Lib.hid (by rw [hw8]; exact HB6.out.setCell (p := ⟨w.heap.size, 2, none⟩) (Nat.le_refl _) _)
  have HL8 : Hid (w8.ownsRow (O + 1) 30 4 (.slice (some ⟨g, 0, none⟩) m c2') m (lnC L2)) := Lib.hid (by rw [hw8]; exact own_off HL6.out (fun b e => by have := (HL6.out.lt b e).1; have := HOG.out; omega) _ _)
  rw [← hw8]
  clear hw8 kA fA lA HA6 HT6 HU6 HO6 HB6 HL6 hw hw2
  have kA := HA8.out.c
  have hiI : (i : Int) < (m : Int) := by have := HIM.out; omega
  have HCL : Hid (∀ d, d < 4 → ∃ u, w8.cell? ⟨g, i * 4 + d, none⟩ = some u) := Lib.hid (fun d hd => ⟨_, (HL8.out.cellAt (i * 4 + d) (by have := HIM.out; omega)).trans (List.getElem?_eq_getElem (by rw [lnC_len, ← HM.out]; have := HIM.out; omega))⟩)
  obtain ⟨u0, hu0⟩ := HCL.out 0 (by decide)
  obtain ⟨u1, hu1⟩ := HCL.out 1 (by decide)
  obtain ⟨u2, hu2⟩ := HCL.out 2 (by decide)
  obtain ⟨u3, hu3⟩ := HCL.out 3 (by decide)
  rw [Nat.add_zero] at hu0
  have hf := HL8.out.frozenAt
  have hgl := (HL8.out.lt g rfl).2
  have hne : w.heap.size + 3 ≤ g ∧ O < g := by have := HGG.out; have := HOG.out; omega
  have HNE := Lib.hid hne
  obtain ⟨w9, hw9⟩ : ∃ z, z = (((w8.setCell ⟨g, i * 4, none⟩ (.int .i64 a)).setCell ⟨g, i * 4 + 1, none⟩ (.int .i64 s)).setCell ⟨g, i * 4 + 2, none⟩ (.int .u32 (vx : Int))).setCell ⟨g, i * 4 + 3, none⟩ (.int .i64 (K + 1)) := ⟨_, rfl⟩
  have HA9 : Hid (Blk w9 w.heap.size #[.int .i64 A, .int .i64 W, .int .i64 (K + 1), .slice (some ⟨b, off, none⟩) n c]) := Lib.hid (by rw [hw9]; exact (((HA8.out.other _ (by omega)).other _ (by omega)).other _ (by omega)).other _ (by omega))
  have HT9 : Hid (Blk w9 (w.heap.size + 1) #[.int .i64 0, .int .i64 0, .int .i64 0, .slice none 0 0]) := Lib.hid (by rw [hw9]; exact (((HT8.out.other _ (by omega)).other _ (by omega)).other _ (by omega)).other _ (by omega))
  have HU9 : Hid (Blk w9 (w.heap.size + 1 + 1) #[.int .i64 0, .int .i64 0, .int .u32 0, .int .i64 0]) := Lib.hid (by rw [hw9]; exact (((HU8.out.other _ (by omega)).other _ (by omega)).other _ (by omega)).other _ (by omega))
  have HO9 : Hid (Blk w9 O #[.int .i64 O'.addr, .int .i64 O'.state, .int .u32 (O'.val : Int), .int .i64 O'.used]) := Lib.hid (by rw [hw9]; exact (((HO8.out.other _ (by omega)).other _ (by omega)).other _ (by omega)).other _ (by omega))
  have HB9 : Hid (Below w.heap.size w w9) := Lib.hid (by
    have hg : w.heap.size ≤ g := by omega
    rw [hw9]
    exact (((HB8.out.setCell (p := ⟨g, i * 4, none⟩) hg _).setCell (p := ⟨g, i * 4 + 1, none⟩) hg _).setCell (p := ⟨g, i * 4 + 2, none⟩) hg _).setCell (p := ⟨g, i * 4 + 3, none⟩) hg _)
  have HL9 : Hid (w9.ownsRow (O + 1) 30 4 (.slice (some ⟨g, 0, none⟩) m c2') m (lnC (L2.set i ⟨a, s, vx, K + 1⟩))) := Lib.hid (by
    rw [hw9, lnC_put L2 i (by rw [← HM.out]; exact HIM.out)]
    exact (((((((HL8.out.stored (i * 4) _).1).stored (i * 4 + 1) _).1).stored (i * 4 + 2) _).1).stored (i * 4 + 3) _).1)
  have HW9 := Lib.hid hw9
  clear hw9 HT8 HU8 HO8 HB8 HCL hne
  go_upto_region 20 with fail
  rw [← HW9.out]
  clear HW9 hu0 hu1 hu2 hu3 hf hgl kA HA8 HL8 hiI
  have hPL : P.length = m := by rw [← HP2.out, List.length_set]; exact HM.out.symm
  have hsz9 : w.heap.size + 3 ≤ w9.heap.size := by have := HO9.out.lt; have := HOG.out; omega
  have HWJ : Hid (Calls Try.prog 33 #[.agg #[.int .i64 A, .int .i64 W, .int .i64 (K + 1), .slice (some ⟨b, off, none⟩) n c], .int .i64 (k : Nat), .slice (some ⟨g, 0, none⟩) m c2'] w9.drew fun e w' => ∃ v, e = .returned v ∧ Co (fun R => S R ∨ (R = w.heap.size + 1 ∨ R = w.heap.size + 1 + 1)) w' v C' ∧ Below w9.drew.heap.size w9.drew w') := Lib.hid (by
    have := HWI.out w9.drew (some ⟨g, 0, none⟩) c2' HB9.out.drew (by show w.heap.size + 3 ≤ w9.heap.size; exact hsz9) (by rw [hPL]; exact HM1.out) (by
      unfold Lw
      rw [hPL, ← HP2.out]
      exact own_base (own_below HL9.out (Below.refl _ _).drew) (by have := HOG.out; omega))
    rw [hPL] at this
    exact this)
  have HS9 : Hid (∀ V, Below w9.heap.size w9 V → (∀ t, V.cell? ⟨w.heap.size, t, none⟩ = (#[.int .i64 A, .int .i64 W, .int .i64 (K + 1), .slice (some ⟨b, off, none⟩) n c] : Array Value)[t]?) ∧ ∀ t, V.cell? ⟨O, t, none⟩ = (#[.int .i64 O'.addr, .int .i64 O'.state, .int .u32 (O'.val : Int), .int .i64 O'.used] : Array Value)[t]?) := Lib.hid (fun V hV => ⟨(HA9.out.below hV).c, (HO9.out.below hV).c⟩)
  clear hPL hsz9 HWI HP2 HM1 HL9
  have hkI : (k : Int) < (n : Int) := by omega
  refine region_plan (fun V : World => (∀ t, V.cell? ⟨w.heap.size, t, none⟩ = (#[.int .i64 A, .int .i64 W, .int .i64 (K + 1), .slice (some ⟨b, off, none⟩) n c] : Array Value)[t]?) ∧ ∀ t, V.cell? ⟨O, t, none⟩ = (#[.int .i64 O'.addr, .int .i64 O'.state, .int .u32 (O'.val : Int), .int .i64 O'.used] : Array Value)[t]?) 9 [(0, true), (1, true), (2, true), (3, true), (4, true), (5, true), (7, true), (6, false), (8, false)] (by kernel_rfl) (by kernel_rfl) (HS9.out _ (Below.refl _ _).drew) ?_
  iterate 7
    refine plan_read (v := ?_) rfl (by rfl) ?_ ?_
    rotate_left
    · intro w' hS
      try dsimp only at hS
      go_simp
      try with_reducible rfl
    try simp only [Act.put, List.setIfInBounds_toArray, List.set_cons_zero, List.set_cons_succ, List.getElem_toArray, List.getElem_cons_zero, List.getElem_cons_succ]
  refine plan_call (F := 33) (args := ?_) rfl (by rfl) ?_ ?_
  rotate_left
  · go_simp
    rfl
  refine (HWJ.out).mono ?_
  rintro e w10 ⟨v5, rfl, hv5, hb4⟩
  have HB10 : Hid (Below w9.heap.size w9 w10) := Lib.hid ((Below.refl _ _).drew.trans hb4)
  obtain ⟨p5, n5, c5, xs5, rfl, hc5, ho5⟩ := hv5
  have HV5 : Hid (Co (fun R => S R ∨ (R = w.heap.size + 1 ∨ R = w.heap.size + 1 + 1)) w10 (.agg #[.int .i64 C'.sets, .int .i64 C'.ways, .int .i64 C'.clock, .slice p5 n5 c5]) C') := Lib.hid ⟨p5, n5, c5, xs5, rfl, hc5, ho5⟩
  clear hb4 hc5 ho5
  refine ⟨_, rfl, HS9.out _ HB10.out, ?_⟩
  try simp only [Act.put, List.setIfInBounds_toArray, List.set_cons_zero, List.set_cons_succ, List.getElem_toArray, List.getElem_cons_zero, List.getElem_cons_succ]
  have HT10 := Lib.hid (HT9.out.below HB10.out)
  have HU10 := Lib.hid (HU9.out.below HB10.out)
  have HBZ : Hid (Below w.heap.size w w10) := Lib.hid (HB9.out.trans (HB10.out.mono HB9.out.size))
  obtain ⟨w11, hw11⟩ : ∃ z, z = (((w10.setCell ⟨w.heap.size + 1, 0, none⟩ (.int .i64 C'.sets)).setCell ⟨w.heap.size + 1, 1, none⟩ (.int .i64 C'.ways)).setCell ⟨w.heap.size + 1, 2, none⟩ (.int .i64 C'.clock)).setCell ⟨w.heap.size + 1, 3, none⟩ (.slice p5 n5 c5) := ⟨_, rfl⟩
  have HS11 : Hid ((∀ t, w11.cell? ⟨w.heap.size, t, none⟩ = (#[.int .i64 A, .int .i64 W, .int .i64 (K + 1), .slice (some ⟨b, off, none⟩) n c] : Array Value)[t]?) ∧ ∀ t, w11.cell? ⟨O, t, none⟩ = (#[.int .i64 O'.addr, .int .i64 O'.state, .int .u32 (O'.val : Int), .int .i64 O'.used] : Array Value)[t]?) := Lib.hid (by
    rw [hw11]
    exact ⟨(set4_other (HA9.out.below HB10.out) (by omega) _ _ _ _).c, (set4_other (HO9.out.below HB10.out) (by have := HOG.out; omega) _ _ _ _).c⟩)
  have HU11 : Hid (Blk w11 (w.heap.size + 1 + 1) #[.int .i64 0, .int .i64 0, .int .u32 0, .int .i64 0]) := Lib.hid (by rw [hw11]; exact set4_other HU10.out (by omega) _ _ _ _)
  have HT11 : Hid (Blk w11 (w.heap.size + 1) #[.int .i64 C'.sets, .int .i64 C'.ways, .int .i64 C'.clock, .slice p5 n5 c5]) := Lib.hid (by rw [hw11]; exact set4_same HT10.out _ _ _ _)
  have HB11 : Hid (Below w.heap.size w w11) := Lib.hid (by rw [hw11]; exact set4_below HBZ.out (by omega) _ _ _ _)
  have HV11 : Hid (Co (fun R => S R ∨ (R = w.heap.size + 1 ∨ R = w.heap.size + 1 + 1)) w11 (.agg #[.int .i64 C'.sets, .int .i64 C'.ways, .int .i64 C'.clock, .slice p5 n5 c5]) C') := Lib.hid (by rw [hw11]; exact HV5.out.set4 (.inr (.inl rfl)) _ _ _ _)
  have HW11 := Lib.hid hw11
  clear hw11 HWJ HT9 HU9 HA9 HO9 HB9 HB10 HS9 HU10 HBZ HV5
  have cT := HT10.out.c
  have fT := HT10.out.f
  have lT := HT10.out.lt
  refine plan_store (w1 := w11) rfl (by rfl) (by go_simp; rw [HW11.out]) HS11.out ?_
  try simp only [Act.put, List.setIfInBounds_toArray, List.set_cons_zero, List.set_cons_succ, List.getElem_toArray, List.getElem_cons_zero, List.getElem_cons_succ]
  refine plan_nil ?_
  simp only [List.drop_succ_cons, List.drop_zero]
  clear cT fT lT HW11 HT10 HS11
  have cT := HT11.out.c
  have cU := HU11.out.c
  have fU := HU11.out.f
  have lU := HU11.out.lt
  go_wp2_with fail
  exact bodyPost_ret (v := .tuple #[.agg #[.int .i64 C'.sets, .int .i64 C'.ways, .int .i64 C'.clock, .slice p5 n5 c5], .agg #[.int .i64 O'.addr, .int .i64 O'.state, .int .u32 (O'.val : Int), .int .i64 O'.used], .int .i64 0]) (by simp [results, Try.results19, go_sem, *]) rfl ⟨_, rfl, (HV11.out.set4 (.inr (.inr rfl)) _ _ _ _).weak (fun R hR => .inl hR), set4_below HB11.out (by omega) _ _ _ _⟩
end Go.Proofs.Ytoddmgaihggkjaa
