/- The document's own: a line dropped; no condition but that the cache reads. -/
import Derived.Test.YtoddmgaihggkjaaCacheRh
namespace Go.Proofs.Ytoddmgaihggkjaa
set_option linter.unusedVariables false
open Go.ChangeShapes Go.WideShapes Go.ChangeAt Go.RowKit

theorem may_no {C : Ch} {a : Int} (h : rightC C = false ∨ a < 0) : mayC C a = false := by
  unfold mayC
  rcases h with h | h
  · rw [h]; rfl
  · rw [decide_eq_false (by omega), Bool.and_false]
theorem drop_1 {C : Ch} {a : Int} (h : rightC C = false ∨ a < 0) : dropC C a = C ∧ dropE C a = 1 := by
  have hm := may_no h
  unfold dropC dropE hasC
  rw [hm]
  exact ⟨rfl, rfl⟩
theorem drop_7 {C : Ch} {a : Int} (h : rightC C = true) (ha : ¬ a < 0) (h2 : atC C a < 0) : dropC C a = C ∧ dropE C a = 7 := by
  have hh := has_at h2
  have hm : mayC C a = true := by unfold mayC; rw [h, decide_eq_true (by omega)]; rfl
  unfold dropC dropE
  rw [hh, hm, if_pos rfl, if_neg (show ¬ 0 ≤ atC C a by omega)]
  exact ⟨rfl, rfl⟩
theorem drop_0 {C : Ch} {a : Int} {j : Nat} (h : hasC C a = true) (hj : atC C a = (j : Int)) : dropC C a = ⟨C.sets, C.ways, C.clock, C.lines.set (setNo C a) ((setC C a).eraseIdx j)⟩ ∧ dropE C a = 0 := by
  have e := (look_has h).2.2.1
  unfold dropC
  rw [h, if_pos rfl, hj]
  exact ⟨rfl, e⟩
theorem outC_same {S : Nat → Prop} {w w' : World} {p : Option Addr} {n c : Nat} {xs : List Value} {C : Ch} {E : Int} (h : Cc w p n c xs C) (ho : ∀ R, S R → Off R p xs C.lines) (hb : Below w.heap.size w w') : OutC S w w' (.returned (.tuple #[.agg #[.int .i64 C.sets, .int .i64 C.ways, .int .i64 C.clock, .slice p n c], .int .i64 E])) C E :=
  ⟨_, rfl, ⟨p, n, c, xs, rfl, h.below hb, ho⟩, hb⟩

set_option maxHeartbeats 4000000 in
set_option maxRecDepth 100000 in
theorem refdrop_any (S : Nat → Prop) (v : Value) (C : Ch) (a : Int) (w : World) (h : Co S w v C) (hS : ∀ R, S R → R < w.heap.size) : Calls Try.prog 17 #[v, .int .i64 a] w fun e w' => OutC S w w' e (dropC C a) (dropE C a) := by
  have HF := Lib.hid (fun W hW => refright_any S v C W (h.below (w := w) (w' := W) hW))
  obtain ⟨p, n, c, xs, rfl, hc, hoff⟩ := h
  have hn := hc.n100
  have HC := Lib.hid hc
  have HOF := Lib.hid hoff
  have HSS := Lib.hid hS
  obtain ⟨C', hC'⟩ : ∃ z, z = dropC C a := ⟨_, rfl⟩
  obtain ⟨E, hE⟩ : ∃ z, z = dropE C a := ⟨_, rfl⟩
  rw [← hC', ← hE]
  have HCE := Lib.hid hC'
  have HEE := Lib.hid hE
  have HSAME : Hid (∀ w' E, Below w.heap.size w w' → OutC S w w' (.returned (.tuple #[.agg #[.int .i64 C.sets, .int .i64 C.ways, .int .i64 C.clock, .slice p n c], .int .i64 E])) C E) := Lib.hid (fun w' E hb => outC_same hc hoff hb)
  clear hc hC' hE hoff hS
  obtain ⟨w0, hw0⟩ : ∃ w0, w0 = (w.alloc (.cells #[.int .i64 C.sets, .int .i64 C.ways, .int .i64 C.clock, .slice p n c] 24)).alloc (.cells #[.int .i64 0, .int .i64 0, .int .i64 0, .slice none 0 0] 24) := ⟨_, rfl⟩
  have HB0 : Hid (Below w.heap.size w w0) := Lib.hid (by rw [hw0]; exact ((Below.refl _ _).alloc (Nat.le_refl _) _).alloc (by simp) _)
  have HA0 : Hid (Blk w0 w.heap.size #[.int .i64 C.sets, .int .i64 C.ways, .int .i64 C.clock, .slice p n c]) := Lib.hid (by rw [hw0]; exact (Blk.new _ _ _).alloc _)
  have HT0 : Hid (Blk w0 (w.heap.size + 1) #[.int .i64 0, .int .i64 0, .int .i64 0, .slice none 0 0]) := Lib.hid (by
    have := Blk.new (w.alloc (.cells #[.int .i64 C.sets, .int .i64 C.ways, .int .i64 C.clock, .slice p n c] 24)) #[.int .i64 0, .int .i64 0, .int .i64 0, .slice none 0 0] 24
    rw [World.size_alloc] at this
    rw [hw0]; exact this)
  have HQ := Lib.hid (HF.out w0 HB0.out)
  have HW0 := Lib.hid hw0
  clear HF hw0
  go_enter Try.func17, Try.ntmps17
  have kA := HA0.out.c
  go_upto_region 1 with fail
  rw [← HW0.out]
  clear HW0
  go_wp2_with fail
  refine HQ.out.mono ?_
  rintro e w1 ⟨rfl, hb1⟩
  have HA1 := Lib.hid (HA0.out.below hb1)
  have HT1 := Lib.hid (HT0.out.below hb1)
  have HB1 : Hid (Below w.heap.size w w1) := Lib.hid (HB0.out.trans (hb1.mono HB0.out.size))
  clear hb1 HA0 HB0 HQ HT0 kA
  have kA := HA1.out.c
  have cT := HT1.out.c
  have fT := HT1.out.f
  have lT := HT1.out.lt
  cases hr : rightC C with
  | false =>
    obtain ⟨e1, e2⟩ := drop_1 (a := a) (.inl hr)
    have e3 := HCE.out.trans e1
    have e4 := HEE.out.trans e2
    subst e3 e4
    clear e1 e2 hr HCE HEE
    go_wp2_with fail
    exact bodyPost_ret (v := .tuple #[.agg #[.int .i64 C'.sets, .int .i64 C'.ways, .int .i64 C'.clock, .slice p n c], .int .i64 1]) (by simp [results, Try.results17, go_sem, *]) rfl (HSAME.out _ _ (set4_below HB1.out (by omega) _ _ _ _))
  | true =>
    by_cases ha : a < 0
    · have d1 : decide (a < 0) = true := decide_eq_true ha
      obtain ⟨e1, e2⟩ := drop_1 (C := C) (.inr ha)
      have e3 := HCE.out.trans e1
      have e4 := HEE.out.trans e2
      subst e3 e4
      clear e1 e2 hr HCE HEE
      go_wp2_with fail
      exact bodyPost_ret (v := .tuple #[.agg #[.int .i64 C'.sets, .int .i64 C'.ways, .int .i64 C'.clock, .slice p n c], .int .i64 1]) (by simp [results, Try.results17, go_sem, *]) rfl (HSAME.out _ _ (set4_below HB1.out (by omega) _ _ _ _))
    · have d1 : decide (a < 0) = false := decide_eq_false ha
      have HNA := Lib.hid ha
      clear ha
      have HRT := Lib.hid (right_rt hr)
      have hAT := at_any p n c xs C a w1 (HC.out.below HB1.out) (right_rt hr) (by have := HNA.out; omega)
      have HAT := Lib.hid hAT
      clear hAT cT fT lT
      go_wp2_with fail
      refine HAT.out.mono ?_
      rintro e w2 ⟨rfl, hb2⟩
      have HA2 := Lib.hid (HA1.out.below hb2)
      have HT2 := Lib.hid (HT1.out.below hb2)
      have HB2 : Hid (Below w.heap.size w w2) := Lib.hid (HB1.out.trans (hb2.mono HB1.out.size))
      clear hb2 kA HA1 HT1 HB1 HAT
      by_cases hat : atC C a < 0
      · obtain ⟨e1, e2⟩ := drop_7 (a := a) hr (by have := HNA.out; omega) hat
        have e3 := HCE.out.trans e1
        have e4 := HEE.out.trans e2
        subst e3 e4
        have d2 : decide (atC C' a < 0) = true := decide_eq_true hat
        clear e1 e2 hr HCE HEE HRT hat
        generalize atC C' a = T at d2 ⊢
        have kA := HA2.out.c
        have cT := HT2.out.c
        have fT := HT2.out.f
        have lT := HT2.out.lt
        go_wp2_with fail
        exact bodyPost_ret (v := .tuple #[.agg #[.int .i64 C'.sets, .int .i64 C'.ways, .int .i64 C'.clock, .slice p n c], .int .i64 7]) (by simp [results, Try.results17, go_sem, *]) rfl (HSAME.out _ _ (set4_below HB2.out (by omega) _ _ _ _))
      · have d2 : decide (atC C a < 0) = false := decide_eq_false hat
        have HAN := Lib.hid hat
        have hh := has_yes (a := a) hr (by have := HNA.out; omega) (by have := HAN.out; omega)
        obtain ⟨j, hj, hjl, hl⟩ := atC_lt2 (show 0 ≤ atC C a by have := HAN.out; omega)
        obtain ⟨e1, e2⟩ := drop_0 hh hj
        have e3 := HCE.out.trans e1
        have e4 := HEE.out.trans e2
        have hkn : setNo C a < n := by have := HRT.out.set_lt a; have := HC.out.zn; omega
        have hk2 := HRT.out.set_as a
        have hs1 := HRT.out.n1
        obtain ⟨b, off, q, x, c2, rfl, hat2⟩ := HC.out.setAt (setNo C a) hkn
        rw [setC_eq] at hat2
        have hjx : j < x := by rw [← hat2.len]; exact hjl
        obtain ⟨b2, off2, rfl, hline⟩ := hat2.lm.at_ j hjl
        have HWO : Hid (∀ V, Below w.heap.size w V → Calls Try.prog 31 #[.slice (some ⟨b2, off2, none⟩) x c2, .int .i64 (j : Int)] V fun e w' => ∃ v, e = .returned v ∧ Lw V.heap.size w' v ((setC C a).eraseIdx j) ∧ Below V.heap.size V w') := Lib.hid (fun V hV => by
          have := without_any b2 off2 c2 (setC C a) j V (hat2.below hV).lm hjl (by rw [hat2.len]; exact hat2.cap) (by rw [hat2.len]; have := hat2.x100; omega)
          rw [hat2.len] at this
          exact this)
        have HEL : Hid (((setC C a).eraseIdx j).length ≤ 100) := Lib.hid (by
          have := List.length_eraseIdx_le (setC C a) j
          have h1 := hat2.len
          have h2 := hat2.x100
          omega)
        have HWI : Hid (∀ V (q : Option Addr) (cq : Nat), Below w.heap.size w V → w.heap.size + 2 ≤ V.heap.size → Lw (w.heap.size + 2) V (.slice q ((setC C a).eraseIdx j).length cq) ((setC C a).eraseIdx j) → Calls Try.prog 33 #[.agg #[.int .i64 C.sets, .int .i64 C.ways, .int .i64 C.clock, .slice (some ⟨b, off, none⟩) n c], .int .i64 (setNo C a : Nat), .slice q ((setC C a).eraseIdx j).length cq] V fun e w' => ∃ v, e = .returned v ∧ Co (fun R => S R ∨ R = w.heap.size + 1) w' v C' ∧ Below V.heap.size V w') := Lib.hid (fun V q cq hV h2 hl => by
          rw [e3]
          refine with_any (fun R => S R ∨ R = w.heap.size + 1) (some ⟨b, off, none⟩) n c (setNo C a) xs C C.clock q cq _ V (HC.out.below hV) hkn hl.lv HEL.out (fun R hR => ?_) (fun R hR _ g e => ?_) (fun R hR => ?_)
          · rcases hR with hR | hR
            · exact HOF.out R hR
            · exact HC.out.off (by omega)
          · have h3 := (World.ownsRow.lt hl g e).1
            rcases hR with hR | hR
            · have := HSS.out R hR; omega
            · omega
          · rcases hR with hR | hR
            · have := HSS.out R hR; omega
            · omega)
        have HS : Hid (∀ V, Below w2.heap.size w2 V → (∀ t, V.cell? ⟨w.heap.size, t, none⟩ = (#[.int .i64 C.sets, .int .i64 C.ways, .int .i64 C.clock, .slice (some ⟨b, off, none⟩) n c] : Array Value)[t]?) ∧ V.cell? ⟨b, off + setNo C a, none⟩ = some (.slice (some ⟨b2, off2, none⟩) x c2)) := Lib.hid (fun V hV => by
          have hWV : Below w.heap.size w V := HB2.out.trans (hV.mono HB2.out.size)
          exact ⟨(HA2.out.below hV).c, (hat2.below hWV).cell⟩)
        rw [hj] at d2 ⊢
        have HC'S : Hid (C'.sets = C.sets ∧ C'.ways = C.ways ∧ C'.clock = C.clock) := Lib.hid (by rw [e3]; exact ⟨rfl, rfl, rfl⟩)
        obtain ⟨L, hL⟩ : ∃ L, L = (setC C a).eraseIdx j := ⟨_, rfl⟩
        rw [← hL] at HWO HWI
        obtain ⟨k, hke⟩ : ∃ k, k = setNo C a := ⟨_, rfl⟩
        rw [← hke] at hkn HS hk2 HWI
        obtain ⟨A, W, K, hA, hW, hK⟩ : ∃ A W K, A = C.sets ∧ W = C.ways ∧ K = C.clock := ⟨_, _, _, rfl, rfl, rfl⟩
        rw [← hA] at hk2 hs1
        rw [← hA, ← hW, ← hK] at HS HWI HA2 HC'S ⊢
        have htm : a.tmod A = (k : Int) := by rw [Int.tmod_eq_emod_of_nonneg (by have := HNA.out; omega), hk2]
        have hA0 : A ≠ 0 := by omega
        have hkI : (k : Int) < (n : Int) := by omega
        have hsz2 : w.heap.size + 2 ≤ w2.heap.size := by have := HT2.out.lt; omega
        have HSZ2 := Lib.hid hsz2
        subst e4
        clear HCE HEE hA hW hK hke hL e1 e2 e3 hl hjl hj hat hat2 hline hh hr hk2 HC HRT HAN hsz2 HSAME HOF HEL hjx
        go_upto_region 6 with fail
        refine region_plan (fun V : World => (∀ t, V.cell? ⟨w.heap.size, t, none⟩ = (#[.int .i64 A, .int .i64 W, .int .i64 K, .slice (some ⟨b, off, none⟩) n c] : Array Value)[t]?) ∧ V.cell? ⟨b, off + k, none⟩ = some (.slice (some ⟨b2, off2, none⟩) x c2)) 16 [(0, true), (1, true), (2, true), (3, true), (4, true), (5, true), (6, true), (7, true), (8, true), (9, true), (10, true), (11, true), (12, true), (13, true), (14, false), (15, false)] (by kernel_rfl) (by kernel_rfl) (HS.out _ (Below.refl _ _).drew) ?_
        iterate 14
          refine plan_read (v := ?_) rfl (by rfl) ?_ ?_
          rotate_left
          · intro w' hS
            try dsimp only at hS
            go_simp
            try with_reducible rfl
          try simp only [Act.put, List.setIfInBounds_toArray, List.set_cons_zero, List.set_cons_succ, List.getElem_toArray, List.getElem_cons_zero, List.getElem_cons_succ]
        refine plan_call (F := 31) (args := ?_) rfl (by rfl) ?_ ?_
        rotate_left
        · go_simp
          rfl
        refine (HWO.out w2.drew HB2.out.drew).mono ?_
        rintro e w3 ⟨rv, rfl, hrv, hb3⟩
        have HB3 : Hid (Below w2.heap.size w2 w3) := Lib.hid ((Below.refl _ _).drew.trans hb3)
        have HRV := Lib.hid hrv
        obtain ⟨q4, c4, rfl, -⟩ := own_cap hrv
        clear hb3 hrv
        refine ⟨_, rfl, HS.out _ HB3.out, ?_⟩
        try simp only [Act.put, List.setIfInBounds_toArray, List.set_cons_zero, List.set_cons_succ, List.getElem_toArray, List.getElem_cons_zero, List.getElem_cons_succ]
        have HBW : Hid (Below w.heap.size w w3) := Lib.hid (HB2.out.trans (HB3.out.mono HB2.out.size))
        refine plan_call (F := 33) (args := ?_) rfl (by rfl) ?_ ?_
        rotate_left
        · go_simp
          rfl
        refine (HWI.out w3 q4 c4 HBW.out (by have := HB3.out.size; have := HSZ2.out; omega) (HRV.out.mono (by have := HSZ2.out; simpa using this))).mono ?_
        rintro e w4 ⟨v5, rfl, hv5, hb4⟩
        have HB4 : Hid (Below w3.heap.size w3 w4) := Lib.hid hb4
        obtain ⟨p5, n5, c5, xs5, rfl, hc5, ho5⟩ := hv5
        have HV5 : Hid (Co (fun R => S R ∨ R = w.heap.size + 1) w4 (.agg #[.int .i64 C'.sets, .int .i64 C'.ways, .int .i64 C'.clock, .slice p5 n5 c5]) C') := Lib.hid ⟨p5, n5, c5, xs5, rfl, hc5, ho5⟩
        clear hb4 hc5 ho5
        refine ⟨_, rfl, HS.out _ (HB3.out.trans (HB4.out.mono HB3.out.size)), ?_⟩
        try simp only [Act.put, List.setIfInBounds_toArray, List.set_cons_zero, List.set_cons_succ, List.getElem_toArray, List.getElem_cons_zero, List.getElem_cons_succ]
        refine plan_nil ?_
        simp only [List.drop_succ_cons, List.drop_zero]
        have HT4 := Lib.hid ((HT2.out.below HB3.out).below HB4.out)
        have HBX : Hid (Below w.heap.size w w4) := Lib.hid (HBW.out.trans (HB4.out.mono HBW.out.size))
        clear HS HWO HWI HT2 HA2 HB3 HB4 HBW HRV
        have cT := HT4.out.c
        have fT := HT4.out.f
        have lT := HT4.out.lt
        go_wp2_with fail
        exact bodyPost_ret (v := .tuple #[.agg #[.int .i64 C'.sets, .int .i64 C'.ways, .int .i64 C'.clock, .slice p5 n5 c5], .int .i64 0]) (by simp [results, Try.results17, go_sem, *]) rfl ⟨_, rfl, (HV5.out.set4 (.inr rfl) _ _ _ _).weak (fun R hR => .inl hR), set4_below HBX.out (by omega) _ _ _ _⟩
end Go.Proofs.Ytoddmgaihggkjaa
