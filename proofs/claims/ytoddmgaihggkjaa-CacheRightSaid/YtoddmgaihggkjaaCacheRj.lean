/- The document's own: a line used; no condition but that the cache reads. -/
import Derived.Test.YtoddmgaihggkjaaCacheRi
namespace Go.Proofs.Ytoddmgaihggkjaa
set_option linter.unusedVariables false
open Go.ChangeShapes Go.WideShapes Go.ChangeAt Go.RowKit

theorem can_no {C : Ch} {a : Int} (h : rightC C = false ∨ a < 0 ∨ 1099511627776 ≤ C.clock) : canC C a = false := by
  unfold canC
  rcases h with h | h
  · rw [h]; rfl
  · rw [decide_eq_false (by unfold clockTop; omega), Bool.and_false]
theorem can_yes {C : Ch} {a : Int} (h : rightC C = true) (ha : ¬ a < 0) (hk : ¬ 1099511627776 ≤ C.clock) : canC C a = true := by
  unfold canC
  rw [h, decide_eq_true (by unfold clockTop; omega)]
  rfl
theorem use_1 {C : Ch} {a : Int} (h : rightC C = false ∨ a < 0 ∨ 1099511627776 ≤ C.clock) : useC C a = C ∧ useE C a = 1 := by
  have hm := can_no h
  unfold useC useE
  rw [hm]
  exact ⟨rfl, rfl⟩
theorem use_7 {C : Ch} {a : Int} (h : rightC C = true) (ha : ¬ a < 0) (hk : ¬ 1099511627776 ≤ C.clock) (h2 : atC C a < 0) : useC C a = C ∧ useE C a = 7 := by
  have hm := can_yes h ha hk
  unfold useC useE
  rw [hm, if_pos rfl, if_neg (show ¬ 0 ≤ atC C a by omega), decide_eq_false (show ¬ 0 ≤ atC C a by omega)]
  exact ⟨rfl, rfl⟩
theorem use_0 {C : Ch} {a : Int} {j : Nat} (h : rightC C = true) (ha : ¬ a < 0) (hk : ¬ 1099511627776 ≤ C.clock) (hj : atC C a = (j : Int)) : useC C a = ⟨C.sets, C.ways, C.clock + 1, C.lines.set (setNo C a) ((setC C a).set j (usedL ((setC C a).getD j zL) (C.clock + 1)))⟩ ∧ useE C a = 0 := by
  have hm := can_yes h ha hk
  unfold useC useE lineAt
  rw [hm, if_pos rfl, if_pos (show 0 ≤ atC C a by omega), decide_eq_true (show 0 ≤ atC C a by omega), hj]
  exact ⟨rfl, rfl⟩

set_option maxHeartbeats 4000000 in
set_option maxRecDepth 100000 in
theorem refuse_any (S : Nat → Prop) (v : Value) (C : Ch) (a : Int) (w : World) (h : Co S w v C) (hS : ∀ R, S R → R < w.heap.size) : Calls Try.prog 14 #[v, .int .i64 a] w fun e w' => OutC S w w' e (useC C a) (useE C a) := by
  have HF := Lib.hid (fun W hW => refright_any S v C W (h.below (w := w) (w' := W) hW))
  obtain ⟨p, n, c, xs, rfl, hc, hoff⟩ := h
  have hn := hc.n100
  have HC := Lib.hid hc
  have HOF := Lib.hid hoff
  have HSS := Lib.hid hS
  obtain ⟨C', hC'⟩ : ∃ z, z = useC C a := ⟨_, rfl⟩
  obtain ⟨E, hE⟩ : ∃ z, z = useE C a := ⟨_, rfl⟩
  rw [← hC', ← hE]
  have HCE := Lib.hid hC'
  have HEE := Lib.hid hE
  have HSAME : Hid (∀ w' E, Below w.heap.size w w' → OutC S w w' (.returned (.tuple #[.agg #[.int .i64 C.sets, .int .i64 C.ways, .int .i64 C.clock, .slice p n c], .int .i64 E])) C E) := Lib.hid (fun w' E hb => outC_same hc hoff hb)
  clear hc hC' hE hoff hS
  obtain ⟨w0, hw0⟩ : ∃ w0, w0 = (w.alloc (.cells #[.int .i64 C.sets, .int .i64 C.ways, .int .i64 C.clock, .slice p n c] 24)).alloc (.cells #[.int .i64 0, .int .i64 0, .int .i64 0, .slice none 0 0] 24) := ⟨_, rfl⟩
  have HB0 : Hid (Below w.heap.size w w0) := Lib.hid (by rw [hw0]; exact ((Below.refl _ _).alloc (Nat.le_refl _) _).alloc (by simp) _)
  have HA0 : Hid (Blk w0 w.heap.size #[.int .i64 C.sets, .int .i64 C.ways, .int .i64 C.clock, .slice p n c]) := Lib.hid (by rw [hw0]; exact (Blk.new _ _ _).alloc _)
  have HT0 : Hid (Blk w0 (w.heap.size + 1) #[.int .i64 0, .int .i64 0, .int .i64 0, .slice none 0 0]) := Lib.hid (by
    have := Blk.new (w.alloc (.cells #[.int .i64 C.sets, .int .i64 C.ways, .int .i64 C.clock, .slice p n c] 24)) #[.int .i64 0, .int .i64 0, .int .i64 0, .slice none 0 0] 24
    rw [World.size_alloc] at this
    rw [hw0]; exact this)
  have HQ := Lib.hid (HF.out w0 HB0.out)
  have HW0 := Lib.hid hw0
  clear HF hw0
  go_enter Try.func14, Try.ntmps14
  have kA := HA0.out.c
  go_upto_region 1 with fail
  rw [← HW0.out]
  clear HW0
  go_wp2_with fail
  refine HQ.out.mono ?_
  rintro e w1 ⟨rfl, hb1⟩
  have HA1 := Lib.hid (HA0.out.below hb1)
  have HT1 := Lib.hid (HT0.out.below hb1)
  have HB1 : Hid (Below w.heap.size w w1) := Lib.hid (HB0.out.trans (hb1.mono HB0.out.size))
  clear hb1 HA0 HB0 HQ HT0 kA
  have kA := HA1.out.c
  have cT := HT1.out.c
  have fT := HT1.out.f
  have lT := HT1.out.lt
  cases hr : rightC C with
  | false =>
    obtain ⟨e1, e2⟩ := use_1 (a := a) (.inl hr)
    have e3 := HCE.out.trans e1
    have e4 := HEE.out.trans e2
    subst e3 e4
    clear e1 e2 hr HCE HEE
    go_wp2_with fail
    exact bodyPost_ret (v := .tuple #[.agg #[.int .i64 C'.sets, .int .i64 C'.ways, .int .i64 C'.clock, .slice p n c], .int .i64 1]) (by simp [results, Try.results14, go_sem, *]) rfl (HSAME.out _ _ (set4_below HB1.out (by omega) _ _ _ _))
  | true =>
    by_cases ha : a < 0
    · have d1 : decide (a < 0) = true := decide_eq_true ha
      obtain ⟨e1, e2⟩ := use_1 (C := C) (.inr (.inl ha))
      have e3 := HCE.out.trans e1
      have e4 := HEE.out.trans e2
      subst e3 e4
      clear e1 e2 hr HCE HEE
      go_wp2_with fail
      exact bodyPost_ret (v := .tuple #[.agg #[.int .i64 C'.sets, .int .i64 C'.ways, .int .i64 C'.clock, .slice p n c], .int .i64 1]) (by simp [results, Try.results14, go_sem, *]) rfl (HSAME.out _ _ (set4_below HB1.out (by omega) _ _ _ _))
    · have d1 : decide (a < 0) = false := decide_eq_false ha
      have HNA := Lib.hid ha
      clear ha
      by_cases hck : 1099511627776 ≤ C.clock
      · have d3 : decide (1099511627776 ≤ C.clock) = true := decide_eq_true hck
        obtain ⟨e1, e2⟩ := use_1 (a := a) (.inr (.inr hck))
        have e3 := HCE.out.trans e1
        have e4 := HEE.out.trans e2
        subst e3 e4
        clear e1 e2 hr HCE HEE hck
        go_wp2_with fail
        exact bodyPost_ret (v := .tuple #[.agg #[.int .i64 C'.sets, .int .i64 C'.ways, .int .i64 C'.clock, .slice p n c], .int .i64 1]) (by simp [results, Try.results14, go_sem, *]) rfl (HSAME.out _ _ (set4_below HB1.out (by omega) _ _ _ _))
      have d3 : decide (1099511627776 ≤ C.clock) = false := decide_eq_false hck
      have HCK := Lib.hid hck
      clear hck
      have HRT := Lib.hid (right_rt hr)
      have hAT := at_any p n c xs C a w1 (HC.out.below HB1.out) (right_rt hr) (by have := HNA.out; omega)
      have HAT := Lib.hid hAT
      clear hAT cT fT lT
      go_wp2_with fail
      refine HAT.out.mono ?_
      rintro e w2 ⟨rfl, hb2⟩
      have HA2 := Lib.hid (HA1.out.below hb2)
      have HT2 := Lib.hid (HT1.out.below hb2)
      have HB2 : Hid (Below w.heap.size w w2) := Lib.hid (HB1.out.trans (hb2.mono HB1.out.size))
      clear hb2 kA HA1 HT1 HB1 HAT
      by_cases hat : atC C a < 0
      · obtain ⟨e1, e2⟩ := use_7 (a := a) hr (by have := HNA.out; omega) (by have := HCK.out; omega) hat
        have e3 := HCE.out.trans e1
        have e4 := HEE.out.trans e2
        subst e3 e4
        have d2 : decide (atC C' a < 0) = true := decide_eq_true hat
        clear e1 e2 hr HCE HEE HRT hat HCK
        generalize atC C' a = T at d2 ⊢
        have kA := HA2.out.c
        have cT := HT2.out.c
        have fT := HT2.out.f
        have lT := HT2.out.lt
        go_wp2_with fail
        exact bodyPost_ret (v := .tuple #[.agg #[.int .i64 C'.sets, .int .i64 C'.ways, .int .i64 C'.clock, .slice p n c], .int .i64 7]) (by simp [results, Try.results14, go_sem, *]) rfl (HSAME.out _ _ (set4_below HB2.out (by omega) _ _ _ _))
      · have d2 : decide (atC C a < 0) = false := decide_eq_false hat
        have HAN := Lib.hid hat
        have hh := has_yes (a := a) hr (by have := HNA.out; omega) (by have := HAN.out; omega)
        obtain ⟨j, hj, hjl, hl⟩ := atC_lt2 (show 0 ≤ atC C a by have := HAN.out; omega)
        obtain ⟨e1, e2⟩ := use_0 hr (by have := HNA.out; omega) (by have := HCK.out; omega) hj
        have e3 := HCE.out.trans e1
        have e4 := HEE.out.trans e2
        have hkn : setNo C a < n := by have := HRT.out.set_lt a; have := HC.out.zn; omega
        have hk2 := HRT.out.set_as a
        have hs1 := HRT.out.n1
        obtain ⟨b, off, q, x, c2, rfl, hat2⟩ := HC.out.setAt (setNo C a) hkn
        rw [setC_eq] at hat2
        have hjx : j < x := by rw [← hat2.len]; exact hjl
        obtain ⟨i0, hi, hz0, hz1, hz2⟩ := info_parts info30
        have HI := Lib.hid (And.intro hi (And.intro hz0 (And.intro hz1 hz2)))
        have HSL : Hid (∀ V, Below w.heap.size w V → Sl V q x (lnC (setC C a))) := Lib.hid (fun V hV => by
          have := (hat2.below hV).lm.sl
          rw [hat2.len] at this
          exact this)
        have HLL : Hid ((lnC (setC C a)).length = x * 4) := Lib.hid (by rw [lnC_len, hat2.len])
        have HL1 : Hid (∀ u ∈ lnC (setC C a), u.oneCell' = true) := Lib.hid (lnC_one _)
        have HXX : Hid (x ≤ 100 ∧ j < x) := Lib.hid ⟨hat2.x100, hjx⟩
        have HWI : Hid (∀ V (q : Option Addr) (cq : Nat), Below w.heap.size w V → w.heap.size + 2 ≤ V.heap.size → V.ownsRow (w.heap.size + 2) 30 4 (.slice q x cq) x ((lnC (setC C a)).set (j * 4 + 3) (.int .i64 (C.clock + 1))) → Calls Try.prog 33 #[.agg #[.int .i64 C.sets, .int .i64 C.ways, .int .i64 (C.clock + 1), .slice (some ⟨b, off, none⟩) n c], .int .i64 (setNo C a : Nat), .slice q x cq] V fun e w' => ∃ v, e = .returned v ∧ Co (fun R => S R ∨ R = w.heap.size + 1) w' v C' ∧ Below V.heap.size V w') := Lib.hid (fun V q cq hV h2 hl => by
          rw [e3]
          have hlen : ((setC C a).set j (usedL ((setC C a).getD j zL) (C.clock + 1))).length = x := by rw [List.length_set]; exact hat2.len
          rw [← lnC_used (setC C a) j hjl] at hl
          have hl2 : Lw (w.heap.size + 2) V (.slice q x cq) ((setC C a).set j (usedL ((setC C a).getD j zL) (C.clock + 1))) := by
            unfold Lw
            rw [hlen]
            exact hl
          have hmain := with_any (fun R => S R ∨ R = w.heap.size + 1) (some ⟨b, off, none⟩) n c (setNo C a) xs C (C.clock + 1) q cq ((setC C a).set j (usedL ((setC C a).getD j zL) (C.clock + 1))) V (HC.out.below hV) hkn (by rw [hlen]; exact hl2.lv) (by rw [hlen]; exact hat2.x100) (fun R hR => by
            rcases hR with hR | hR
            · exact HOF.out R hR
            · exact HC.out.off (by omega)) (fun R hR _ g e => by
            rw [hlen] at e
            have h3 := (World.ownsRow.lt hl g e).1
            rcases hR with hR | hR
            · have := HSS.out R hR; omega
            · omega) (fun R hR => by
            rcases hR with hR | hR
            · have := HSS.out R hR; omega
            · omega)
          rw [hlen] at hmain
          exact hmain)
        have HS : Hid (∀ V, Below w2.heap.size w2 V → (∀ t, V.cell? ⟨w.heap.size, t, none⟩ = (#[.int .i64 C.sets, .int .i64 C.ways, .int .i64 C.clock, .slice (some ⟨b, off, none⟩) n c] : Array Value)[t]?) ∧ V.cell? ⟨b, off + setNo C a, none⟩ = some (.slice q x c2)) := Lib.hid (fun V hV => by
          have hWV : Below w.heap.size w V := HB2.out.trans (hV.mono HB2.out.size)
          exact ⟨(HA2.out.below hV).c, (hat2.below hWV).cell⟩)
        rw [hj] at d2 ⊢
        have HC'S : Hid (C'.sets = C.sets ∧ C'.ways = C.ways ∧ C'.clock = C.clock + 1) := Lib.hid (by rw [e3]; exact ⟨rfl, rfl, rfl⟩)
        obtain ⟨L, hL⟩ : ∃ L, L = lnC (setC C a) := ⟨_, rfl⟩
        rw [← hL] at HSL HLL HL1 HWI
        obtain ⟨k, hke⟩ : ∃ k, k = setNo C a := ⟨_, rfl⟩
        rw [← hke] at hkn HS hk2 HWI
        have HK0 : Hid (0 ≤ C.clock ∧ C.clock < 1099511627776) := Lib.hid ⟨HRT.out.k0, by have := HCK.out; omega⟩
        obtain ⟨A, W, K, hA, hW, hK⟩ : ∃ A W K, A = C.sets ∧ W = C.ways ∧ K = C.clock := ⟨_, _, _, rfl, rfl, rfl⟩
        rw [← hA] at hk2 hs1
        rw [← hA, ← hW, ← hK] at HS HWI HA2 HC'S
        rw [← hK] at HK0 d3
        rw [← hA, ← hW, ← hK]
        have htm : a.tmod A = (k : Int) := by rw [Int.tmod_eq_emod_of_nonneg (by have := HNA.out; omega), hk2]
        have hA0 : A ≠ 0 := by omega
        have hkI : (k : Int) < (n : Int) := by omega
        have hjI : (j : Int) < (x : Int) := by omega
        have HLT2 := Lib.hid HT2.out.lt
        subst e4
        clear HCE HEE hA hW hK hke hL e1 e2 e3 hl hjl hj hat hat2 hh hr hk2 HC HRT HAN HSAME HOF hjx HCK hi hz0 hz1 hz2
        go_upto_region 6 with fail
        refine region_planT (fun V : World => (∀ t, V.cell? ⟨w.heap.size, t, none⟩ = (#[.int .i64 A, .int .i64 W, .int .i64 K, .slice (some ⟨b, off, none⟩) n c] : Array Value)[t]?) ∧ V.cell? ⟨b, off + k, none⟩ = some (.slice q x c2)) 9 (.read 1 (.read 2 (.read 3 (.read 4 (.read 5 (.read 6 (.read 7 (.read 8 (.one 0 .stop))))))))) (by kernel_rfl) (by kernel_rfl) (HS.out _ (Below.refl _ _).drew) ?_
        iterate 8
          refine planT_read (v := ?_) rfl (by rfl) ?_ ?_
          rotate_left
          · intro w' hS
            try dsimp only at hS
            go_simp
            try with_reducible rfl
          try simp only [Act.put, List.setIfInBounds_toArray, List.set_cons_zero, List.set_cons_succ, List.getElem_toArray, List.getElem_cons_zero, List.getElem_cons_succ]
        refine planT_one (op_make (v := .slice (some ⟨w2.heap.size, 0, none⟩) 0 0) (w1 := w2.drew.alloc (.cells #[] 30)) rfl (by rfl) (by go_simp) ⟨HS.out _ ((Below.refl _ _).drew.alloc (Nat.le_refl _) _), ?_⟩)
        try simp only [Act.put, List.setIfInBounds_toArray, List.set_cons_zero, List.set_cons_succ, List.getElem_toArray, List.getElem_cons_zero, List.getElem_cons_succ]
        refine planT_stop ?_
        simp only [List.drop_succ_cons, List.drop_zero]
        clear hkI hjI d2 d1 d3
        go_wp2_with (first | (at_builtin; refine wpList_append_sl rfl _ _ 28 rfl w2.heap.size 30 i0 _ 4 32 Try.underlying28 HI.out.1 HI.out.2.1 HI.out.2.2.1 HI.out.2.2.2 rfl (by decide) _ 0 [] rfl (fresh_made (w := w2.drew) (Nat.le_refl _)) q x c2 L rfl HLL.out (HSL.out _ (HB2.out.drew.alloc HB2.out.size _)) HL1.out (by have := HXX.out.1; unfold maxLen; omega) (by have := HXX.out.1; omega) (by simp) ?_))
        intro v' w3 g1 g2 g3
        have HB3 : Hid (Below w2.heap.size w2 w3) := Lib.hid ((((Below.refl w2.heap.size w2).alloc (Nat.le_refl _) _).drew).grown g2 (by simp) (fun k hk => by simp [Value.ownBlock] at hk; omega))
        obtain ⟨q3, c3, rfl, -⟩ := own_cap g1
        obtain ⟨g, rfl, -, -, hg0, hg1⟩ := own_go g1 (by have := HXX.out.2; omega)
        have HGG : Hid (w.heap.size + 2 ≤ g) := Lib.hid (by have := HLT2.out; omega)
        have HO3 : Hid (w3.ownsRow (w.heap.size + 2) 30 4 (.slice (some ⟨g, 0, none⟩) x c3) x L) := Lib.hid (own_base g1 (by have := HLT2.out; omega))
        have HA3 := Lib.hid (HA2.out.below HB3.out)
        have HT3 := Lib.hid (HT2.out.below HB3.out)
        have HBW : Hid (Below w.heap.size w w3) := Lib.hid (HB2.out.trans (HB3.out.mono HB2.out.size))
        clear g1 g2 g3 hg0 hg1 HS HA2 HT2 HB3 HSL HL1 HI
        have kA := HA3.out.c
        have fA := HA3.out.f
        have lA := HA3.out.lt
        have hw : wrap64 (K + 1) = K + 1 := by have := HK0.out; unfold wrap64; omega
        have hw2 : IntKind.i64.wrap (K + 1) = K + 1 := by have := HK0.out; rw [IntKind.wrap_i64]; omega
        go_upto_region 8 with fail
        obtain ⟨w4, hw4⟩ : ∃ z, z = w3.setCell ⟨w.heap.size, 2, none⟩ (.int .i64 (K + 1)) := ⟨_, rfl⟩
        have HA4 : Hid (Blk w4 w.heap.size #[.int .i64 A, .int .i64 W, .int .i64 (K + 1), .slice (some ⟨b, off, none⟩) n c]) := Lib.hid (by rw [hw4]; exact HA3.out.set (n := 2) _ (by simp))
        have HT4 : Hid (Blk w4 (w.heap.size + 1) #[.int .i64 0, .int .i64 0, .int .i64 0, .slice none 0 0]) := Lib.hid (by rw [hw4]; exact HT3.out.other _ (by omega))
        have HB4 : Hid (Below w.heap.size w w4) := Lib.hid (by rw [hw4]; exact HBW.out.setCell (p := ⟨w.heap.size, 2, none⟩) (Nat.le_refl _) _)
        have HO4 : Hid (w4.ownsRow (w.heap.size + 2) 30 4 (.slice (some ⟨g, 0, none⟩) x c3) x L) := Lib.hid (by rw [hw4]; exact own_off HO3.out (fun b e => by injection e with e; have e2 : g = b := e; have := HGG.out; omega) _ _)
        rw [← hw4]
        clear hw4 kA fA lA HA3 HT3 HBW HO3 hw hw2
        have kA := HA4.out.c
        have hjI : (j : Int) < (x : Int) := by have := HXX.out.2; omega
        have HCE2 : Hid (∃ u, w4.cell? ⟨g, j * 4 + 3, none⟩ = some u) := Lib.hid ⟨_, (HO4.out.cellAt (j * 4 + 3) (by have := HXX.out.2; omega)).trans (List.getElem?_eq_getElem (by rw [HLL.out]; have := HXX.out.2; omega))⟩
        obtain ⟨u, hu⟩ := HCE2.out
        have hfz := HO4.out.frozenAt (j * 4 + 3)
        obtain ⟨w5, hw5⟩ : ∃ z, z = w4.setCell ⟨g, j * 4 + 3, none⟩ (.int .i64 (K + 1)) := ⟨_, rfl⟩
        have HA5 : Hid (Blk w5 w.heap.size #[.int .i64 A, .int .i64 W, .int .i64 (K + 1), .slice (some ⟨b, off, none⟩) n c]) := Lib.hid (by rw [hw5]; exact HA4.out.other _ (by have := HGG.out; omega))
        have HT5 : Hid (Blk w5 (w.heap.size + 1) #[.int .i64 0, .int .i64 0, .int .i64 0, .slice none 0 0]) := Lib.hid (by rw [hw5]; exact HT4.out.other _ (by have := HGG.out; omega))
        have HB5 : Hid (Below w.heap.size w w5) := Lib.hid (by rw [hw5]; exact HB4.out.setCell (p := ⟨g, j * 4 + 3, none⟩) (by show w.heap.size ≤ g; have := HGG.out; omega) _)
        have HO5 : Hid (w5.ownsRow (w.heap.size + 2) 30 4 (.slice (some ⟨g, 0, none⟩) x c3) x (L.set (j * 4 + 3) (.int .i64 (K + 1)))) := Lib.hid (by rw [hw5]; exact (HO4.out.stored (j * 4 + 3) _).1)
        have HW5 := Lib.hid hw5
        clear hw5 HT4 HB4
        go_upto_region 9 with fail
        rw [← HW5.out]
        clear HW5 HCE2 hu hfz kA HA4 HO4
        have hLT5 := HT5.out.lt
        have HS5 : Hid (∀ V, Below w5.heap.size w5 V → ∀ t, V.cell? ⟨w.heap.size, t, none⟩ = (#[.int .i64 A, .int .i64 W, .int .i64 (K + 1), .slice (some ⟨b, off, none⟩) n c] : Array Value)[t]?) := Lib.hid (fun V hV => (HA5.out.below hV).c)
        refine region_plan (fun V : World => ∀ t, V.cell? ⟨w.heap.size, t, none⟩ = (#[.int .i64 A, .int .i64 W, .int .i64 (K + 1), .slice (some ⟨b, off, none⟩) n c] : Array Value)[t]?) 7 [(0, true), (1, true), (2, true), (3, true), (4, true), (5, true), (6, false)] (by kernel_rfl) (by kernel_rfl) (HS5.out _ (Below.refl _ _).drew) ?_
        iterate 6
          refine plan_read (v := ?_) rfl (by rfl) ?_ ?_
          rotate_left
          · intro w' hS
            try dsimp only at hS
            go_simp
            try with_reducible rfl
          try simp only [Act.put, List.setIfInBounds_toArray, List.set_cons_zero, List.set_cons_succ, List.getElem_toArray, List.getElem_cons_zero, List.getElem_cons_succ]
        refine plan_call (F := 33) (args := ?_) rfl (by rfl) ?_ ?_
        rotate_left
        · go_simp
          rfl
        refine (HWI.out w5.drew (some ⟨g, 0, none⟩) c3 HB5.out.drew (by show w.heap.size + 2 ≤ w5.heap.size; omega) (own_below HO5.out (Below.refl _ _).drew)).mono ?_
        rintro e w6 ⟨v5, rfl, hv5, hb4⟩
        have HB6 : Hid (Below w5.heap.size w5 w6) := Lib.hid ((Below.refl _ _).drew.trans hb4)
        obtain ⟨p5, n5, c5, xs5, rfl, hc5, ho5⟩ := hv5
        have HV5 : Hid (Co (fun R => S R ∨ R = w.heap.size + 1) w6 (.agg #[.int .i64 C'.sets, .int .i64 C'.ways, .int .i64 C'.clock, .slice p5 n5 c5]) C') := Lib.hid ⟨p5, n5, c5, xs5, rfl, hc5, ho5⟩
        clear hb4 hc5 ho5
        refine ⟨_, rfl, HS5.out _ HB6.out, ?_⟩
        try simp only [Act.put, List.setIfInBounds_toArray, List.set_cons_zero, List.set_cons_succ, List.getElem_toArray, List.getElem_cons_zero, List.getElem_cons_succ]
        refine plan_nil ?_
        simp only [List.drop_succ_cons, List.drop_zero]
        have HT6 := Lib.hid (HT5.out.below HB6.out)
        have HBX : Hid (Below w.heap.size w w6) := Lib.hid (HB5.out.trans (HB6.out.mono HB5.out.size))
        clear HWI HT5 HA5 HB5 HB6 HO5 HS5
        have cT := HT6.out.c
        have fT := HT6.out.f
        have lT := HT6.out.lt
        go_wp2_with fail
        exact bodyPost_ret (v := .tuple #[.agg #[.int .i64 C'.sets, .int .i64 C'.ways, .int .i64 C'.clock, .slice p5 n5 c5], .int .i64 0]) (by simp [results, Try.results14, go_sem, *]) rfl ⟨_, rfl, (HV5.out.set4 (.inr rfl) _ _ _ _).weak (fun R hR => .inl hR), set4_below HBX.out (by omega) _ _ _ _⟩
end Go.Proofs.Ytoddmgaihggkjaa
