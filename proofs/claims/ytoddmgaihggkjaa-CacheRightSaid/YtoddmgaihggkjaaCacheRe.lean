/- The document's own: is a cache right; no condition but that it reads. -/
import Derived.Test.YtoddmgaihggkjaaCacheRd
namespace Go.Proofs.Ytoddmgaihggkjaa
set_option linter.unusedVariables false
open Go.ChangeShapes Go.WideShapes Go.ChangeAt Go.RowKit

theorem rc_head {C : Ch} (h : ¬ (1 ≤ C.sets ∧ C.sets ≤ 8 ∧ 1 ≤ C.ways ∧ C.ways ≤ 8 ∧ 0 ≤ C.clock ∧ C.clock ≤ 1099511627776 ∧ (C.lines.length : Int) = C.sets)) : rightC C = false := by
  cases hr : rightC C with
  | false => rfl
  | true =>
    have := right_rt hr
    exact absurd ⟨this.n1, this.n8, this.m1, this.m8, this.k0, this.kt, this.len⟩ h
theorem rc_set {C : Ch} {k : Nat} (hk : k < C.lines.length) (h : setB C k = false) : rightC C = false := by
  unfold rightC
  rw [Bool.and_eq_false_iff, Bool.and_eq_false_iff]
  exact .inr (.inl (List.all_eq_false.2 ⟨k, List.mem_range.2 hk, by rw [h]; decide⟩))
theorem rc_long {C : Ch} {k : Nat} (h : C.ways < ((C.lines.getD k []).length : Int)) : setB C k = false := by
  unfold setB
  rw [Bool.and_eq_false_iff]
  exact .inl (decide_eq_false (by omega))
theorem rc_line {C : Ch} {k j : Nat} (hj : j < (C.lines.getD k []).length) (h : ¬ LnOk C.sets C.clock k ((C.lines.getD k []).getD j zL)) : setB C k = false := by
  unfold setB
  rw [Bool.and_eq_false_iff]
  refine .inr (List.all_eq_false.2 ⟨_, mem_getD _ zL j hj, ?_⟩)
  rw [lineB_iff]; exact h
theorem rc_sety {C : Ch} {k : Nat} (h : ((C.lines.getD k []).length : Int) ≤ C.ways) (hj : ∀ j, j < (C.lines.getD k []).length → LnOk C.sets C.clock k ((C.lines.getD k []).getD j zL)) : setB C k = true := by
  unfold setB
  rw [Bool.and_eq_true, decide_eq_true_eq, List.all_eq_true]
  refine ⟨h, fun x hx => (lineB_iff _ _ _ _).2 ?_⟩
  obtain ⟨j, h1, rfl⟩ := mem_idx _ zL x hx
  exact hj j h1
theorem rc_pair {F : List Ln} {i j : Nat} (hij : j < i) (hi : i < F.length) (h : ¬ Two (F.getD i zL) (F.getD j zL)) : apartB F = false := by
  cases ha : apartB F with
  | false => rfl
  | true => exact absurd (apart_getD ((apart_iff F).1 ha) i j hi (by omega) (by omega)) h
theorem rc_pairs {F : List Ln} (h : ∀ i j, j < i → i < F.length → Two (F.getD i zL) (F.getD j zL)) : apartB F = true := by
  rw [apart_iff, List.pairwise_iff_getElem]
  intro i j hi hj hij
  rw [get_getD _ zL i hi, get_getD _ zL j hj]
  exact (h j i hij hj).symm
theorem rc_flat {C : Ch} (h : apartB C.lines.flatten = false) : rightC C = false := by
  unfold rightC
  rw [h, Bool.and_false, Bool.and_false]
theorem rc_yes {C : Ch} (h : 1 ≤ C.sets ∧ C.sets ≤ 8 ∧ 1 ≤ C.ways ∧ C.ways ≤ 8 ∧ 0 ≤ C.clock ∧ C.clock ≤ 1099511627776 ∧ (C.lines.length : Int) = C.sets) (hs : ∀ k, k < C.lines.length → setB C k = true) (ha : apartB C.lines.flatten = true) : rightC C = true := by
  unfold rightC headB mayS
  rw [Bool.and_eq_true, Bool.and_eq_true, Bool.and_eq_true, List.all_eq_true]
  exact ⟨⟨decide_eq_true ⟨h.1, h.2.1, h.2.2.1, h.2.2.2.1⟩, decide_eq_true ⟨h.2.2.2.2.1, h.2.2.2.2.2.1, h.2.2.2.2.2.2⟩⟩, fun k hk => hs k (List.mem_range.1 hk), ha⟩

set_option maxHeartbeats 8000000 in
set_option maxRecDepth 100000 in
theorem refright_any (S : Nat → Prop) (v : Value) (C : Ch) (w : World) (h : Co S w v C) : Calls Try.prog 23 #[v] w fun e w' => e = .returned (.bool (rightC C)) ∧ Below w.heap.size w w' := by
  obtain ⟨p, n, c, xs, rfl, hc, -⟩ := h
  have hn := hc.n100
  have hz := hc.zn
  have HC := Lib.hid hc
  obtain ⟨r, hr⟩ : ∃ r, r = rightC C := ⟨_, rfl⟩
  have HHD : Hid (¬ (1 ≤ C.sets ∧ C.sets ≤ 8 ∧ 1 ≤ C.ways ∧ C.ways ≤ 8 ∧ 0 ≤ C.clock ∧ C.clock ≤ 1099511627776 ∧ (n : Int) = C.sets) → r = false) := Lib.hid (fun h => by rw [hr]; exact rc_head (by rw [hz]; exact h))
  have HLONG : Hid (∀ k, k < n → C.ways < ((C.lines.getD k []).length : Int) → r = false) := Lib.hid (fun k hk h => by rw [hr]; exact rc_set (by omega) (rc_long h))
  have HLINE : Hid (∀ k j, k < n → j < (C.lines.getD k []).length → ¬ LnOk C.sets C.clock k ((C.lines.getD k []).getD j zL) → r = false) := Lib.hid (fun k j hk hj h => by rw [hr]; exact rc_set (by omega) (rc_line hj h))
  have HPAIR : Hid (∀ i j, j < i → i < C.lines.flatten.length → ¬ Two (C.lines.flatten.getD i zL) (C.lines.flatten.getD j zL) → r = false) := Lib.hid (fun i j h1 h2 h3 => by rw [hr]; exact rc_flat (rc_pair h1 h2 h3))
  have HYES : Hid (1 ≤ C.sets ∧ C.sets ≤ 8 ∧ 1 ≤ C.ways ∧ C.ways ≤ 8 ∧ 0 ≤ C.clock ∧ C.clock ≤ 1099511627776 ∧ (n : Int) = C.sets → (∀ k, k < n → ((C.lines.getD k []).length : Int) ≤ C.ways ∧ ∀ j, j < (C.lines.getD k []).length → LnOk C.sets C.clock k ((C.lines.getD k []).getD j zL)) → (∀ i j, j < i → i < C.lines.flatten.length → Two (C.lines.flatten.getD i zL) (C.lines.flatten.getD j zL)) → r = true) := Lib.hid (fun h1 h2 h3 => by
    rw [hr]
    exact rc_yes (by rw [hz]; exact h1) (fun k hk => rc_sety (h2 k (by omega)).1 (h2 k (by omega)).2) (rc_pairs h3))
  have HFL : Hid (C.lines.flatten.length ≤ 10000) := Lib.hid (by
    have := tot_le C.lines n (by omega) (by omega) hc.l100
    rw [← hz, List.take_length] at this
    omega)
  have HFA : Hid (∀ W, Below w.heap.size w W → Calls Try.prog 30 #[.agg #[.int .i64 C.sets, .int .i64 C.ways, .int .i64 C.clock, .slice p n c]] W fun e w' => ∃ v, e = .returned v ∧ Lw W.heap.size w' v C.lines.flatten ∧ Below W.heap.size W w') := Lib.hid (fun W hW => flat_any p n c xs C W (hc.below hW))
  obtain ⟨F, hF⟩ : ∃ F, F = C.lines.flatten := ⟨_, rfl⟩
  rw [← hF] at HPAIR HYES HFL HFA
  rw [← hr]
  clear hr hF hz hc
  obtain ⟨A, W, K, hA, hW, hK⟩ : ∃ A W K, A = C.sets ∧ W = C.ways ∧ K = C.clock := ⟨_, _, _, rfl, rfl, rfl⟩
  rw [← hA, ← hW, ← hK] at HHD HYES HFA
  rw [← hW] at HLONG
  rw [← hA, ← hK] at HLINE
  rw [← hA, ← hW, ← hK]
  clear hA hW hK
  have HB0 : Hid (Below w.heap.size w (w.alloc (.cells #[.int .i64 A, .int .i64 W, .int .i64 K, .slice p n c] 24))) := Lib.hid ((Below.refl _ _).alloc (Nat.le_refl _) _)
  have HA0 : Hid (Blk (w.alloc (.cells #[.int .i64 A, .int .i64 W, .int .i64 K, .slice p n c] 24)) w.heap.size #[.int .i64 A, .int .i64 W, .int .i64 K, .slice p n c]) := Lib.hid (Blk.new _ _ _)
  by_cases c1 : A < 1
  · have e1 : decide (A < 1) = true := decide_eq_true c1
    have hr0 := HHD.out (by omega)
    subst hr0
    clear c1
    go_enter Try.func23, Try.ntmps23
    go_wp2_with fail
    go_ret
    exact ⟨rfl, HB0.out⟩
  have e1 : decide (A < 1) = false := decide_eq_false c1
  by_cases c2 : 8 < A
  · have e2 : decide (8 < A) = true := decide_eq_true c2
    have hr0 := HHD.out (by omega)
    subst hr0
    clear c1 c2
    go_enter Try.func23, Try.ntmps23
    go_wp2_with fail
    go_ret
    exact ⟨rfl, HB0.out⟩
  have e2 : decide (8 < A) = false := decide_eq_false c2
  by_cases c3 : W < 1
  · have e3 : decide (W < 1) = true := decide_eq_true c3
    have hr0 := HHD.out (by omega)
    subst hr0
    clear c1 c2 c3
    go_enter Try.func23, Try.ntmps23
    go_wp2_with fail
    go_ret
    exact ⟨rfl, HB0.out⟩
  have e3 : decide (W < 1) = false := decide_eq_false c3
  by_cases c4 : 8 < W
  · have e4 : decide (8 < W) = true := decide_eq_true c4
    have hr0 := HHD.out (by omega)
    subst hr0
    clear c1 c2 c3 c4
    go_enter Try.func23, Try.ntmps23
    go_wp2_with fail
    go_ret
    exact ⟨rfl, HB0.out⟩
  have e4 : decide (8 < W) = false := decide_eq_false c4
  by_cases c5 : K < 0
  · have e5 : decide (K < 0) = true := decide_eq_true c5
    have hr0 := HHD.out (by omega)
    subst hr0
    clear c1 c2 c3 c4 c5
    go_enter Try.func23, Try.ntmps23
    go_wp2_with fail
    go_ret
    exact ⟨rfl, HB0.out⟩
  have e5 : decide (K < 0) = false := decide_eq_false c5
  by_cases c6 : 1099511627776 < K
  · have e6 : decide (1099511627776 < K) = true := decide_eq_true c6
    have hr0 := HHD.out (by omega)
    subst hr0
    clear c1 c2 c3 c4 c5 c6
    go_enter Try.func23, Try.ntmps23
    go_wp2_with fail
    go_ret
    exact ⟨rfl, HB0.out⟩
  have e6 : decide (1099511627776 < K) = false := decide_eq_false c6
  by_cases c7 : ¬ (n : Int) = A
  · have e7 : ((n : Int) != A) = true := by simpa using c7
    have hr0 := HHD.out (by omega)
    subst hr0
    clear c1 c2 c3 c4 c5 c6 c7
    go_enter Try.func23, Try.ntmps23
    go_wp2_with fail
    go_ret
    exact ⟨rfl, HB0.out⟩
  have e7 : ((n : Int) != A) = false := by simpa using c7
  have HHEAD : Hid (1 ≤ A ∧ A ≤ 8 ∧ 1 ≤ W ∧ W ≤ 8 ∧ 0 ≤ K ∧ K ≤ 1099511627776 ∧ (n : Int) = A) := Lib.hid (by omega)
  clear c1 c2 c3 c4 c5 c6 HHD
  have c8 := Classical.not_not.1 c7
  clear c7
  subst c8
  go_enter Try.func23, Try.ntmps23
  go_upto_region 3 with fail
  clear e1 e2 e3 e4 e5 e6 e7
  go_wp2_with fail
  go_loopw [3] (fun i wr => ∃ k : Nat, k ≤ n ∧ i = .int .i64 k ∧ (∀ t, t < k → ((C.lines.getD t []).length : Int) ≤ W ∧ ∀ j, j < (C.lines.getD t []).length → LnOk (n : Int) K t ((C.lines.getD t []).getD j zL)) ∧ Blk wr w.heap.size #[.int .i64 (n : Int), .int .i64 W, .int .i64 K, .slice p n c] ∧ Below w.heap.size w wr) (fun i _ => n - (intOf i).toNat)
  case atStart => exact ⟨0, Nat.zero_le _, rfl, fun t ht => absurd ht (Nat.not_lt_zero _), HA0.out, HB0.out⟩
  case round =>
    obtain ⟨k, hk, rfl, hall, ha, hb⟩ := hrel
    have HALL := Lib.hid hall
    have HAA := Lib.hid ha
    have HB := Lib.hid hb
    clear hall ha hb HA0 HB0
    have kA := HAA.out.c
    by_cases hlt : k < n
    · have hkI : decide ((k : Int) < (n : Int)) = true := decide_eq_true (by omega)
      have hkI2 : (k : Int) < (n : Int) := by omega
      obtain ⟨b, off, q, x, c2, rfl, hat⟩ := HC.out.setAt k hlt
      obtain ⟨lt, cell, len, lm, cap, x100⟩ := hat.below HB.out
      have HX := Lib.hid len
      have HLM := Lib.hid lm
      have HLG := HLONG.out k hlt
      have HLI := HLINE.out k
      obtain ⟨l, hl⟩ : ∃ l, l = C.lines.getD k [] := ⟨_, rfl⟩
      rw [← hl] at HX HLM HLG HLI
      have HL := Lib.hid hl
      rw [HX.out] at HLG HLI
      have HLG2 := Lib.hid HLG
      have HLI2 := Lib.hid (fun j => HLI j hlt)
      have HAT := Lib.hid hat
      clear HLG HLI len lm hl hat
      go_upto_region 6 with fail
      refine region_plan (fun V : World => V = wr.drew) 8 [(0, true), (1, true), (2, true), (3, true), (4, true), (5, true), (6, true), (7, true)] (by kernel_rfl) (by kernel_rfl) rfl ?_
      iterate 8
        refine plan_read (v := ?_) rfl (by rfl) ?_ ?_
        rotate_left
        · intro w' hS
          try dsimp only at hS
          go_simp
          try with_reducible rfl
        try simp only [Act.put, List.setIfInBounds_toArray, List.set_cons_zero, List.set_cons_succ, List.getElem_toArray, List.getElem_cons_zero, List.getElem_cons_succ]
      refine plan_nil ?_
      simp only [List.drop_succ_cons, List.drop_zero]
      by_cases hw : W < (x : Int)
      · have hwI : decide (W < (x : Int)) = true := decide_eq_true hw
        go_wp2_with fail
        go_ret
        exact ⟨by rw [HLG2.out hw]; rfl, drewN_below HB.out 1⟩
      have hwI : decide (W < (x : Int)) = false := decide_eq_false hw
      go_upto_region 8 with fail
      clear kA hkI hkI2 hwI cell lt
      have HB1 : Hid (Below w.heap.size w wr.drew) := Lib.hid HB.out.drew
      have HA1 := Lib.hid HAA.out.drew
      clear HB HAA
      obtain ⟨w1, hw1⟩ : ∃ z, z = wr.drew := ⟨_, rfl⟩
      rw [← hw1] at HB1 HA1 ⊢
      clear hw1
      go_wp2_with fail
      go_loopw [4] (fun i wr => ∃ j : Nat, j ≤ x ∧ i = .int .i64 j ∧ (∀ t, t < j → LnOk (n : Int) K k (l.getD t zL)) ∧ Blk wr w.heap.size #[.int .i64 (n : Int), .int .i64 W, .int .i64 K, .slice (some ⟨b, off, none⟩) n c] ∧ Below w.heap.size w wr) (fun i _ => x - (intOf i).toNat)
      case atStart => exact ⟨0, Nat.zero_le _, rfl, fun t ht => absurd ht (Nat.not_lt_zero _), HA1.out, HB1.out⟩
      case round =>
        obtain ⟨j, hj, rfl, hall, ha, hb⟩ := hrel
        have HALL2 := Lib.hid hall
        have HAA := Lib.hid ha
        have HB := Lib.hid hb
        clear hall ha hb HA1 HB1
        have kA := HAA.out.c
        have hkI : (k : Int) < (n : Int) := by omega
        obtain ⟨lt, cell, len, lm, cap, x100⟩ := HAT.out.below HB.out
        rw [← HL.out] at lm len
        by_cases hjx : j < x
        · have hjI : (j : Int) < (x : Int) := by omega
          obtain ⟨b2, off2, rfl, hline⟩ := lm.at_ j (by rw [len]; exact hjx)
          obtain ⟨l0, d0, d1, d2, d3⟩ := hline
          obtain ⟨⟨ya, ys, yv, yu⟩, hy⟩ : ∃ y, y = l.getD j zL := ⟨_, rfl⟩
          have HLI := HLI2.out j hjx
          rw [← hy] at d0 d1 d2 d3 HLI
          dsimp only at d0 d1 d2 d3
          have HY := Lib.hid hy
          have HLJ := Lib.hid HLI
          clear hy HLI len lm cap hw
          go_upto_region 12 with fail
          obtain ⟨w4, hw4⟩ : ∃ z, z = wr.alloc (.cells #[.int .i64 ya, .int .i64 ys, .int .u32 (yv : Int), .int .i64 yu] 30) := ⟨_, rfl⟩
          have HK4 : Hid (Blk w4 wr.heap.size #[.int .i64 ya, .int .i64 ys, .int .u32 (yv : Int), .int .i64 yu]) := Lib.hid (by rw [hw4]; exact Blk.new _ _ _)
          have HA4 : Hid (Blk w4 w.heap.size #[.int .i64 (n : Int), .int .i64 W, .int .i64 K, .slice (some ⟨b, off, none⟩) n c]) := Lib.hid (by rw [hw4]; exact HAA.out.alloc _)
          have HB4 : Hid (Below w.heap.size w w4) := Lib.hid (by rw [hw4]; exact HB.out.alloc HB.out.size _)
          rw [← hw4]
          obtain ⟨g, hg⟩ : ∃ z, z = wr.heap.size := ⟨_, rfl⟩
          rw [← hg] at HK4 ⊢
          clear hw4 hg kA lt cell l0 d0 d1 d2 d3 HAA HB
          have kA := HA4.out.c
          have kY := HK4.out.c
          by_cases f1 : ya < 0
          · have g1 : decide (ya < 0) = true := decide_eq_true f1
            go_wp2_with fail
            go_ret
            exact ⟨by rw [HLJ.out (fun h => by have := h.a0; dsimp only at this; omega)]; rfl, HB4.out⟩
          have g1 : decide (ya < 0) = false := decide_eq_false f1
          have hn0 : ¬ n = 0 := by omega
          have hn1 : ¬ (n : Int) = 0 := by omega
          obtain ⟨M, hM⟩ : ∃ z, z = ya % (n : Int) := ⟨_, rfl⟩
          have htm : ya.tmod (n : Int) = M := by rw [hM]; exact Int.tmod_eq_emod_of_nonneg (by omega)
          have HM := Lib.hid hM
          clear hM
          by_cases f2 : M = (k : Int)
          rotate_left
          · have g2 : (M != (k : Int)) = true := by simpa using f2
            clear f1
            go_wp2_with fail
            go_ret
            exact ⟨by rw [HLJ.out (fun h => f2 (HM.out.trans h.as))]; rfl, HB4.out⟩
          have g2 : (M != (k : Int)) = false := by simpa using f2
          by_cases f3 : ys < 1
          · have g3 : decide (ys < 1) = true := decide_eq_true f3
            go_wp2_with fail
            go_ret
            exact ⟨by rw [HLJ.out (fun h => by have := h.s1; dsimp only at this; omega)]; rfl, HB4.out⟩
          have g3 : decide (ys < 1) = false := decide_eq_false f3
          by_cases f4 : 4 < ys
          · have g4 : decide (4 < ys) = true := decide_eq_true f4
            go_wp2_with fail
            go_ret
            exact ⟨by rw [HLJ.out (fun h => by have := h.s4; dsimp only at this; omega)]; rfl, HB4.out⟩
          have g4 : decide (4 < ys) = false := decide_eq_false f4
          by_cases f5 : yu < 1
          · have g5 : decide (yu < 1) = true := decide_eq_true f5
            go_wp2_with fail
            go_ret
            exact ⟨by rw [HLJ.out (fun h => by have := h.u1; dsimp only at this; omega)]; rfl, HB4.out⟩
          have g5 : decide (yu < 1) = false := decide_eq_false f5
          by_cases f6 : K < yu
          · have g6 : decide (K < yu) = true := decide_eq_true f6
            go_wp2_with fail
            go_ret
            exact ⟨by rw [HLJ.out (fun h => by have := h.uk; dsimp only at this; omega)]; rfl, HB4.out⟩
          have g6 : decide (K < yu) = false := decide_eq_false f6
          have HOK : Hid (LnOk (n : Int) K k (l.getD j zL)) := Lib.hid (by
            rw [← HY.out]
            exact ⟨by dsimp only; omega, by dsimp only; rw [← HM.out]; exact f2, by dsimp only; omega, by dsimp only; omega, by dsimp only; omega, by dsimp only; omega⟩)
          clear f1 f2 f3 f4 f5 f6
          go_wp2_with fail
          go_roundw
          case rel => exact ⟨j + 1, by omega, by go_num, fun t ht => by
            by_cases e : t = j
            · rw [e]; exact HOK.out
            · exact HALL2.out t (by omega), HA4.out, HB4.out⟩
          case measure => simp [intOf]; omega
        · have hjx2 : j = x := by omega
          subst hjx2
          go_wp2_with fail
          go_roundw
          case rel => exact ⟨k + 1, by omega, by go_num, fun t ht => by
            by_cases e : t = k
            · rw [e, ← HL.out]
              exact ⟨by rw [HX.out]; omega, fun i hi => HALL2.out i (by rw [HX.out] at hi; exact hi)⟩
            · exact HALL.out t (by omega), HAA.out, HB.out⟩
          case measure => simp [intOf]; omega
    · have hkn : k = n := by omega
      subst hkn
      have hQ := HFA.out wr HB.out
      have HQ := Lib.hid hQ
      clear hQ HFA HLINE HLONG
      go_wp2_with fail
      refine HQ.out.mono ?_
      rintro e w2 ⟨v, rfl, hv, hb2⟩
      obtain ⟨q, cq, rfl, hcq, hlq⟩ := hv.lv
      have HLQ := Lib.hid hlq
      have HB2 : Hid (Below w.heap.size w w2) := Lib.hid (HB.out.trans (hb2.mono HB.out.size))
      have hm0 := HFL.out
      obtain ⟨m, hm⟩ : ∃ m, m = F.length := ⟨_, rfl⟩
      rw [← hm] at HYES HPAIR hm0 ⊢
      have HMF := Lib.hid hm
      clear hv hb2 hlq hm hcq kA HFL HAA HB HQ
      go_wp2_with fail
      go_loopw [7] (fun i wr => ∃ s : Nat, s ≤ m ∧ i = .int .i64 s ∧ (∀ a b, b < a → a < s → Two (F.getD a zL) (F.getD b zL)) ∧ Below w2.heap.size w2 wr) (fun i _ => m - (intOf i).toNat)
      case atStart => exact ⟨0, Nat.zero_le _, rfl, fun a b h1 h2 => absurd h2 (Nat.not_lt_zero _), Below.refl _ _⟩
      case round =>
        obtain ⟨s, hs, rfl, hall, hb⟩ := hrel
        have HTWO := Lib.hid hall
        have HBR := Lib.hid hb
        clear hall hb
        by_cases hsm : s < m
        · have hsI : (s : Int) < (m : Int) := by omega
          go_wp2_with fail
          go_loopw [8] (fun i wr => ∃ t : Nat, t ≤ s ∧ i = .int .i64 t ∧ (∀ b, b < t → Two (F.getD s zL) (F.getD b zL)) ∧ Below w2.heap.size w2 wr) (fun i _ => s - (intOf i).toNat)
          case atStart => exact ⟨0, Nat.zero_le _, rfl, fun b h1 => absurd h1 (Nat.not_lt_zero _), HBR.out⟩
          case round =>
            obtain ⟨t, ht, rfl, hall, hb⟩ := hrel
            have HTW2 := Lib.hid hall
            have HBT := Lib.hid hb
            clear hall hb HBR
            by_cases hts : t < s
            · have htI : (t : Int) < (s : Int) := by omega
              have htI2 : (t : Int) < (m : Int) := by omega
              obtain ⟨b1, o1, rfl, h1⟩ := HLQ.out.at_ s (by rw [← HMF.out]; exact hsm)
              obtain ⟨b2, o2, e2, h2⟩ := HLQ.out.at_ t (by rw [← HMF.out]; omega)
              injection e2 with e2
              injection e2 with e3 e4 _
              subst e3 e4
              obtain ⟨l0, c0, c1, c2', c3⟩ := h1.below HBT.out
              obtain ⟨_, d0, d1, d2, d3⟩ := h2.below HBT.out
              have HPR := HPAIR.out s t hts hsm
              obtain ⟨y, hy⟩ : ∃ y, y = F.getD s zL := ⟨_, rfl⟩
              obtain ⟨z, hz⟩ : ∃ y, y = F.getD t zL := ⟨_, rfl⟩
              rw [← hy] at c0 c1 c2' c3 HPR
              rw [← hz] at d0 d1 d2 d3 HPR
              have HY := Lib.hid hy
              have HZ := Lib.hid hz
              have HPP := Lib.hid HPR
              have HBD : Hid (Below w.heap.size w wr.drew) := Lib.hid ((HB2.out.trans (HBT.out.mono HB2.out.size)).drew)
              clear hy hz h1 h2 HPR
              by_cases ea : y.addr = z.addr
              · have hq : (y.addr == z.addr) = true := by simpa using ea
                go_upto_region 21 with fail
                refine region_plan (fun V : World => V = wr.drew) 23 [(0, true), (1, true), (2, true), (3, true), (4, true), (5, true), (6, true), (7, true), (8, true), (9, true), (10, true), (11, true), (12, true), (13, true), (14, true), (15, true), (16, true), (17, true), (18, true), (19, true), (20, true), (21, true), (22, true)] (by kernel_rfl) (by kernel_rfl) rfl ?_
                iterate 12
                  refine plan_read (v := ?_) rfl (by rfl) ?_ ?_
                  rotate_left
                  · intro w' hS
                    try dsimp only at hS
                    go_simp
                    try with_reducible rfl
                  try simp only [Act.put, List.setIfInBounds_toArray, List.set_cons_zero, List.set_cons_succ, List.getElem_toArray, List.getElem_cons_zero, List.getElem_cons_succ]
                refine plan_skip rfl (by rfl) ?_
                try simp only [Act.put, List.setIfInBounds_toArray, List.set_cons_zero, List.set_cons_succ, List.getElem_toArray, List.getElem_cons_zero, List.getElem_cons_succ]
                refine plan_skip rfl (by rfl) ?_
                try simp only [Act.put, List.setIfInBounds_toArray, List.set_cons_zero, List.set_cons_succ, List.getElem_toArray, List.getElem_cons_zero, List.getElem_cons_succ]
                refine plan_skip rfl (by rfl) ?_
                try simp only [Act.put, List.setIfInBounds_toArray, List.set_cons_zero, List.set_cons_succ, List.getElem_toArray, List.getElem_cons_zero, List.getElem_cons_succ]
                refine plan_skip rfl (by rfl) ?_
                try simp only [Act.put, List.setIfInBounds_toArray, List.set_cons_zero, List.set_cons_succ, List.getElem_toArray, List.getElem_cons_zero, List.getElem_cons_succ]
                refine plan_skip rfl (by rfl) ?_
                try simp only [Act.put, List.setIfInBounds_toArray, List.set_cons_zero, List.set_cons_succ, List.getElem_toArray, List.getElem_cons_zero, List.getElem_cons_succ]
                refine plan_skip rfl (by rfl) ?_
                try simp only [Act.put, List.setIfInBounds_toArray, List.set_cons_zero, List.set_cons_succ, List.getElem_toArray, List.getElem_cons_zero, List.getElem_cons_succ]
                refine plan_skip rfl (by rfl) ?_
                try simp only [Act.put, List.setIfInBounds_toArray, List.set_cons_zero, List.set_cons_succ, List.getElem_toArray, List.getElem_cons_zero, List.getElem_cons_succ]
                refine plan_skip rfl (by rfl) ?_
                try simp only [Act.put, List.setIfInBounds_toArray, List.set_cons_zero, List.set_cons_succ, List.getElem_toArray, List.getElem_cons_zero, List.getElem_cons_succ]
                refine plan_skip rfl (by rfl) ?_
                try simp only [Act.put, List.setIfInBounds_toArray, List.set_cons_zero, List.set_cons_succ, List.getElem_toArray, List.getElem_cons_zero, List.getElem_cons_succ]
                refine plan_skip rfl (by rfl) ?_
                try simp only [Act.put, List.setIfInBounds_toArray, List.set_cons_zero, List.set_cons_succ, List.getElem_toArray, List.getElem_cons_zero, List.getElem_cons_succ]
                refine plan_skip rfl (by rfl) ?_
                try simp only [Act.put, List.setIfInBounds_toArray, List.set_cons_zero, List.set_cons_succ, List.getElem_toArray, List.getElem_cons_zero, List.getElem_cons_succ]
                refine plan_nil ?_
                simp only [List.drop_succ_cons, List.drop_zero]
                go_wp2_with fail
                go_ret
                exact ⟨by rw [HPP.out (fun h => h.1 ea)]; rfl, HBD.out⟩
              · have hq : (y.addr == z.addr) = false := by simpa using ea
                by_cases eu : y.used = z.used
                · have hq2 : (y.used == z.used) = true := by simpa using eu
                  go_upto_region 21 with fail
                  refine region_plan (fun V : World => V = wr.drew) 23 [(0, true), (1, true), (2, true), (3, true), (4, true), (5, true), (6, true), (7, true), (8, true), (9, true), (10, true), (11, true), (12, true), (13, true), (14, true), (15, true), (16, true), (17, true), (18, true), (19, true), (20, true), (21, true), (22, true)] (by kernel_rfl) (by kernel_rfl) rfl ?_
                  iterate 23
                    refine plan_read (v := ?_) rfl (by rfl) ?_ ?_
                    rotate_left
                    · intro w' hS
                      try dsimp only at hS
                      go_simp
                      try with_reducible rfl
                    try simp only [Act.put, List.setIfInBounds_toArray, List.set_cons_zero, List.set_cons_succ, List.getElem_toArray, List.getElem_cons_zero, List.getElem_cons_succ]
                  refine plan_nil ?_
                  simp only [List.drop_succ_cons, List.drop_zero]
                  go_wp2_with fail
                  go_ret
                  exact ⟨by rw [HPP.out (fun h => h.2 eu)]; rfl, HBD.out⟩
                · have hq2 : (y.used == z.used) = false := by simpa using eu
                  go_upto_region 21 with fail
                  refine region_plan (fun V : World => V = wr.drew) 23 [(0, true), (1, true), (2, true), (3, true), (4, true), (5, true), (6, true), (7, true), (8, true), (9, true), (10, true), (11, true), (12, true), (13, true), (14, true), (15, true), (16, true), (17, true), (18, true), (19, true), (20, true), (21, true), (22, true)] (by kernel_rfl) (by kernel_rfl) rfl ?_
                  iterate 23
                    refine plan_read (v := ?_) rfl (by rfl) ?_ ?_
                    rotate_left
                    · intro w' hS
                      try dsimp only at hS
                      go_simp
                      try with_reducible rfl
                    try simp only [Act.put, List.setIfInBounds_toArray, List.set_cons_zero, List.set_cons_succ, List.getElem_toArray, List.getElem_cons_zero, List.getElem_cons_succ]
                  refine plan_nil ?_
                  simp only [List.drop_succ_cons, List.drop_zero]
                  go_wp2_with fail
                  go_roundw
                  case rel => exact ⟨t + 1, by omega, by go_num, fun b hb => by
                    by_cases e : b = t
                    · rw [e, ← HY.out, ← HZ.out]; exact ⟨ea, eu⟩
                    · exact HTW2.out b (by omega), drewN_below HBT.out _⟩
                  case measure => simp [intOf]; omega
            · have hts2 : t = s := by omega
              subst hts2
              go_wp2_with fail
              go_roundw
              case rel => exact ⟨t + 1, by omega, by go_num, fun a b h1 h2 => by
                by_cases e : a = t
                · rw [e] at h1 ⊢; exact HTW2.out b h1
                · exact HTWO.out a b h1 (by omega), HBT.out⟩
              case measure => simp [intOf]; omega
        · have hsm2 : s = m := by omega
          subst hsm2
          have hr1 := HYES.out HHEAD.out HALL.out HTWO.out
          subst hr1
          go_wp2_with fail
          go_ret
          exact ⟨rfl, HB2.out.trans (HBR.out.mono HB2.out.size)⟩
end Go.Proofs.Ytoddmgaihggkjaa
