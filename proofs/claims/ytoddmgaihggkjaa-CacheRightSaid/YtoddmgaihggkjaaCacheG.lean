/- Whether a cache may be, by the program; no condition but that the cache reads. -/
import Derived.Test.YtoddmgaihggkjaaCacheC
import Derived.Test.YtoddmgaihggkjaaCacheE
import Derived.Test.YtoddmgaihggkjaaCacheF
namespace Go.Proofs.Ytoddmgaihggkjaa
set_option linter.unusedVariables false
open Go.ChangeShapes Go.WideShapes Go.ChangeAt Go.RowKit Go.Maps

theorem idxA_hit (a : Int) (l : List Ln) (k j : Nat) (hj : j < l.length) (h : (l.getD j zL).addr = a) (hn : ∀ i, i < j → (l.getD i zL).addr ≠ a) : idxA a l k = ((k + j : Nat) : Int) := by
  induction l generalizing k j with
  | nil => exact absurd hj (Nat.not_lt_zero _)
  | cons x l ih =>
    unfold idxA
    cases j with
    | zero => rw [if_pos (show x.addr = a from h)]; rfl
    | succ j =>
      rw [if_neg (show ¬ x.addr = a from hn 0 (Nat.succ_pos _)), ih (k + 1) j (by simpa using hj) h (fun i hi => hn (i + 1) (by omega))]
      omega
theorem idxA_min (a : Int) (l : List Ln) (k j : Nat) (h : idxA a l k = ((k + j : Nat) : Int)) (i : Nat) (hi : i < j) : (l.getD i zL).addr ≠ a := by
  induction l generalizing k j i with
  | nil => exact absurd h (by show ¬ (-1 : Int) = _; omega)
  | cons x l ih =>
    unfold idxA at h
    by_cases e : x.addr = a
    · rw [if_pos e] at h; omega
    · rw [if_neg e] at h
      cases i with
      | zero => exact e
      | succ i =>
        cases j with
        | zero => exact absurd hi (Nat.not_lt_zero _)
        | succ j => exact ih (k + 1) j (by rw [h]; omega) i (by omega)
theorem lnB_iff {k a s u : Int} : lnB k a s u = true ↔ 0 ≤ a ∧ (1 ≤ s ∧ s ≤ 4) ∧ 1 ≤ u ∧ u ≤ k := by
  unfold lnB
  rw [Bool.and_eq_true, Bool.and_eq_true, Bool.and_eq_true, decide_eq_true_eq, decide_eq_true_eq, decide_eq_true_eq, stB_iff]
theorem lnP_iff (C : Ch) (s : Nat) (l : List Ln) (j : Nat) : lnP C s l j = true ↔ LnOk C.sets C.clock s (l.getD j zL) ∧ idxA (l.getD j zL).addr l 0 = (j : Int) := by
  unfold lnP
  rw [Bool.and_eq_true, Bool.and_eq_true, lnB_iff, decide_eq_true_eq, decide_eq_true_eq]
  exact ⟨fun ⟨⟨h1, ⟨h2, h3⟩, h4, h5⟩, h6, h7⟩ => ⟨⟨h1, h6, h2, h3, h4, h5⟩, h7⟩, fun ⟨⟨h1, h6, h2, h3, h4, h5⟩, h7⟩ => ⟨⟨h1, ⟨h2, h3⟩, h4, h5⟩, h6, h7⟩⟩
theorem setP_iff (C : Ch) (s : Nat) : setP C s = true ↔ ((C.lines.getD s []).length : Int) ≤ C.ways ∧ ∀ j, j < (C.lines.getD s []).length → LnOk C.sets C.clock s ((C.lines.getD s []).getD j zL) ∧ idxA ((C.lines.getD s []).getD j zL).addr (C.lines.getD s []) 0 = (j : Int) := by
  unfold setP
  rw [Bool.and_eq_true, decide_eq_true_eq, List.all_eq_true]
  exact and_congr_right fun _ => ⟨fun h j hj => (lnP_iff _ _ _ _).1 (h j (List.mem_range.2 hj)), fun h j hj => (lnP_iff _ _ _ _).2 (h j (List.mem_range.1 hj))⟩
theorem get_getD {α : Type} (l : List α) (d : α) (j : Nat) (h : j < l.length) : l[j] = l.getD j d := by rw [List.getD_eq_getElem?_getD, List.getElem?_eq_getElem h]; rfl
/-- What the program asks, one thing behind the other. -/
def tailP (C : Ch) : Bool := (List.range C.lines.length).all (setP C) && decide (C.lines.flatten.Pairwise fun x y => x.used ≠ y.used)
theorem right_eq (C : Ch) : rightC C = (headB C && tailP C) := by
  unfold rightC
  cases hh : headB C with
  | false => rfl
  | true =>
    rw [Bool.true_and, Bool.true_and, Bool.eq_iff_iff]
    have hhead : rightC C = ((List.range C.lines.length).all (setB C) && apartB C.lines.flatten) := by unfold rightC; rw [hh]; rfl
    unfold tailP
    constructor
    · intro h
      have hr := right_rt (hhead.trans h)
      rw [Bool.and_eq_true]
      refine ⟨List.all_eq_true.2 fun s hs => (setP_iff C s).2 ?_, decide_eq_true (hr.ap.imp fun h => h.2)⟩
      have hs := List.mem_range.1 hs
      refine ⟨hr.wl s hs, fun j hj => ⟨hr.ln s hs _ (mem_getD _ _ _ hj), ?_⟩⟩
      have := idxA_hit ((C.lines.getD s []).getD j zL).addr (C.lines.getD s []) 0 j hj rfl (fun i hi => (apart_getD (apart_own hs hr.ap) i j (by omega) hj (by omega)).1)
      rw [this]; simp
    · intro h
      rw [Bool.and_eq_true, List.all_eq_true, decide_eq_true_eq] at h
      obtain ⟨h1, h2⟩ := h
      have hset := fun s (hs : s < C.lines.length) => (setP_iff C s).1 (h1 s (List.mem_range.2 hs))
      rw [Bool.and_eq_true]
      constructor
      · refine List.all_eq_true.2 fun s hs => ?_
        have hs := List.mem_range.1 hs
        unfold setB
        rw [Bool.and_eq_true, decide_eq_true_eq]
        refine ⟨(hset s hs).1, List.all_eq_true.2 fun x hx => (lineB_iff _ _ _ _).2 ?_⟩
        obtain ⟨k, hk, rfl⟩ := mem_idx _ zL x hx
        exact ((hset s hs).2 k hk).1
      · rw [apart_iff]
        have ha : C.lines.flatten.Pairwise fun x y => x.addr ≠ y.addr := by
          rw [List.pairwise_flatten]
          constructor
          · intro l hl
            obtain ⟨s, hs, rfl⟩ := mem_idx _ [] l hl
            rw [List.pairwise_iff_getElem]
            intro i j hi hj hij
            rw [get_getD _ zL i hi, get_getD _ zL j hj]
            exact idxA_min _ _ 0 j (by rw [((hset s hs).2 j hj).2]; simp) i hij
          · rw [List.pairwise_iff_getElem]
            intro s t hs ht hst x hx y hy e
            rw [get_getD _ [] s hs] at hx
            rw [get_getD _ [] t ht] at hy
            obtain ⟨i, hi, rfl⟩ := mem_idx _ zL x hx
            obtain ⟨j, hj, rfl⟩ := mem_idx _ zL y hy
            have e1 := ((hset s hs).2 i hi).1.as
            have e2 := ((hset t ht).2 j hj).1.as
            rw [e, e2] at e1
            omega
        exact ha.and h2
theorem head_eq (C : Ch) : headB C = (mayS C.sets C.ways && (decide (0 ≤ C.clock) && (decide (C.clock ≤ clockTop) && decide ((C.lines.length : Int) = C.sets)))) := by
  unfold headB
  rw [Bool.eq_iff_iff]
  simp only [Bool.and_eq_true, decide_eq_true_eq]

set_option maxHeartbeats 4000000 in
set_option maxRecDepth 100000 in
theorem right_any (S : Nat → Prop) (v : Value) (C : Ch) (w : World) (h : Co S w v C) : Calls Try.prog 22 #[v] w fun e w' => e = .returned (.bool (rightC C)) ∧ Below w.heap.size w w' := by
  obtain ⟨p, n, c, xs, rfl, hc, -⟩ := h
  have hn := hc.n100
  have hz := hc.zn
  have HC := Lib.hid hc
  have HR := Lib.hid ((right_eq C).trans (by rw [head_eq, hz]))
  have HT : Hid (tailP C = ((List.range n).all (setP C) && decide (C.lines.flatten.Pairwise fun x y => x.used ≠ y.used))) := Lib.hid (by unfold tailP; rw [hz])
  have HSP : Hid (∀ k, k < n → 1 ≤ C.sets → ∀ r, setP C k = r → ∀ W, Below w.heap.size w W → Calls Try.prog 38 #[.agg #[.int .i64 C.sets, .int .i64 C.ways, .int .i64 C.clock, .slice p n c], .int .i64 (k : Int)] W fun e w' => e = .returned (.bool r) ∧ Below W.heap.size W w') := Lib.hid (fun k hk h1 r hr W hW => rightSet_any p n c xs C k r W (hc.below hW) hk h1 hr)
  have HCC : Hid (∀ W, Below w.heap.size w W → Calls Try.prog 26 #[.slice p n c] W fun e w' => ∃ v, e = .returned v ∧ Lw W.heap.size w' v C.lines.flatten ∧ Below W.heap.size W w') := Lib.hid (fun W hW => concat_any p n c xs C W (hc.below hW))
  have HFL : Hid (C.lines.flatten.length ≤ 10000) := Lib.hid (by
    have := tot_le C.lines n (by omega) (by omega) hc.l100
    rw [← hz, List.take_length] at this
    omega)
  have HWF : Hid ((∀ k, k < n → setP C k = true) → C.clock ≤ clockTop → i64L C.lines.flatten) := Lib.hid (fun hs hk x hx => by
    obtain ⟨l, hl, hx⟩ := List.mem_flatten.1 hx
    obtain ⟨s, hs', rfl⟩ := mem_idx _ [] l hl
    obtain ⟨j, hj, rfl⟩ := mem_idx _ zL x hx
    have hok := (((setP_iff C s).1 (hs s (by omega))).2 j hj).1
    have h1 := hok.u1
    have h2 := hok.uk
    unfold clockTop at hk
    exact WalkArith.wf_i64 (by omega))
  obtain ⟨F, hF⟩ : ∃ F, F = C.lines.flatten := ⟨_, rfl⟩
  rw [← hF] at HCC HFL HWF HT
  obtain ⟨g, hg⟩ : ∃ g, g = setP C := ⟨_, rfl⟩
  rw [← hg] at HT HWF HSP
  obtain ⟨t, ht⟩ : ∃ t, t = tailP C := ⟨_, rfl⟩
  rw [← ht] at HR HT
  obtain ⟨r, hr⟩ : ∃ r, r = rightC C := ⟨_, rfl⟩
  rw [← hr] at HR ⊢
  clear hr ht hg hF hz hc
  obtain ⟨b0, d0⟩ : ∃ b, mayS C.sets C.ways = b := ⟨_, rfl⟩
  obtain ⟨b1, d1⟩ : ∃ b, decide (0 ≤ C.clock) = b := ⟨_, rfl⟩
  obtain ⟨b2, d2⟩ : ∃ b, decide (C.clock ≤ clockTop) = b := ⟨_, rfl⟩
  obtain ⟨b3, d3⟩ : ∃ b, decide ((n : Int) = C.sets) = b := ⟨_, rfl⟩
  rw [d0, d1, d2, d3] at HR
  have D0 := Lib.hid d0
  have D1 := Lib.hid d1
  have D2 := Lib.hid d2
  have D3 := Lib.hid d3
  have HM := Lib.hid (fun W => mayBe_any C.sets C.ways W)
  rw [d0] at HM
  clear d0 d1 d2 d3
  obtain ⟨A, W, K, hA, hW, hK⟩ : ∃ A W K, A = C.sets ∧ W = C.ways ∧ K = C.clock := ⟨_, _, _, rfl, rfl, rfl⟩
  rw [← hA, ← hW, ← hK] at HSP ⊢
  rw [← hA, ← hW] at HM D0
  rw [← hK] at HWF D1 D2
  rw [← hA] at D3
  clear hA hW hK
  have HB0 : Hid (Below w.heap.size w (w.alloc (.cells #[.int .i64 A, .int .i64 W, .int .i64 K, .slice p n c] 24))) := Lib.hid ((Below.refl _ _).alloc (Nat.le_refl _) _)
  have HA0 : Hid (Blk (w.alloc (.cells #[.int .i64 A, .int .i64 W, .int .i64 K, .slice p n c] 24)) w.heap.size #[.int .i64 A, .int .i64 W, .int .i64 K, .slice p n c]) := Lib.hid (Blk.new _ _ _)
  go_enter Try.func22, Try.ntmps22
  go_wp2_with fail
  refine (HM.out _).mono ?_
  rintro e w' ⟨rfl, rfl⟩
  cases b0 with
  | false =>
    go_wp2_with fail
    go_ret
    exact ⟨by rw [HR.out]; rfl, HB0.out⟩
  | true =>
  have hA1 : 1 ≤ A := (of_decide_eq_true (p := 1 ≤ A ∧ A ≤ 8 ∧ 1 ≤ W ∧ W ≤ 8) D0.out).1
  cases b1 with
  | false =>
    have e1 : decide (K < 0) = true := decide_eq_true (by have := of_decide_eq_false D1.out; omega)
    go_wp2_with fail
    go_ret
    exact ⟨by rw [HR.out]; rfl, HB0.out⟩
  | true =>
  have e1 : decide (K < 0) = false := decide_eq_false (by have := of_decide_eq_true D1.out; omega)
  cases b2 with
  | false =>
    have e2 : decide (1099511627776 < K) = true := decide_eq_true (by have := of_decide_eq_false D2.out; unfold clockTop at this; omega)
    go_wp2_with fail
    go_ret
    exact ⟨by rw [HR.out]; rfl, HB0.out⟩
  | true =>
  have e2 : decide (1099511627776 < K) = false := decide_eq_false (by have := of_decide_eq_true D2.out; unfold clockTop at this; omega)
  cases b3 with
  | false =>
    have e3 : ((n : Int) != A) = true := by simpa using of_decide_eq_false D3.out
    go_wp2_with fail
    go_ret
    exact ⟨by rw [HR.out]; rfl, HB0.out⟩
  | true =>
  have e3 : ((n : Int) != A) = false := by simpa using of_decide_eq_true D3.out
  go_upto_region 4 with fail
  go_loopw [32] (fun i wr => ∃ k : Nat, k ≤ n ∧ i = .int .i64 k ∧ (∀ j, j < k → g j = true) ∧ Blk wr w.heap.size #[.int .i64 A, .int .i64 W, .int .i64 K, .slice p n c] ∧ Below w.heap.size w wr) (fun i _ => n - (intOf i).toNat)
  case atStart => exact ⟨0, Nat.zero_le _, rfl, fun j hj => absurd hj (Nat.not_lt_zero _), HA0.out, HB0.out⟩
  case round =>
    obtain ⟨k, hk, rfl, hall, ha, hb⟩ := hrel
    have HALL := Lib.hid hall
    have HAA := Lib.hid ha
    have HB := Lib.hid hb
    clear hall ha hb HA0 HB0 e1 e2 e3
    have kA := HAA.out.c
    by_cases hlt : k < n
    · obtain ⟨b, hbk⟩ : ∃ b, g k = b := ⟨_, rfl⟩
      have HQ := Lib.hid (HSP.out k hlt hA1 b hbk wr HB.out)
      have HG := Lib.hid hbk
      clear hbk
      go_wp2_with fail
      refine HQ.out.mono ?_
      rintro e w2 ⟨rfl, hb2⟩
      have HA2 := Lib.hid (HAA.out.below hb2)
      have HB2 : Hid (Below w.heap.size w w2) := Lib.hid (HB.out.trans (hb2.mono HB.out.size))
      clear hb2 kA
      cases b with
      | false =>
        go_wp2_with fail
        go_ret
        refine ⟨?_, HB2.out⟩
        have : t = false := by
          rw [HT.out, Bool.and_eq_false_iff]
          exact .inl (List.all_eq_false.2 ⟨k, List.mem_range.2 hlt, by rw [HG.out]; decide⟩)
        rw [HR.out, this]; rfl
      | true =>
        go_wp2_with fail
        go_roundw
        case rel => exact ⟨k + 1, by omega, by go_num, fun j hj => by
          by_cases e : j = k
          · rw [e, HG.out]
          · exact HALL.out j (by omega), HA2.out, HB2.out⟩
        case measure => simp [intOf]; omega
    · have hkn : k = n := by omega
      subst hkn
      have hwf := HWF.out HALL.out (of_decide_eq_true D2.out)
      have HWF2 := Lib.hid hwf
      clear hwf
      have hQ := HCC.out wr HB.out
      have HQ := Lib.hid hQ
      clear hQ
      go_wp2_with fail
      refine HQ.out.mono ?_
      rintro e w2 ⟨v, rfl, hv, hb2⟩
      have HV := Lib.hid hv.lv
      have HB2 : Hid (Below w.heap.size w w2) := Lib.hid (HB.out.trans (hb2.mono HB.out.size))
      obtain ⟨q, cq, rfl, hcq, hlq⟩ := hv.lv
      have HFE := Lib.hid (us_len F)
      obtain ⟨m, hm⟩ : ∃ m, m = F.length := ⟨_, rfl⟩
      have HMF := Lib.hid hm
      rw [← hm] at HFE HFL ⊢
      clear hb2 hv kA hlq hm hcq
      go_wp2_with fail
      refine (users_any _ F _ (by rw [← HMF.out] at HV; exact HV.out) (by rw [← HMF.out]; exact HFL.out) HWF2.out).mono ?_
      rintro e w3 ⟨rfl, ho, hb3⟩
      rw [← HMF.out] at ho
      have HO := Lib.hid ho
      have HB3 : Hid (Below w.heap.size w w3) := Lib.hid (HB2.out.trans (hb3.mono HB2.out.size))
      obtain ⟨D, hD⟩ : ∃ D, D = usM F m := ⟨_, rfl⟩
      rw [← hD] at HO HFE
      obtain ⟨B, hB⟩ : ∃ B, B = w2.heap.size := ⟨_, rfl⟩
      rw [← hB] at HO ⊢
      clear ho hb3 hD hB
      go_wp2_with (first | (at_len; refine wpList_len_own _ rfl _ 73 rfl 3 3 Try.underlying73 rawE B m D rfl HO.out ?_))
      go_ret
      refine ⟨?_, HB3.out⟩
      have hall : (List.range k).all g = true := List.all_eq_true.2 fun j hj => HALL.out j (List.mem_range.1 hj)
      rw [HR.out, HT.out, hall, ← HFE.out]
      rfl
end Go.Proofs.Ytoddmgaihggkjaa
