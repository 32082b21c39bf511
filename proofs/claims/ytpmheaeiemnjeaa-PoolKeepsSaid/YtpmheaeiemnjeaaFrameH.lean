/- What the document's own Read of layer 5 answers: the same message, or the same error; no condition but that the bytes read. -/
import Derived.Test.YtpmheaeiemnjeaaFrameJ
import Derived.Test.YtpmheaeiemnjeaaFrameE
namespace Go.Proofs.Ytpmheaeiemnjeaa
set_option linter.unusedVariables false
open Go.ChangeShapes Go.WideShapes Go.ChangeAt Go.RowKit

theorem rof_nat (p : Option Addr) (len cap : Nat) (l : List Nat) (w : World) (hz : l.length = len) (hm : len ≤ 1000) (h : Byts w p l) :
    Calls Try.prog 46 #[.slice p len cap] w fun e w' => e = .returned (.int .u32 (ofN l : Nat)) ∧ w = w' := by
  have hh := rof_any p len cap (l.map fun x : Nat => (x : Int)) w hm (by simpa using hz) (zs_bd l h.lt) (byts_zs h hz)
  rw [of4_nat] at hh
  exact hh
theorem ofN_take (l : List Nat) : ofN (l.take 4) = ofN l := by
  unfold ofN
  simp only [List.getD_eq_getElem?_getD, List.getElem?_take]
  rw [if_pos (by omega), if_pos (by omega), if_pos (by omega), if_pos (by omega)]
theorem byts_blk {w : World} {B : Nat} {l : List Nat} (h : Blk w B (u8C l).toArray) (hl : ∀ x ∈ l, x < 256) : Byts w (some ⟨B, 0, none⟩) l :=
  ⟨hl, fun _ => ⟨B, 0, h.lt, rfl, fun k hk => by rw [Nat.zero_add, h.c]; simpa using u8C_at l k hk⟩⟩
theorem fit_str {l : List Nat} (hl : l.length = 19) (hb : ∀ x ∈ l, x < 256) : ((strN (b4 (sumN (l.take 15)))).toList == (strN (l.drop 15)).toList) = fitsB l := by
  have hd : ∀ x ∈ l.drop 15, x < 256 := fun x hx => hb x (List.mem_of_mem_drop hx)
  have h4 : (l.drop 15).length = 4 := by rw [List.length_drop, hl]
  have hs := b4_lt _ (sumN_lt (l.take 15))
  cases hf : fitsB l with
  | true =>
    unfold fitsB at hf
    rw [decide_eq_true_eq] at hf
    rw [← hf]
    obtain ⟨d, hd'⟩ : ∃ d, d = l.drop 15 := ⟨_, rfl⟩
    rw [← hd'] at hd h4 ⊢
    obtain ⟨a0, r, rfl, hd1⟩ := cons_of h4
    obtain ⟨a1, r, rfl, hd2⟩ := cons_of hd1
    obtain ⟨a2, r, rfl, hd3⟩ := cons_of hd2
    obtain ⟨a3, r, rfl, hd4⟩ := cons_of hd3
    obtain rfl := List.eq_nil_of_length_eq_zero hd4
    rw [b4_ofN _ _ _ _ _ (hd _ (by simp)) (hd _ (by simp)) (hd _ (by simp)) (hd _ (by simp))]
    exact beq_self_eq_true _
  | false =>
    refine strN_ne hs hd (fun e => ?_)
    unfold fitsB at hf
    rw [decide_eq_false_iff_not, ← e] at hf
    have := ofN_b4 (sumN (l.take 15)) [] (sumN_lt _)
    rw [List.append_nil] at this
    exact hf this
theorem form_of {l : List Nat} (hb : ∀ x ∈ l, x < 256) : formB l = (decide (l.getD 6 0 ≤ 1) && decide (1 ≤ l.getD 0 0 ∧ l.getD 0 0 ≤ 11)) := by
  unfold formB
  congr 1
  have g := getD_lt l hb
  have q : ∀ k, byteB ((l.getD k 0 : Nat) : Int) = true := fun k => by unfold byteB; rw [decide_eq_true_eq]; have := g k; omega
  unfold mayM msgOf
  simp only [q, Bool.and_true]
  rw [Bool.eq_iff_iff, decide_eq_true_eq, decide_eq_true_eq]
  omega

set_option maxHeartbeats 2000000 in
theorem rread_len (p : Option Addr) (len cap : Nat) (l : List Nat) (w : World) (hz : l.length = len) (hm : len ≤ maxLen) (hn : len < 19 ∨ 19 < len) :
    Calls Try.prog 30 #[.slice p len cap] w fun e w' => e = .returned (.tuple #[.agg (readM l).row, .int .i64 (readE l)]) ∧ Below w.heap.size w w' := by
  unfold maxLen at hm
  rcases hn with hn | hn
  · rw [readM_no (by rw [readE_short (by omega)]; decide), readE_short (by omega), zero_row]
    have hz2 : (len : Int) < 19 := by omega
    clear hz hn
    go_enter Try.func30, Try.ntmps30
    go_wp2
    exact bodyPost_ret (v := .tuple #[.agg #[.int .i64 0, .int .i64 0, .int .i64 0, .int .i64 0, .int .i64 0, .int .i64 0, .bool false, .int .u32 0, .int .u32 0], .int .i64 3]) (by simp [results, Try.results30, go_sem, *]) rfl ⟨rfl, by repeat (first | exact Below.refl _ _ | apply belowAlloc | apply belowS9)⟩
  · rw [readM_no (by rw [readE_long (by omega)]; decide), readE_long (by omega), zero_row]
    have hz2 : ¬ (len : Int) < 19 := by omega
    have hz3 : (19 : Int) < len := by omega
    clear hz hn
    go_enter Try.func30, Try.ntmps30
    go_wp2
    exact bodyPost_ret (v := .tuple #[.agg #[.int .i64 0, .int .i64 0, .int .i64 0, .int .i64 0, .int .i64 0, .int .i64 0, .bool false, .int .u32 0, .int .u32 0], .int .i64 4]) (by simp [results, Try.results30, go_sem, *]) rfl ⟨rfl, by repeat (first | exact Below.refl _ _ | apply belowAlloc | apply belowS9)⟩

set_option maxHeartbeats 4000000 in
theorem rread_19 (p : Option Addr) (cap : Nat) (l : List Nat) (w : World) (hz : l.length = 19) (hc : 19 ≤ cap) (h : Byts w p l) :
    Calls Try.prog 30 #[.slice p 19 cap] w fun e w' => e = .returned (.tuple #[.agg (readM l).row, .int .i64 (readE l)]) ∧ Below w.heap.size w w' := by
  obtain ⟨b, off, hlt, rfl, hcell⟩ := h.c (by omega)
  have HZ := Lib.hid hz
  have HB := Lib.hid h
  have HLT := Lib.hid hlt
  have hqs := fit_str hz h.lt
  have hqs2 : ((strN (b4 (sumN (l.take 15)))).toList != (strN (l.drop 15)).toList) = !fitsB l := by unfold bne; rw [hqs]
  have HQS := Lib.hid (And.intro hqs hqs2)
  obtain ⟨r, hr⟩ : ∃ r, r = (readM l).row := ⟨_, rfl⟩
  obtain ⟨er, her⟩ : ∃ er, er = readE l := ⟨_, rfl⟩
  have HR := Lib.hid hr
  have HE := Lib.hid her
  rw [← hr, ← her]
  have n15 : cap ≠ 15 := by omega
  have c15 : (15 : Int) ≤ (cap : Int) := by omega
  have HC19 := Lib.hid hc
  clear hz h hlt hcell hr her hc hqs hqs2
  go_enter Try.func30, Try.ntmps30
  go_upto_region 5 with fail
  obtain ⟨z, hzz⟩ : ∃ z, z = w.alloc (.cells #[.int .i64 0, .int .i64 0, .int .i64 0, .int .i64 0, .int .i64 0, .int .i64 0, .bool false, .int .u32 0, .int .u32 0] 27) := ⟨_, rfl⟩
  have HBZ : Hid (Below w.heap.size w z) := by rw [hzz]; exact (Below.refl _ _).alloc (Nat.le_refl _) _
  have HKZ : Hid (Blk z w.heap.size #[.int .i64 0, .int .i64 0, .int .i64 0, .int .i64 0, .int .i64 0, .int .i64 0, .bool false, .int .u32 0, .int .u32 0]) := by rw [hzz]; exact Blk.new w _ 27
  rw [← hzz]
  clear hzz
  have HBY : Hid (Byts z (some ⟨b, off, none⟩) l) := Lib.hid (HB.out.below HBZ.out)
  obtain ⟨SA, hSA⟩ : ∃ S, S = strN (b4 (sumN (l.take 15))) := ⟨_, rfl⟩
  obtain ⟨SB, hSB⟩ : ∃ S, S = strN (l.drop 15) := ⟨_, rfl⟩
  have HSA := Lib.hid hSA
  have HSB := Lib.hid hSB
  have HCV : Hid (∀ u : World, Below z.heap.size z u → (convert 30 9 (.slice (some ⟨b, off + 15, none⟩) 4 (cap - 15))).run Try.prog u = .ok (.string SB) u) := Lib.hid (fun u hu => by
    rw [HSB.out]
    exact conv_byts ((byts_drop HBY.out).below hu) (by rw [List.length_drop, HZ.out]))
  clear hSA hSB
  go_cut [20] (fun s20 wc => s20 = .bool (!fitsB l) ∧ Below z.heap.size z wc)
  case first =>
    refine region_plan (fun w' : World => Below z.heap.size z w') 8 [(0, true), (1, true), (5, true), (6, true), (7, true), (2, false), (3, false), (4, false)] (by kernel_rfl) (by kernel_rfl) (Below.refl _ _).drew ?_
    iterate 5
      refine plan_read (v := ?_) rfl (by rfl) ?_ ?_
      rotate_left
      · intro w' hS
        try dsimp only at hS
        have hcv := HCV.out w' hS
        go_simp
        try with_reducible rfl
      try simp only [Act.put, List.setIfInBounds_toArray, List.set_cons_zero, List.set_cons_succ, List.getElem_toArray, List.getElem_cons_zero, List.getElem_cons_succ]
    refine plan_call (F := 43) (args := ?_) rfl (by rfl) ?_ ?_
    rotate_left
    · go_simp
      rfl
    have hh := sumR_any (some ⟨b, off, none⟩) 15 cap (l.take 15) z.drew (by simp [HZ.out]) (by unfold maxLen; omega) ((byts_take HBY.out).below (Below.refl _ _).drew)
    refine hh.mono ?_
    clear hh
    rintro e w3 ⟨rfl, hw3⟩
    subst hw3
    refine ⟨_, rfl, (Below.refl _ _).drew, ?_⟩
    try simp only [Act.put, List.setIfInBounds_toArray, List.set_cons_zero, List.set_cons_succ, List.getElem_toArray, List.getElem_cons_zero, List.getElem_cons_succ]
    refine plan_call (F := 42) (args := ?_) rfl (by rfl) ?_ ?_
    rotate_left
    · go_simp
      rfl
    have hsl := sumN_lt (l.take 15)
    refine (rbytes_any ((sumN (l.take 15) : Nat) : Int) _ (by omega) (by omega)).mono ?_
    rintro e w4 ⟨rfl, hw4⟩
    rw [row4_u8C] at hw4
    have HK4 : Hid (Blk w4 z.heap.size (u8C (b4 (sumN (l.take 15)))).toArray) := by rw [hw4]; exact Blk.new z.drew _ _
    have HB4 : Hid (Below z.heap.size z w4) := by rw [hw4]; exact (Below.refl _ _).drew.alloc (Nat.le_refl _) _
    clear hw4 hsl
    refine ⟨_, rfl, HB4.out, ?_⟩
    try simp only [Act.put, List.setIfInBounds_toArray, List.set_cons_zero, List.set_cons_succ, List.getElem_toArray, List.getElem_cons_zero, List.getElem_cons_succ]
    have hcv : (convert 30 9 (.slice (some ⟨z.heap.size, 0, none⟩) 4 4)).run Try.prog w4 = .ok (.string SA) w4 := by
      rw [HSA.out]
      exact conv_byts (byts_blk HK4.out (b4_lt _ (sumN_lt _))) rfl
    refine plan_make (v := ?_) rfl (by rfl) ?_ HB4.out ?_
    rotate_left
    · go_simp
      try with_reducible rfl
    try simp only [Act.put, List.setIfInBounds_toArray, List.set_cons_zero, List.set_cons_succ, List.getElem_toArray, List.getElem_cons_zero, List.getElem_cons_succ]
    refine plan_nil ?_
    simp only [List.drop_succ_cons, List.drop_zero]
    have hq1 : (SA.toList == SB.toList) = fitsB l := by rw [HSA.out, HSB.out]; exact HQS.out.1
    have hq2 : (SA.toList != SB.toList) = !fitsB l := by rw [HSA.out, HSB.out]; exact HQS.out.2
    clear hcv
    go_wp2_with fail
    go_meet
    case rel => exact ⟨rfl, HB4.out⟩
  case rest =>
    obtain ⟨rfl, hbz⟩ := hcut
    obtain ⟨W, hW⟩ : ∃ W, W = wc := ⟨_, rfl⟩
    subst hW
    have HBW := Lib.hid hbz
    have HT : Hid (Blk W w.heap.size #[.int .i64 0, .int .i64 0, .int .i64 0, .int .i64 0, .int .i64 0, .int .i64 0, .bool false, .int .u32 0, .int .u32 0]) := Lib.hid (HKZ.out.below hbz)
    have HBT : Hid (Below w.heap.size w W) := Lib.hid (HBZ.out.trans (hbz.mono HBZ.out.size))
    clear hbz n15 c15 HCV HSA HSB HQS
    cases hf : fitsB l with
    | false =>
      have he : readE l = 5 := readE_sum HZ.out hf
      have HRE : Hid (r = #[.int .i64 0, .int .i64 0, .int .i64 0, .int .i64 0, .int .i64 0, .int .i64 0, .bool false, .int .u32 0, .int .u32 0] ∧ er = 5) := Lib.hid ⟨by rw [HR.out, readM_no (by rw [he]; decide), zero_row], by rw [HE.out, he]⟩
      clear hf he
      have cT := HT.out.c
      have fT := HT.out.f
      have lT := HT.out.lt
      go_wp2
      exact bodyPost_ret (v := .tuple #[.agg #[.int .i64 0, .int .i64 0, .int .i64 0, .int .i64 0, .int .i64 0, .int .i64 0, .bool false, .int .u32 0, .int .u32 0], .int .i64 5]) (by simp [results, Try.results30, go_sem, *]) rfl ⟨by rw [HRE.out.1, HRE.out.2], belowS9 HBT.out (Nat.le_refl _)⟩
    | true =>
      have he : readE l = if formB l then 0 else 2 := readE_ok HZ.out hf
      rw [form_of HB.out.lt] at he
      have HEE := Lib.hid he
      clear hf he
      have HLW : Hid (b < W.heap.size) := Lib.hid (Nat.lt_of_lt_of_le HLT.out HBT.out.size)
      have HNB : Hid (b ≠ w.heap.size) := Lib.hid (Nat.ne_of_lt HLT.out)
      obtain ⟨b', off', _, he', hcell⟩ := (HB.out.below HBT.out).c (by rw [HZ.out]; omega)
      injection he' with he'
      injection he' with e1 e2 e3
      clear e3
      subst e1 e2
      rw [HZ.out] at hcell
      have g := getD_lt l HB.out.lt
      have HLL : Hid ((msgOf l).row = #[.int .i64 (l.getD 0 0 : Nat), .int .i64 (l.getD 1 0 : Nat), .int .i64 (l.getD 2 0 : Nat), .int .i64 (l.getD 3 0 : Nat), .int .i64 (l.getD 4 0 : Nat), .int .i64 (l.getD 5 0 : Nat), .bool (((l.getD 6 0 : Nat) : Int) == 1), .int .u32 (ofN (l.drop 7) : Nat), .int .u32 (ofN (l.drop 11) : Nat)]) := Lib.hid (by
        unfold msgOf Msg.row
        simp only
        congr 8
        congr 1
        rw [Bool.eq_iff_iff, beq_iff_eq, beq_iff_eq]
        omega)
      have f0 := hcell 0 (by omega)
      have g0 := g 0
      have f1 := hcell 1 (by omega)
      have g1 := g 1
      have f2 := hcell 2 (by omega)
      have g2 := g 2
      have f3 := hcell 3 (by omega)
      have g3 := g 3
      have f4 := hcell 4 (by omega)
      have g4 := g 4
      have f5 := hcell 5 (by omega)
      have g5 := g 5
      have f6 := hcell 6 (by omega)
      have g6 := g 6
      rw [Nat.add_zero] at f0
      clear hcell g
      obtain ⟨x0, h0⟩ : ∃ x, x = l.getD 0 0 := ⟨_, rfl⟩
      obtain ⟨x1, h1⟩ : ∃ x, x = l.getD 1 0 := ⟨_, rfl⟩
      obtain ⟨x2, h2⟩ : ∃ x, x = l.getD 2 0 := ⟨_, rfl⟩
      obtain ⟨x3, h3⟩ : ∃ x, x = l.getD 3 0 := ⟨_, rfl⟩
      obtain ⟨x4, h4⟩ : ∃ x, x = l.getD 4 0 := ⟨_, rfl⟩
      obtain ⟨x5, h5⟩ : ∃ x, x = l.getD 5 0 := ⟨_, rfl⟩
      obtain ⟨x6, h6⟩ : ∃ x, x = l.getD 6 0 := ⟨_, rfl⟩
      rw [← h0, ← h1, ← h2, ← h3, ← h4, ← h5, ← h6] at HLL
      rw [← h0, ← h6] at HEE
      rw [← h0] at f0 g0
      rw [← h1] at f1 g1
      rw [← h2] at f2 g2
      rw [← h3] at f3 g3
      rw [← h4] at f4 g4
      rw [← h5] at f5 g5
      rw [← h6] at f6 g6
      clear h0 h1 h2 h3 h4 h5 h6
      have w0 := wrap_i64 g0
      have w1 := wrap_i64 g1
      have w2 := wrap_i64 g2
      have w3 := wrap_i64 g3
      have w4 := wrap_i64 g4
      have w5 := wrap_i64 g5
      have no : x0 = 0 ∨ 11 < x0 ∨ 1 < x6 → r = #[.int .i64 0, .int .i64 0, .int .i64 0, .int .i64 0, .int .i64 0, .int .i64 0, .bool false, .int .u32 0, .int .u32 0] ∧ er = 2 := fun hx => by
        have e : readE l = 2 := by
          rw [HEE.out, if_neg]
          rw [Bool.and_eq_true, decide_eq_true_eq, decide_eq_true_eq]
          omega
        exact ⟨by rw [HR.out, readM_no (by rw [e]; decide), zero_row], by rw [HE.out, e]⟩
      have yes : 1 ≤ x0 → x0 ≤ 11 → x6 ≤ 1 → r = #[.int .i64 x0, .int .i64 x1, .int .i64 x2, .int .i64 x3, .int .i64 x4, .int .i64 x5, .bool ((x6 : Int) == 1), .int .u32 (ofN (l.drop 7) : Nat), .int .u32 (ofN (l.drop 11) : Nat)] ∧ er = 0 := fun a1 a2 a3 => by
        have e : readE l = 0 := by
          rw [HEE.out, if_pos]
          rw [Bool.and_eq_true, decide_eq_true_eq, decide_eq_true_eq]
          omega
        exact ⟨by rw [HR.out, ← HLL.out]; unfold readM; rw [if_pos e], by rw [HE.out, e]⟩
      have HNO := Lib.hid no
      have HYES := Lib.hid yes
      have HG := Lib.hid (And.intro g0 g6)
      clear no yes g0 g1 g2 g3 g4 g5 g6 HEE
      by_cases q0 : x0 = 0
      · have HRE := Lib.hid (HNO.out (.inl q0))
        have d0 : ((x0 : Int) == 0) = true := by simp; omega
        have cT := HT.out.c
        have fT := HT.out.f
        have lT := HT.out.lt
        clear q0
        go_wp2
        exact bodyPost_ret (v := .tuple #[.agg #[.int .i64 0, .int .i64 0, .int .i64 0, .int .i64 0, .int .i64 0, .int .i64 0, .bool false, .int .u32 0, .int .u32 0], .int .i64 2]) (by simp [results, Try.results30, go_sem, *]) rfl ⟨by rw [HRE.out.1, HRE.out.2], belowS9 HBT.out (Nat.le_refl _)⟩
      · have d0 : ((x0 : Int) == 0) = false := by simp; omega
        by_cases q1 : 11 < x0
        · have HRE := Lib.hid (HNO.out (.inr (.inl q1)))
          have d1 : decide (11 < (x0 : Int)) = true := decide_eq_true (by omega)
          have cT := HT.out.c
          have fT := HT.out.f
          have lT := HT.out.lt
          clear q0 q1
          go_wp2
          exact bodyPost_ret (v := .tuple #[.agg #[.int .i64 0, .int .i64 0, .int .i64 0, .int .i64 0, .int .i64 0, .int .i64 0, .bool false, .int .u32 0, .int .u32 0], .int .i64 2]) (by simp [results, Try.results30, go_sem, *]) rfl ⟨by rw [HRE.out.1, HRE.out.2], belowS9 HBT.out (Nat.le_refl _)⟩
        · have d1 : decide (11 < (x0 : Int)) = false := decide_eq_false (by omega)
          by_cases q6 : 1 < x6
          · have HRE := Lib.hid (HNO.out (.inr (.inr q6)))
            have d6 : decide (1 < (x6 : Int)) = true := decide_eq_true (by omega)
            have cT := HT.out.c
            have fT := HT.out.f
            have lT := HT.out.lt
            clear q0 q1 q6
            go_wp2
            exact bodyPost_ret (v := .tuple #[.agg #[.int .i64 0, .int .i64 0, .int .i64 0, .int .i64 0, .int .i64 0, .int .i64 0, .bool false, .int .u32 0, .int .u32 0], .int .i64 2]) (by simp [results, Try.results30, go_sem, *]) rfl ⟨by rw [HRE.out.1, HRE.out.2], belowS9 HBT.out (Nat.le_refl _)⟩
          · have d6 : decide (1 < (x6 : Int)) = false := decide_eq_false (by omega)
            have HRE := Lib.hid (HYES.out (by omega) (by omega) (by omega))
            have n7 : cap ≠ 7 := by have := HC19.out; omega
            have n11 : cap ≠ 11 := by have := HC19.out; omega
            have n8 : (11 : Int) ≤ (cap : Int) := by have := HC19.out; omega
            have n9 : (15 : Int) ≤ (cap : Int) := by have := HC19.out; omega
            have HS0 : Hid (W.cell? ⟨b, off, none⟩ = some (.int .u8 x0) ∧ W.cell? ⟨b, off + 1, none⟩ = some (.int .u8 x1) ∧ W.cell? ⟨b, off + 2, none⟩ = some (.int .u8 x2) ∧ W.cell? ⟨b, off + 3, none⟩ = some (.int .u8 x3) ∧ W.cell? ⟨b, off + 4, none⟩ = some (.int .u8 x4) ∧ W.cell? ⟨b, off + 5, none⟩ = some (.int .u8 x5) ∧ W.cell? ⟨b, off + 6, none⟩ = some (.int .u8 x6)) := Lib.hid ⟨f0, f1, f2, f3, f4, f5, f6⟩
            clear q0 q1 q6
            go_upto_region 9 with fail
            have HY : Hid (Byts W.drew (some ⟨b, off, none⟩) l) := Lib.hid ((HB.out.below HBT.out).below (Below.refl _ _).drew)
            have keepS : Hid (∀ u : World, Below W.heap.size W u → (u.cell? ⟨b, off, none⟩ = some (.int .u8 x0) ∧ u.cell? ⟨b, off + 1, none⟩ = some (.int .u8 x1) ∧ u.cell? ⟨b, off + 2, none⟩ = some (.int .u8 x2) ∧ u.cell? ⟨b, off + 3, none⟩ = some (.int .u8 x3) ∧ u.cell? ⟨b, off + 4, none⟩ = some (.int .u8 x4) ∧ u.cell? ⟨b, off + 5, none⟩ = some (.int .u8 x5) ∧ u.cell? ⟨b, off + 6, none⟩ = some (.int .u8 x6))) := Lib.hid (fun u hb => ⟨(hb.cell (p := ⟨b, off, none⟩) HLW.out).trans HS0.out.1, (hb.cell (p := ⟨b, off + 1, none⟩) HLW.out).trans HS0.out.2.1, (hb.cell (p := ⟨b, off + 2, none⟩) HLW.out).trans HS0.out.2.2.1, (hb.cell (p := ⟨b, off + 3, none⟩) HLW.out).trans HS0.out.2.2.2.1, (hb.cell (p := ⟨b, off + 4, none⟩) HLW.out).trans HS0.out.2.2.2.2.1, (hb.cell (p := ⟨b, off + 5, none⟩) HLW.out).trans HS0.out.2.2.2.2.2.1, (hb.cell (p := ⟨b, off + 6, none⟩) HLW.out).trans HS0.out.2.2.2.2.2.2⟩)
            clear f0 f1 f2 f3 f4 f5 f6 d0 d1 d6
            have hk0 := keepS.out _ (Below.refl _ _).drew
            refine region_plan (fun w' : World => w'.cell? ⟨b, off, none⟩ = some (.int .u8 x0) ∧ w'.cell? ⟨b, off + 1, none⟩ = some (.int .u8 x1) ∧ w'.cell? ⟨b, off + 2, none⟩ = some (.int .u8 x2) ∧ w'.cell? ⟨b, off + 3, none⟩ = some (.int .u8 x3) ∧ w'.cell? ⟨b, off + 4, none⟩ = some (.int .u8 x4) ∧ w'.cell? ⟨b, off + 5, none⟩ = some (.int .u8 x5) ∧ w'.cell? ⟨b, off + 6, none⟩ = some (.int .u8 x6)) 36 [(0, true), (1, true), (2, true), (3, true), (4, true), (5, true), (6, true), (7, true), (8, true), (9, true), (10, true), (11, true), (12, true), (13, true), (14, true), (15, true), (16, true), (17, true), (18, true), (19, true), (20, true), (21, true), (22, true), (23, true), (24, true), (25, true), (26, true), (27, true), (28, true), (29, true), (31, true), (32, true), (30, false), (33, false), (34, true), (35, false)] (by kernel_rfl) (by kernel_rfl) hk0 ?_
            iterate 32
              refine plan_read (v := ?_) rfl (by rfl) ?_ ?_
              rotate_left
              · intro w' hS
                try dsimp only at hS
                go_simp
                try with_reducible rfl
              try simp only [Act.put, List.setIfInBounds_toArray, List.set_cons_zero, List.set_cons_succ, List.getElem_toArray, List.getElem_cons_zero, List.getElem_cons_succ]
            refine plan_call (F := 46) (args := ?_) rfl (by rfl) ?_ ?_
            rotate_left
            · go_simp
              rfl
            have hh := rof_nat (some ⟨b, off + 7, none⟩) 4 (cap - 7) ((l.drop 7).take 4) W.drew (by simp [HZ.out]) (by omega) (byts_take (byts_drop HY.out))
            rw [ofN_take] at hh
            refine hh.mono ?_
            clear hh
            rintro e w3 ⟨rfl, hw3⟩
            subst hw3
            refine ⟨_, rfl, hk0, ?_⟩
            try simp only [Act.put, List.setIfInBounds_toArray, List.set_cons_zero, List.set_cons_succ, List.getElem_toArray, List.getElem_cons_zero, List.getElem_cons_succ]
            refine plan_call (F := 46) (args := ?_) rfl (by rfl) ?_ ?_
            rotate_left
            · go_simp
              rfl
            have hh := rof_nat (some ⟨b, off + 11, none⟩) 4 (cap - 11) ((l.drop 11).take 4) W.drew (by simp [HZ.out]) (by omega) (byts_take (byts_drop HY.out))
            rw [ofN_take] at hh
            refine hh.mono ?_
            clear hh
            rintro e w3 ⟨rfl, hw3⟩
            subst hw3
            refine ⟨_, rfl, hk0, ?_⟩
            try simp only [Act.put, List.setIfInBounds_toArray, List.set_cons_zero, List.set_cons_succ, List.getElem_toArray, List.getElem_cons_zero, List.getElem_cons_succ]
            iterate 1
              refine plan_read (v := ?_) rfl (by rfl) ?_ ?_
              rotate_left
              · intro w' hS
                try dsimp only at hS
                go_simp
                try with_reducible rfl
              try simp only [Act.put, List.setIfInBounds_toArray, List.set_cons_zero, List.set_cons_succ, List.getElem_toArray, List.getElem_cons_zero, List.getElem_cons_succ]
            obtain ⟨w6, hw6⟩ : ∃ w6, w6 = W.drew := ⟨_, rfl⟩
            rw [← hw6]
            rw [← hw6] at hk0
            have HTD : Hid (Blk w6 w.heap.size #[.int .i64 0, .int .i64 0, .int .i64 0, .int .i64 0, .int .i64 0, .int .i64 0, .bool false, .int .u32 0, .int .u32 0]) := Lib.hid (by rw [hw6]; exact HT.out.drew)
            have HB6 : Hid (Below w.heap.size w w6) := Lib.hid (by rw [hw6]; exact HBT.out.drew)
            have HK0 := Lib.hid hk0
            clear hw6 hk0
            have cT := HTD.out.c
            have fT := HTD.out.f
            have lT := HTD.out.lt
            refine plan_store (w1 := ?_) rfl (by rfl) ?_ ?_ ?_
            rotate_left
            · go_simp
              rfl
            · exact ⟨(cellO9 HNB.out).trans HK0.out.1, (cellO9 HNB.out).trans HK0.out.2.1, (cellO9 HNB.out).trans HK0.out.2.2.1, (cellO9 HNB.out).trans HK0.out.2.2.2.1, (cellO9 HNB.out).trans HK0.out.2.2.2.2.1, (cellO9 HNB.out).trans HK0.out.2.2.2.2.2.1, (cellO9 HNB.out).trans HK0.out.2.2.2.2.2.2⟩
            try simp only [Act.put, List.setIfInBounds_toArray, List.set_cons_zero, List.set_cons_succ, List.getElem_toArray, List.getElem_cons_zero, List.getElem_cons_succ]
            refine plan_nil ?_
            simp only [List.drop_succ_cons, List.drop_zero]
            go_wp2_with fail
            refine bodyPost_ret (v := .tuple #[.agg #[.int .i64 x0, .int .i64 x1, .int .i64 x2, .int .i64 x3, .int .i64 x4, .int .i64 x5, .bool ((x6 : Int) == 1), .int .u32 (ofN (l.drop 7) : Nat), .int .u32 (ofN (l.drop 11) : Nat)], .int .i64 0]) (by simp [results, Try.results30, go_sem, *]) rfl ⟨by rw [HRE.out.1, HRE.out.2], belowS9 HB6.out (Nat.le_refl _)⟩
theorem rread_any (p : Option Addr) (len cap : Nat) (l : List Nat) (w : World) (hz : l.length = len) (hm : len ≤ maxLen) (hc : len ≤ cap) (h : Byts w p l) :
    Calls Try.prog 30 #[.slice p len cap] w fun e w' => e = .returned (.tuple #[.agg (readM l).row, .int .i64 (readE l)]) ∧ Below w.heap.size w w' := by
  by_cases h19 : len = 19
  · subst h19
    exact rread_19 p cap l w hz hc h
  · exact rread_len p len cap l w hz hm (by omega)
end Go.Proofs.Ytpmheaeiemnjeaa
