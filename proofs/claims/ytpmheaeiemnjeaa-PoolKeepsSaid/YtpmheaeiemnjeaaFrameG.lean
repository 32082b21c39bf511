/- What frame.Read answers: the message of nineteen bytes, or its error; no condition but that the bytes read. -/
import Derived.Test.YtpmheaeiemnjeaaFrameF
namespace Go.Proofs.Ytpmheaeiemnjeaa
set_option linter.unusedVariables false
open Go.ChangeShapes Go.WideShapes Go.ChangeAt Go.RowKit

def zeroM : Msg := ⟨0, 0, 0, 0, 0, 0, false, 0, 0⟩
def readE (l : List Nat) : Int := if l.length < 19 then 3 else if 19 < l.length then 4 else if fitsB l then (if formB l then 0 else 2) else 5
def readM (l : List Nat) : Msg := if readE l = 0 then msgOf l else zeroM
theorem readE_short {l : List Nat} (h : l.length < 19) : readE l = 3 := by unfold readE; rw [if_pos h]
theorem readE_long {l : List Nat} (h : 19 < l.length) : readE l = 4 := by unfold readE; rw [if_neg (by omega), if_pos h]
theorem readE_sum {l : List Nat} (h : l.length = 19) (hf : fitsB l = false) : readE l = 5 := by unfold readE; rw [if_neg (by omega), if_neg (by omega), if_neg (by rw [hf]; decide)]
theorem readE_ok {l : List Nat} (h : l.length = 19) (hf : fitsB l = true) : readE l = if formB l then 0 else 2 := by unfold readE; rw [if_neg (by omega), if_neg (by omega), if_pos hf]
theorem readM_no {l : List Nat} (h : readE l ≠ 0) : readM l = zeroM := by unfold readM; rw [if_neg h]
theorem zero_row : zeroM.row = #[.int .i64 0, .int .i64 0, .int .i64 0, .int .i64 0, .int .i64 0, .int .i64 0, .bool false, .int .u32 0, .int .u32 0] := rfl

set_option maxHeartbeats 2000000 in
theorem read_len (p : Option Addr) (len cap : Nat) (l : List Nat) (w : World) (hz : l.length = len) (hm : len ≤ maxLen) (hn : len < 19 ∨ 19 < len) :
    Calls Try.prog 28 #[.slice p len cap] w fun e w' => e = .returned (.tuple #[.agg (readM l).row, .int .i64 (readE l)]) ∧ Below w.heap.size w w' := by
  unfold maxLen at hm
  rcases hn with hn | hn
  · rw [readM_no (by rw [readE_short (by omega)]; decide), readE_short (by omega), zero_row]
    have hz2 : (len : Int) < 19 := by omega
    clear hz hn
    go_enter Try.func28, Try.ntmps28
    go_wp2
    exact bodyPost_ret (v := .tuple #[.agg #[.int .i64 0, .int .i64 0, .int .i64 0, .int .i64 0, .int .i64 0, .int .i64 0, .bool false, .int .u32 0, .int .u32 0], .int .i64 3]) (by simp [results, Try.results28, go_sem, *]) rfl ⟨rfl, by repeat (first | exact Below.refl _ _ | apply belowAlloc | apply belowS9)⟩
  · rw [readM_no (by rw [readE_long (by omega)]; decide), readE_long (by omega), zero_row]
    have hz2 : ¬ (len : Int) < 19 := by omega
    have hz3 : (19 : Int) < len := by omega
    clear hz hn
    go_enter Try.func28, Try.ntmps28
    go_wp2
    exact bodyPost_ret (v := .tuple #[.agg #[.int .i64 0, .int .i64 0, .int .i64 0, .int .i64 0, .int .i64 0, .int .i64 0, .bool false, .int .u32 0, .int .u32 0], .int .i64 4]) (by simp [results, Try.results28, go_sem, *]) rfl ⟨rfl, by repeat (first | exact Below.refl _ _ | apply belowAlloc | apply belowS9)⟩

set_option maxHeartbeats 4000000 in
theorem read_19 (p : Option Addr) (cap : Nat) (l : List Nat) (w : World) (hz : l.length = 19) (hc : 19 ≤ cap) (h : Byts w p l) :
    Calls Try.prog 28 #[.slice p 19 cap] w fun e w' => e = .returned (.tuple #[.agg (readM l).row, .int .i64 (readE l)]) ∧ Below w.heap.size w w' := by
  obtain ⟨b, off, hlt, rfl, hcell⟩ := h.c (by omega)
  have HZ := Lib.hid hz
  have HB := Lib.hid h
  obtain ⟨r, hr⟩ : ∃ r, r = (readM l).row := ⟨_, rfl⟩
  obtain ⟨er, her⟩ : ∃ er, er = readE l := ⟨_, rfl⟩
  have HR := Lib.hid hr
  have HE := Lib.hid her
  rw [← hr, ← her]
  have n15 : cap ≠ 15 := by omega
  have c15 : (15 : Int) ≤ (cap : Int) := by omega
  have HC19 := Lib.hid hc
  clear hz h hlt hcell hr her hc
  go_enter Try.func28, Try.ntmps28
  go_upto_region 5 with fail
  obtain ⟨z, hzz⟩ : ∃ z, z = w.alloc (.cells #[.int .i64 0, .int .i64 0, .int .i64 0, .int .i64 0, .int .i64 0, .int .i64 0, .bool false, .int .u32 0, .int .u32 0] 27) := ⟨_, rfl⟩
  have HBZ : Hid (Below w.heap.size w z) := by rw [hzz]; exact (Below.refl _ _).alloc (Nat.le_refl _) _
  have HKZ : Hid (Blk z w.heap.size #[.int .i64 0, .int .i64 0, .int .i64 0, .int .i64 0, .int .i64 0, .int .i64 0, .bool false, .int .u32 0, .int .u32 0]) := by rw [hzz]; exact Blk.new w _ 27
  rw [← hzz]
  clear hzz
  have HBY : Hid (Byts z (some ⟨b, off, none⟩) l) := Lib.hid (HB.out.below HBZ.out)
  go_cut [16] (fun s16 wc => s16 = .bool (!fitsB l) ∧ Below z.heap.size z wc)
  case first =>
    refine region_plan (fun w' : World => Below z.heap.size z w') 6 [(0, true), (1, true), (3, true), (4, true), (2, false), (5, false)] (by kernel_rfl) (by kernel_rfl) (Below.refl _ _).drew ?_
    iterate 4
      refine plan_read (v := ?_) rfl (by rfl) ?_ ?_
      rotate_left
      · intro w' hS
        try dsimp only at hS
        go_simp
        try with_reducible rfl
      try simp only [Act.put, List.setIfInBounds_toArray, List.set_cons_zero, List.set_cons_succ, List.getElem_toArray, List.getElem_cons_zero, List.getElem_cons_succ]
    refine plan_call (F := 44) (args := ?_) rfl (by rfl) ?_ ?_
    rotate_left
    · go_simp
      rfl
    refine (of_nat _ 4 _ (l.drop 15) _ (by rw [List.length_drop, HZ.out]) ((byts_drop HBY.out).below (Below.refl _ _).drew)).mono ?_
    rintro e w2 ⟨rfl, hb2⟩
    have HB2 : Hid (Below z.heap.size z w2) := Lib.hid ((Below.refl _ _).drew.trans hb2)
    clear hb2
    refine ⟨_, rfl, HB2.out, ?_⟩
    try simp only [Act.put, List.setIfInBounds_toArray, List.set_cons_zero, List.set_cons_succ, List.getElem_toArray, List.getElem_cons_zero, List.getElem_cons_succ]
    refine plan_call (F := 41) (args := ?_) rfl (by rfl) ?_ ?_
    rotate_left
    · go_simp
      rfl
    have hh := sum_any (some ⟨b, off, none⟩) 15 cap (l.take 15) w2 (by simp [HZ.out]) (by unfold maxLen; omega) ((byts_take HBY.out).below HB2.out)
    refine hh.mono ?_
    clear hh
    rintro e w3 ⟨rfl, hw3⟩
    subst hw3
    refine ⟨_, rfl, HB2.out, ?_⟩
    try simp only [Act.put, List.setIfInBounds_toArray, List.set_cons_zero, List.set_cons_succ, List.getElem_toArray, List.getElem_cons_zero, List.getElem_cons_succ]
    refine plan_nil ?_
    simp only [List.drop_succ_cons, List.drop_zero]
    have hfit : (((ofN (l.drop 15) : Nat) : Int) != ((sumN (l.take 15) : Nat) : Int)) = !fitsB l := by
      unfold fitsB
      rw [Bool.eq_iff_iff]
      simp
      omega
    go_wp2_with fail
    go_meet
    case rel => exact ⟨rfl, HB2.out⟩
  case rest =>
    obtain ⟨rfl, hbz⟩ := hcut
    obtain ⟨W, hW⟩ : ∃ W, W = wc := ⟨_, rfl⟩
    subst hW
    have HBW := Lib.hid hbz
    have HT : Hid (Blk W w.heap.size #[.int .i64 0, .int .i64 0, .int .i64 0, .int .i64 0, .int .i64 0, .int .i64 0, .bool false, .int .u32 0, .int .u32 0]) := Lib.hid (HKZ.out.below hbz)
    have HBT : Hid (Below w.heap.size w W) := Lib.hid (HBZ.out.trans (hbz.mono HBZ.out.size))
    clear hbz n15 c15
    cases hf : fitsB l with
    | false =>
      have he : readE l = 5 := readE_sum HZ.out hf
      have HRE : Hid (r = #[.int .i64 0, .int .i64 0, .int .i64 0, .int .i64 0, .int .i64 0, .int .i64 0, .bool false, .int .u32 0, .int .u32 0] ∧ er = 5) := Lib.hid ⟨by rw [HR.out, readM_no (by rw [he]; decide), zero_row], by rw [HE.out, he]⟩
      clear hf he
      have cT := HT.out.c
      have fT := HT.out.f
      have lT := HT.out.lt
      go_wp2
      exact bodyPost_ret (v := .tuple #[.agg #[.int .i64 0, .int .i64 0, .int .i64 0, .int .i64 0, .int .i64 0, .int .i64 0, .bool false, .int .u32 0, .int .u32 0], .int .i64 5]) (by simp [results, Try.results28, go_sem, *]) rfl ⟨by rw [HRE.out.1, HRE.out.2], belowS9 HBT.out (Nat.le_refl _)⟩
    | true =>
      have he : readE l = if formB l then 0 else 2 := readE_ok HZ.out hf
      have HEE := Lib.hid he
      clear hf he
      go_wp2_with fail
      refine (message_any b off cap l _ HZ.out HC19.out (HB.out.below HBT.out)).mono ?_
      rintro e w4 ⟨rfl, hb4⟩
      have HT4 := Lib.hid (HT.out.below hb4)
      have HB4 : Hid (Below w.heap.size w w4) := Lib.hid (HBT.out.trans (hb4.mono HBT.out.size))
      clear hb4
      obtain ⟨k, f, t, lx, o, a, own, n, v, hmsg⟩ : ∃ k f t lx o a own n v, msgOf l = ⟨k, f, t, lx, o, a, own, n, v⟩ := ⟨_, _, _, _, _, _, _, _, _, rfl⟩
      have hrow : (msgOf l).row = #[.int .i64 k, .int .i64 f, .int .i64 t, .int .i64 lx, .int .i64 o, .int .i64 a, .bool own, .int .u32 n, .int .u32 v] := by rw [hmsg]; rfl
      rw [hrow]
      have HROW := Lib.hid hrow
      clear hrow hmsg
      obtain ⟨fb, hfb⟩ : ∃ fb, fb = formB l := ⟨_, rfl⟩
      rw [← hfb]
      have HFB := Lib.hid hfb
      clear hfb
      go_upto_region 8 with fail
      obtain ⟨W5, hW5⟩ : ∃ W5, W5 = w4.alloc (.cells #[.int .i64 k, .int .i64 f, .int .i64 t, .int .i64 lx, .int .i64 o, .int .i64 a, .bool own, .int .u32 n, .int .u32 v] 27) := ⟨_, rfl⟩
      have HT5 : Hid (Blk W5 w.heap.size #[.int .i64 0, .int .i64 0, .int .i64 0, .int .i64 0, .int .i64 0, .int .i64 0, .bool false, .int .u32 0, .int .u32 0]) := by rw [hW5]; exact HT4.out.alloc _
      have HR5 : Hid (Blk W5 w4.heap.size #[.int .i64 k, .int .i64 f, .int .i64 t, .int .i64 lx, .int .i64 o, .int .i64 a, .bool own, .int .u32 n, .int .u32 v]) := by rw [hW5]; exact Blk.new _ _ _
      have HB5 : Hid (Below w.heap.size w W5) := by rw [hW5]; exact belowAlloc HB4.out _
      rw [← hW5]
      clear hW5 HT4
      have cT := HT5.out.c
      have fT := HT5.out.f
      have lT := HT5.out.lt
      have cR := HR5.out.c
      cases fb with
      | true =>
        have HRE : Hid (r = #[.int .i64 k, .int .i64 f, .int .i64 t, .int .i64 lx, .int .i64 o, .int .i64 a, .bool own, .int .u32 n, .int .u32 v] ∧ er = 0) := Lib.hid ⟨by rw [HR.out, ← HROW.out]; unfold readM; rw [HEE.out, ← HFB.out]; rfl, by rw [HE.out, HEE.out, ← HFB.out]; rfl⟩
        go_wp2
        exact bodyPost_ret (v := .tuple #[.agg #[.int .i64 k, .int .i64 f, .int .i64 t, .int .i64 lx, .int .i64 o, .int .i64 a, .bool own, .int .u32 n, .int .u32 v], .int .i64 0]) (by simp [results, Try.results28, go_sem, *]) rfl ⟨by rw [HRE.out.1, HRE.out.2], belowS9 HB5.out (Nat.le_refl _)⟩
      | false =>
        have HRE : Hid (r = #[.int .i64 0, .int .i64 0, .int .i64 0, .int .i64 0, .int .i64 0, .int .i64 0, .bool false, .int .u32 0, .int .u32 0] ∧ er = 2) := Lib.hid ⟨by rw [HR.out, readM_no (by rw [HEE.out, ← HFB.out]; decide), zero_row], by rw [HE.out, HEE.out, ← HFB.out]; rfl⟩
        go_wp2
        exact bodyPost_ret (v := .tuple #[.agg #[.int .i64 0, .int .i64 0, .int .i64 0, .int .i64 0, .int .i64 0, .int .i64 0, .bool false, .int .u32 0, .int .u32 0], .int .i64 2]) (by simp [results, Try.results28, go_sem, *]) rfl ⟨by rw [HRE.out.1, HRE.out.2], belowS9 HB5.out (Nat.le_refl _)⟩
theorem read_any (p : Option Addr) (len cap : Nat) (l : List Nat) (w : World) (hz : l.length = len) (hm : len ≤ maxLen) (hc : len ≤ cap) (h : Byts w p l) :
    Calls Try.prog 28 #[.slice p len cap] w fun e w' => e = .returned (.tuple #[.agg (readM l).row, .int .i64 (readE l)]) ∧ Below w.heap.size w w' := by
  by_cases h19 : len = 19
  · subst h19
    exact read_19 p cap l w hz hc h
  · exact read_len p len cap l w hz hm (by omega)
end Go.Proofs.Ytpmheaeiemnjeaa
