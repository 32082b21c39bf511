/- The fixed answers that each statement of layer 6 begins with; no condition. -/
import Derived.Test.YtpmheaeiemnjeaaPoolE
import Derived.Test.YtpmheaeiemnjeaaPoolF
namespace Go.Proofs.Ytpmheaeiemnjeaa
set_option linter.unusedVariables false
open Go.ChangeShapes Go.WideShapes Go.ChangeAt Go.RowKit

def mA : Msg := ⟨1, 0, 0, 1, 0, 0, false, 0, 0⟩
def mB : Msg := ⟨2, 0, 0, 2, 0, 0, false, 0, 0⟩
theorem mA_may : mayM mA = true := by decide
theorem mB_may : mayM mB = true := by decide
theorem fitB : Fit 2 0 0 2 0 0 false 0 0 := ⟨by decide, by decide, by decide, by decide, by decide, by decide, by decide, by decide, by decide⟩
theorem right_nil : rightP [] = true := rfl
theorem right_one : rightP [outL mA] = true := right_of (by decide) (fun l hl => by rw [List.mem_singleton.1 hl]; exact outL_len mA_may)
theorem right_both : rightP [outL mA, outL mB] = true := right_of (by decide) (fun l hl => by
  rcases List.mem_cons.1 hl with rfl | hl
  · exact outL_len mA_may
  · rw [List.mem_singleton.1 hl]; exact outL_len mB_may)
theorem s1P : sendP [] mA = [outL mA] := by unfold sendP; rw [right_nil, mA_may]; rfl
theorem s1E : sendE [] mA = 0 := by unfold sendE; rw [right_nil, mA_may]; rfl
theorem s2P : sendP [outL mA] mB = [outL mA, outL mB] := by unfold sendP; rw [right_one, mB_may]; rfl
theorem s2E : sendE [outL mA] mB = 0 := by unfold sendE; rw [right_one, mB_may]; rfl
theorem t3C : checkP [outL mA, outL mB] 1 = 0 := check_ok right_both (by decide) (by simp)
theorem t3P : dropP [outL mA, outL mB] 1 = [outL mA] := by unfold dropP; rw [t3C]; rfl
theorem outB : outL mB = frameL 2 0 0 2 0 0 false 0 0 := by unfold outL; rw [if_pos mB_may]; rfl
theorem t3M : takeM [outL mA, outL mB] 1 = mB := by
  unfold takeM
  rw [t3C, if_pos rfl]
  show readM (outL mB) = mB
  rw [outB]
  exact frame_readM fitB
theorem t3E : takeE [outL mA, outL mB] 1 = 0 := by
  unfold takeE
  rw [t3C, if_pos rfl]
  show readE (outL mB) = 0
  rw [outB]
  exact frame_readE fitB
theorem r63 : roomP [outL mA] = 63 := by unfold roomP; rw [right_one]; rfl

set_option maxHeartbeats 4000000 in
set_option maxRecDepth 100000 in
theorem awake_any (w : World) : Calls Try.prog 6 #[] w fun e w' => e = .returned (.bool true) ∧ Below w.heap.size w w' := by
  have HS1 : Hid (∀ W, Calls Try.prog 8 #[.agg #[.slice none 0 0], .agg #[.int .i64 1, .int .i64 0, .int .i64 0, .int .i64 1, .int .i64 0, .int .i64 0, .bool false, .int .u32 0, .int .u32 0]] W fun e w' => ∃ p' c' xs', e = .returned (.tuple #[.agg #[.slice p' 1 c'], .int .i64 0]) ∧ Out W w' p' xs' [outL mA]) := Lib.hid (fun W => by
    have := send_any none 0 0 [] [] mA W rfl (Pl.nil W none) (by decide) (by decide)
    rw [s1P, s1E] at this
    exact this)
  have HS2 : Hid (∀ W p c xs, Pl W p xs [outL mA] → Calls Try.prog 8 #[.agg #[.slice p 1 c], .agg #[.int .i64 2, .int .i64 0, .int .i64 0, .int .i64 2, .int .i64 0, .int .i64 0, .bool false, .int .u32 0, .int .u32 0]] W fun e w' => ∃ p' c' xs', e = .returned (.tuple #[.agg #[.slice p' 2 c'], .int .i64 0]) ∧ Out W w' p' xs' [outL mA, outL mB]) := Lib.hid (fun W p c xs h => by
    have := send_any p 1 c xs [outL mA] mB W rfl h (by decide) (by decide)
    rw [s2P, s2E] at this
    exact this)
  have HS3 : Hid (∀ W p c xs, Pl W p xs [outL mA, outL mB] → Calls Try.prog 11 #[.agg #[.slice p 2 c], .int .i64 1] W fun e w' => ∃ p' c' xs', e = .returned (.tuple #[.agg #[.slice p' 1 c'], .agg #[.int .i64 2, .int .i64 0, .int .i64 0, .int .i64 2, .int .i64 0, .int .i64 0, .bool false, .int .u32 0, .int .u32 0], .int .i64 0]) ∧ Out W w' p' xs' [outL mA]) := Lib.hid (fun W p c xs h => by
    have := take_any p 2 c xs [outL mA, outL mB] 1 W rfl h
    rw [t3P, t3E, t3M] at this
    exact this)
  have HS4 : Hid (∀ W p c xs, Pl W p xs [outL mA] → Calls Try.prog 21 #[.agg #[.slice p 1 c]] W fun e w' => e = .returned (.int .i64 63) ∧ Below W.heap.size W w') := Lib.hid (fun W p c xs h => by
    have := room_any p 1 c xs [outL mA] W rfl h
    rw [r63] at this
    exact this)
  have HS5 : Hid (∀ W p c xs, Pl W p xs [outL mA] → Calls Try.prog 20 #[.agg #[.slice p 1 c]] W fun e w' => e = .returned (.bool true) ∧ Below W.heap.size W w') := Lib.hid (fun W p c xs h => by
    have := pright_any p 1 c xs [outL mA] W rfl h
    rw [right_one] at this
    exact this)
  have hq : ∀ W, (binOp .eql 27 (.agg #[.int .i64 2, .int .i64 0, .int .i64 0, .int .i64 2, .int .i64 0, .int .i64 0, .bool false, .int .u32 0, .int .u32 0]) (.agg #[.int .i64 2, .int .i64 0, .int .i64 0, .int .i64 2, .int .i64 0, .int .i64 0, .bool false, .int .u32 0, .int .u32 0])).run Try.prog W = .ok (.bool true) W := fun W => by
    have := eq_msg W mB mB
    rw [eqM_refl] at this
    exact this
  go_enter Try.func6, Try.ntmps6
  go_wp2_with fail
  obtain ⟨W0, hW0⟩ : ∃ W0, W0 = (w.alloc (.cells #[.int .i64 1, .int .i64 0, .int .i64 0, .int .i64 1, .int .i64 0, .int .i64 0, .bool false, .int .u32 0, .int .u32 0] 27)).alloc (.cells #[.int .i64 2, .int .i64 0, .int .i64 0, .int .i64 2, .int .i64 0, .int .i64 0, .bool false, .int .u32 0, .int .u32 0] 27) := ⟨_, rfl⟩
  have HKB : Hid (Blk W0 (w.heap.size + 1) #[.int .i64 2, .int .i64 0, .int .i64 0, .int .i64 2, .int .i64 0, .int .i64 0, .bool false, .int .u32 0, .int .u32 0]) := Lib.hid (by
    have := Blk.new (w.alloc (.cells #[.int .i64 1, .int .i64 0, .int .i64 0, .int .i64 1, .int .i64 0, .int .i64 0, .bool false, .int .u32 0, .int .u32 0] 27)) #[.int .i64 2, .int .i64 0, .int .i64 0, .int .i64 2, .int .i64 0, .int .i64 0, .bool false, .int .u32 0, .int .u32 0] 27
    rw [← hW0] at this
    simpa using this)
  have HB0 : Hid (Below w.heap.size w W0) := Lib.hid (by rw [hW0]; exact ((Below.refl _ _).alloc (Nat.le_refl _) _).alloc (by simp) _)
  rw [← hW0]
  clear hW0
  refine (HS1.out _).mono ?_
  rintro e w1 ⟨p1, c1, x1, rfl, ho⟩
  have HB1 : Hid (Below w.heap.size w w1) := Lib.hid (HB0.out.trans (ho.below.mono HB0.out.size))
  have HKB1 := Lib.hid (HKB.out.below ho.below)
  have HP1 := Lib.hid ho.pl
  clear ho HKB HB0 HS1
  have kB := (HKB1.out.alloc (.cells #[.slice p1 1 c1] 24)).c
  go_wp2_with fail
  refine (HS2.out _ p1 c1 x1 (HP1.out.below ((Below.refl _ _).alloc (Nat.le_refl _) _))).mono ?_
  rintro e w2 ⟨p2, c2, x2, rfl, ho⟩
  have HB12 : Hid (Below w1.heap.size w1 w2) := Lib.hid (((Below.refl _ _).alloc (Nat.le_refl _) _).trans (ho.below.mono (by simp)))
  have HB2 : Hid (Below w.heap.size w w2) := Lib.hid (HB1.out.trans (HB12.out.mono HB1.out.size))
  have HKB2 := Lib.hid (HKB1.out.below HB12.out)
  have HKP := Lib.hid (Blk.track1 ho.below)
  have HP2 := Lib.hid ho.pl
  have HO2 : Hid (Off (fun b => b < w1.heap.size + 1) p2 x2 [outL mA, outL mB]) := Lib.hid (by simpa using ho.off)
  have HSZ : Hid (w.heap.size + 1 < w1.heap.size) := Lib.hid HKB1.out.lt
  clear ho kB HKB1 HB1 HS2 HP1
  have kP := HKP.out.c
  have fP := HKP.out.f
  have lP := HKP.out.lt
  go_wp2_with fail
  have hP3 := HP2.out.set (HO2.out.sub (fun b e => by omega)) (R := w1.heap.size) 0 (.slice p2 2 c2)
  have HKB3 := Lib.hid (HKB2.out.other (B' := w1.heap.size) (n := 0) (.slice p2 2 c2) (by have := HSZ.out; omega))
  have HKP3 := Lib.hid (HKP.out.set (n := 0) (.slice p2 2 c2) (by simp))
  have HB3 := Lib.hid (HB2.out.setCell (p := ⟨w1.heap.size, 0, none⟩) (by show w.heap.size ≤ w1.heap.size; have := HSZ.out; omega) (.slice p2 2 c2))
  have HP3 := Lib.hid hP3
  obtain ⟨w3, hw3⟩ : ∃ w3, w3 = w2.setCell ⟨w1.heap.size, 0, none⟩ (.slice p2 2 c2) := ⟨_, rfl⟩
  rw [← hw3] at HKB3 HKP3 HB3 HP3 ⊢
  clear hw3 hP3 kP fP lP HKB2 HKP HP2 HO2 HB2 HB12
  refine (HS3.out _ p2 c2 x2 HP3.out).mono ?_
  rintro e w4 ⟨p4, c4, x4, rfl, ho⟩
  have HB4 : Hid (Below w.heap.size w w4) := Lib.hid (HB3.out.trans (ho.below.mono HB3.out.size))
  have HKB4 := Lib.hid (HKB3.out.below ho.below)
  have HP4 := Lib.hid ho.pl
  clear ho HKB3 HKP3 HB3 HP3 HS3
  have kB := ((HKB4.out.alloc (.cells #[.slice p4 1 c4] 24)).alloc (.cells #[.int .i64 2, .int .i64 0, .int .i64 0, .int .i64 2, .int .i64 0, .int .i64 0, .bool false, .int .u32 0, .int .u32 0] 27)).c
  go_wp2_with fail
  obtain ⟨W5, hW5⟩ : ∃ W5, W5 = (w4.alloc (.cells #[.slice p4 1 c4] 24)).alloc (.cells #[.int .i64 2, .int .i64 0, .int .i64 0, .int .i64 2, .int .i64 0, .int .i64 0, .bool false, .int .u32 0, .int .u32 0] 27) := ⟨_, rfl⟩
  have HB45 : Hid (Below w4.heap.size w4 W5) := Lib.hid (by rw [hW5]; exact ((Below.refl _ _).alloc (Nat.le_refl _) _).alloc (by simp) _)
  have HK5 : Hid (Blk W5 w4.heap.size #[.slice p4 1 c4]) := Lib.hid (by rw [hW5]; exact (Blk.new _ _ _).alloc _)
  have HP5 := Lib.hid (HP4.out.below HB45.out)
  have HB5 : Hid (Below w.heap.size w W5) := Lib.hid (HB4.out.trans (HB45.out.mono HB4.out.size))
  rw [← hW5]
  clear hW5 kB hq HKB4
  refine (HS4.out _ p4 c4 x4 HP5.out).mono ?_
  rintro e w6 ⟨rfl, hb6⟩
  have HK6 := Lib.hid (HK5.out.below hb6)
  have HP6 := Lib.hid (HP5.out.below hb6)
  have HB6 : Hid (Below w.heap.size w w6) := Lib.hid (HB5.out.trans (hb6.mono HB5.out.size))
  clear hb6
  have k6 := HK6.out.c
  go_wp2_with fail
  refine (HS5.out _ p4 c4 x4 HP6.out).mono ?_
  rintro e w7 ⟨rfl, hb7⟩
  have HB7 : Hid (Below w.heap.size w w7) := Lib.hid (HB6.out.trans (hb7.mono HB6.out.size))
  clear hb7
  go_wp2_with fail
  go_ret
  exact ⟨rfl, HB7.out⟩
end Go.Proofs.Ytpmheaeiemnjeaa
