/- The walk of CoreAnswers where the core reads (a Swap, the answers apart); it writes nothing that was there. -/
import Derived.Test.YtdebkncjmbhneaaAnswers
namespace Go.Proofs.Ytdebkncjmbhneaa.coreAnswers
set_option linter.unusedVariables false
open Go.ChangeShapes Go.WideShapes Go.ChangeAt Go.RowKit

set_option maxRecDepth 100000 in
set_option maxHeartbeats 4000000 in
theorem walk_read3t (p : Option Addr) (len cap : Nat) (l : List I5) (r : Nat → Int) (pc : Int) (h : Bool) (a b n : Int) (x : Nat → Int) (px : Int) (hx : Bool) (y : Nat → Int) (py : Int) (hy : Bool) (w : World) (hlen : len ≤ 80) (hl : l.length = len) (hr : coreB l ⟨r, pc, h⟩ = true) (hp : Prg w p l)
    (n0 : 0 ≤ n) (n1 : n ≤ 255) (hf : (⟨r, pc, h⟩ : Cor).Fits) (hxd : Hid (doneOf l ⟨r, pc, h⟩ a = ⟨x, px, hx⟩)) (hyd : Hid (doneOf l ⟨r, pc, h⟩ b = ⟨y, py, hy⟩)) (k q v o : Int) (hwd : Hid (wantOf l ⟨r, pc, h⟩ (n % 64 + 1) = ⟨k, q, v, o⟩)) (hk1 : (k == 1) = false) (hk3 : (k == 3) = true) (hab : (a != b) = true) (hE : Hid (eqC ⟨x, px, hx⟩ ⟨y, py, hy⟩ = false)) (hpp : (px != py) = false) (hhh : (!hx == hy) = false) (hxy : Hid (∀ j, x j ≠ y j → x j = a ∧ y j = b)) :
    Calls Try.prog 5 #[.slice p len cap, .agg #[.int .u32 (r 0), .int .u32 (r 1), .int .u32 (r 2), .int .u32 (r 3), .int .u32 (r 4), .int .u32 (r 5), .int .u32 (r 6), .int .u32 (r 7), .int .i64 pc, .bool h], .int .u32 a, .int .u32 b, .int .u8 n] w fun e w' => e = .returned (.bool true) ∧ Below w.heap.size w w' := by
  have d1 : decide (80 < (len : Int)) = false := decide_eq_false (by omega)
  have HL := Lib.hid hl
  have HR := Lib.hid hr
  have HP := Lib.hid hp
  have HF := Lib.hid hf
  clear hl hr hp hf
  go_enter Try.func5, Try.ntmps5
  go_wp2_with fail
  refine (awake_any _).mono ?_
  rintro e w1 ⟨rfl, hb1⟩
  have HC : Hid (Blk w1 w.heap.size #[.int .u32 (r 0), .int .u32 (r 1), .int .u32 (r 2), .int .u32 (r 3), .int .u32 (r 4), .int .u32 (r 5), .int .u32 (r 6), .int .u32 (r 7), .int .i64 pc, .bool h]) := (Blk.new w _ 26).below hb1
  have HB1 := Lib.hid (((Below.refl w.heap.size w).alloc (Nat.le_refl _) _).trans (hb1.mono (by simp)))
  clear hb1
  have c := HC.out.c
  go_wp2_with fail
  refine (core_call p len cap l ⟨r, pc, h⟩ true w w1 HL HR HP HB1.out).mono ?_
  rintro e w2 ⟨rfl, hb2⟩
  have HC2 : Hid (Blk w2 w.heap.size #[.int .u32 (r 0), .int .u32 (r 1), .int .u32 (r 2), .int .u32 (r 3), .int .u32 (r 4), .int .u32 (r 5), .int .u32 (r 6), .int .u32 (r 7), .int .i64 pc, .bool h]) := HC.out.below hb2
  have HB2 := Lib.hid (HB1.out.trans (hb2.mono HB1.out.size))
  clear hb2 c HC HB1
  have c := HC2.out.c
  go_wp2_with fail
  have HQ : Hid (Calls Try.prog 9 #[.slice p len cap, .agg #[.int .u32 (r 0), .int .u32 (r 1), .int .u32 (r 2), .int .u32 (r 3), .int .u32 (r 4), .int .u32 (r 5), .int .u32 (r 6), .int .u32 (r 7), .int .i64 pc, .bool h], .int .i64 (n % 64 + 1)] w2 fun e w' => e = .returned (.agg #[.int .i64 k, .int .i64 q, .int .u32 v, .int .u32 o]) ∧ Below w2.heap.size w2 w') := by
    have hh := wants_any p cap l ⟨r, pc, h⟩ (n % 64 + 1) w2 (HP.out.below HB2.out) HF.out (by omega)
    rw [HL.out, hwd.out] at hh
    exact hh
  refine HQ.out.mono ?_
  clear HQ
  rintro e w3 ⟨rfl, hb3⟩
  have HC3 : Hid (Blk w3 w.heap.size #[.int .u32 (r 0), .int .u32 (r 1), .int .u32 (r 2), .int .u32 (r 3), .int .u32 (r 4), .int .u32 (r 5), .int .u32 (r 6), .int .u32 (r 7), .int .i64 pc, .bool h]) := HC2.out.below hb3
  have HB3 := Lib.hid (HB2.out.trans (hb3.mono HB2.out.size))
  clear hb3 c HC2 HB2
  have c := HC3.out.c
  go_upto_region 7 with fail
  obtain ⟨W0, hW0⟩ : ∃ W0, W0 = w3.alloc (.cells #[.int .i64 k, .int .i64 q, .int .u32 v, .int .u32 o] 30) := ⟨_, rfl⟩
  have HC0 : Hid (Blk W0 w.heap.size #[.int .u32 (r 0), .int .u32 (r 1), .int .u32 (r 2), .int .u32 (r 3), .int .u32 (r 4), .int .u32 (r 5), .int .u32 (r 6), .int .u32 (r 7), .int .i64 pc, .bool h]) := by rw [hW0]; exact HC3.out.alloc _
  have HB0 : Hid (Below w.heap.size w W0) := by rw [hW0]; exact HB3.out.alloc HB3.out.size _
  rw [← hW0]
  clear hW0 c HC3 HB3
  have HP0 : Hid (Prg W0 p l) := HP.out.below HB0.out
  go_cut [13, 14] (fun s13 s14 wc => ∃ X Y, s13 = .pointer (some ⟨X, 0, none⟩) ∧ s14 = .pointer (some ⟨Y, 0, none⟩) ∧ Blk wc X #[.int .u32 (x 0), .int .u32 (x 1), .int .u32 (x 2), .int .u32 (x 3), .int .u32 (x 4), .int .u32 (x 5), .int .u32 (x 6), .int .u32 (x 7), .int .i64 px, .bool hx] ∧ Blk wc Y #[.int .u32 (y 0), .int .u32 (y 1), .int .u32 (y 2), .int .u32 (y 3), .int .u32 (y 4), .int .u32 (y 5), .int .u32 (y 6), .int .u32 (y 7), .int .i64 py, .bool hy] ∧ Below w.heap.size w wc)
  case first =>
    have c := HC0.out.c
    go_region_held3 (fun w' => (∀ j, w'.cell? ⟨w.heap.size, j, none⟩ = (#[.int .u32 (r 0), .int .u32 (r 1), .int .u32 (r 2), .int .u32 (r 3), .int .u32 (r 4), .int .u32 (r 5), .int .u32 (r 6), .int .u32 (r 7), .int .i64 pc, .bool h] : Array Value)[j]?) ∧ Below W0.heap.size W0 w')
      ((refine sOf HC0 ?_; simp (config := { maxDischargeDepth := 60 }) only [bA, bS, bD, bR, *]))
      (first
        | (go_at_call_of 11 (Value.int .u32 a); refine (kdone p len cap l r pc h a x px hx w.heap.size W0 _ HL HP0 hxd HC0 ?_).mono ?_; (first | assumption | (exact (‹_ ∧ _›).2)); (rintro e w4 ⟨rfl, c4, hb4, hd4⟩; (first | with_reducible (have t1 := Trk.two1 hd4; have t2 := Trk.two2 hd4) | with_reducible have t1 := Trk.one hd4 | skip)))
        | (go_at_call_of 11 (Value.int .u32 b); refine (kdone p len cap l r pc h b y py hy w.heap.size W0 _ HL HP0 hyd HC0 ?_).mono ?_; (first | assumption | (exact (‹_ ∧ _›).2)); (rintro e w5 ⟨rfl, c5, hb5, hd5⟩; (first | with_reducible (have u1 := t1.carry0 hd5; have u2 := t2.carry0 hd5) | with_reducible (have n1 := t1.blk.lt; have n2 := Nat.ne_of_lt n1; have n3 := n2.symm; have u1 := t1.carry1 hd5; have u2 := Trk.at1 hb4 hd5) | with_reducible have u1 := t1.carry0 hd5 | with_reducible (have u1 := Trk.at21 hb4 hd5; have u2 := Trk.at22 hb4 hd5) | with_reducible have u1 := Trk.at1 hb4 hd5 | skip); (try (have v1 := u1.blk.c; have v2 := u1.blk.f; have v3 := u1.blk.lt; have ge1 := u1.ge; have bk1 := u1.blk; have v7 := Nat.ne_of_lt v3)); (try (have v4 := u2.blk.c; have v5 := u2.blk.f; have v6 := u2.blk.lt; have ge2 := u2.ge; have bk2 := u2.blk; have v8 := Nat.ne_of_lt v6)))))
    all_goals
      go_wp2_with fail
      go_meet
      case rel =>
        refine ⟨_, _, rfl, rfl, ?_, ?_, HB0.out.trans (Below.mono (B := W0.heap.size) ?_ HB0.out.size)⟩
        · go_light; first | simp only [blkNew, blkA, size_new] | simp only [blkS10 bk1, blkNew, blkA, size_set, size_new] | simp only [blkS10 bk2, blkNew, blkA, size_set, size_new] | simp (config := { maxDischargeDepth := 60 }) only [blkS10, blkO10 n2, blkO10 n3, bk1, bk2] | simp (config := { maxDischargeDepth := 60 }) only [blkS10, blkO10 (ne_succ _), blkO10 (succ_ne _), bk1, bk2]
        · go_light; first | simp only [blkNew, blkA, size_new] | simp only [blkS10 bk1, blkNew, blkA, size_set, size_new] | simp only [blkS10 bk2, blkNew, blkA, size_set, size_new] | simp (config := { maxDischargeDepth := 60 }) only [blkS10, blkO10 n2, blkO10 n3, bk1, bk2] | simp (config := { maxDischargeDepth := 60 }) only [blkS10, blkO10 (ne_succ _), blkO10 (succ_ne _), bk1, bk2]
        · simp (config := { maxDischargeDepth := 60 }) only [bA, bS, bD, bR, *]
  case rest =>
    obtain ⟨X, Y, rfl, rfl, bX, bY, hbc⟩ := hcut
    have cX := bX.c
    have cY := bY.c
    have HBX := Lib.hid bX
    have HBY := Lib.hid bY
    have HBC := Lib.hid hbc
    clear bX bY hbc HC0 HB0 HP0
    have hq : ∀ W, (binOp .eql 26 (.agg #[.int .u32 (x 0), .int .u32 (x 1), .int .u32 (x 2), .int .u32 (x 3), .int .u32 (x 4), .int .u32 (x 5), .int .u32 (x 6), .int .u32 (x 7), .int .i64 px, .bool hx]) (.agg #[.int .u32 (y 0), .int .u32 (y 1), .int .u32 (y 2), .int .u32 (y 3), .int .u32 (y 4), .int .u32 (y 5), .int .u32 (y 6), .int .u32 (y 7), .int .i64 py, .bool hy])).run Try.prog W = .ok (.bool false) W := fun W => (eq_core W ⟨x, px, hx⟩ ⟨y, py, hy⟩).trans (by rw [hE.out])
    go_wp2_with fail
    go_loopw [15] (fun i wr => ∃ j : Nat, j ≤ 8 ∧ i = .int .i64 j ∧ Blk wr X #[.int .u32 (x 0), .int .u32 (x 1), .int .u32 (x 2), .int .u32 (x 3), .int .u32 (x 4), .int .u32 (x 5), .int .u32 (x 6), .int .u32 (x 7), .int .i64 px, .bool hx] ∧ Blk wr Y #[.int .u32 (y 0), .int .u32 (y 1), .int .u32 (y 2), .int .u32 (y 3), .int .u32 (y 4), .int .u32 (y 5), .int .u32 (y 6), .int .u32 (y 7), .int .i64 py, .bool hy] ∧ Below w.heap.size w wr) (fun i _ => 8 - (intOf i).toNat)
    case atStart => exact ⟨0, by omega, rfl, HBX.out, HBY.out, HBC.out⟩
    case round =>
      obtain ⟨j, hj, rfl, bX, bY, hbc⟩ := hrel
      clear cX cY HBX HBY HBC
      have cX := bX.c
      have cY := bY.c
      have HBX := Lib.hid bX
      have HBY := Lib.hid bY
      have HBC := Lib.hid hbc
      clear bX bY hbc
      by_cases hj8 : j < 8
      · have j0 : (0 : Int) ≤ (j : Int) := by omega
        have j1 : (j : Int) < 8 := by omega
        have rX : (#[.int .u32 (x 0), .int .u32 (x 1), .int .u32 (x 2), .int .u32 (x 3), .int .u32 (x 4), .int .u32 (x 5), .int .u32 (x 6), .int .u32 (x 7), .int .i64 px, .bool hx] : Array Value)[j]? = some (.int .u32 (x j)) := Cor.row_at ⟨x, px, hx⟩ j hj8
        have rY : (#[.int .u32 (y 0), .int .u32 (y 1), .int .u32 (y 2), .int .u32 (y 3), .int .u32 (y 4), .int .u32 (y 5), .int .u32 (y 6), .int .u32 (y 7), .int .i64 py, .bool hy] : Array Value)[j]? = some (.int .u32 (y j)) := Cor.row_at ⟨y, py, hy⟩ j hj8
        have dX : wr.cell? ⟨X, j, none⟩ = some (.int .u32 (x j)) := (cX j).trans rX
        have dY : wr.cell? ⟨Y, j, none⟩ = some (.int .u32 (y j)) := (cY j).trans rY
        clear cX cY rX rY
        by_cases hg : x j = y j
        · have e1 : (x j != y j) = false := by simpa using hg
          have HG := Lib.hid hg
          clear hg
          go_wp2_with fail
          go_quiet (fail)
          go_wp2
          go_roundw
          case rel => exact ⟨j + 1, by omega, by go_num, HBX.out.drewN _, HBY.out.drewN _, below_drewN HBC.out _⟩
          case measure => simp [intOf]; omega
        · have e1 : (x j != y j) = true := by simpa using hg
          have e2 : (x j != a) = false := by simpa using (hxy.out j hg).1
          have e3 : (y j != b) = false := by simpa using (hxy.out j hg).2
          clear hg
          go_wp2_with fail
          go_quiet (fail)
          go_wp2
          go_roundw
          case rel => exact ⟨j + 1, by omega, by go_num, HBX.out.drewN _, HBY.out.drewN _, below_drewN HBC.out _⟩
          case measure => simp [intOf]; omega
      · go_wp2
        go_ret
        exact ⟨rfl, HBC.out⟩
end Go.Proofs.Ytdebkncjmbhneaa.coreAnswers
