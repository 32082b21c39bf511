/- The walk of CoreOrder where the core may be; it writes nothing that was there. -/
import Derived.Test.YtdebkncjmbhneaaOrder
namespace Go.Proofs.Ytdebkncjmbhneaa.coreOrder
set_option linter.unusedVariables false
open Go.ChangeShapes Go.WideShapes Go.ChangeAt Go.RowKit

set_option maxRecDepth 100000 in
set_option maxHeartbeats 8000000 in
theorem walk_main (p : Option Addr) (len cap b2 off2 len2 cap2 : Nat) (l : List I5) (r0 z : Nat → Int) (n : Int) (w : World) (hlen : len ≤ 80) (hl : l.length = len) (hr : coreB l ⟨r0, 0, false⟩ = true) (hp : Prg w p l) (hf : (⟨r0, 0, false⟩ : Cor).Fits)
    (n0 : 0 ≤ n) (n1 : n ≤ 255) (hlt2 : b2 < w.heap.size) (hz : ∀ i, i < len2 → w.cell? ⟨b2, off2 + i, none⟩ = some (.int .u32 (z i))) (hzb : ∀ i, i < len2 → 0 ≤ z i ∧ z i ≤ 4294967295) (hins : ∀ i, i < len → 0 ≤ (at5 l i).k ∧ (at5 l i).k ≤ 4294967295) :
    Calls Try.prog 4 #[.slice p len cap, .agg #[.int .u32 (r0 0), .int .u32 (r0 1), .int .u32 (r0 2), .int .u32 (r0 3), .int .u32 (r0 4), .int .u32 (r0 5), .int .u32 (r0 6), .int .u32 (r0 7)], .slice (some ⟨b2, off2, none⟩) len2 cap2, .int .u8 n] w fun e w' => e = .returned (.bool true) ∧ Below w.heap.size w w' := by
  have d1 : decide (80 < (len : Int)) = false := decide_eq_false (by omega)
  have HL := Lib.hid hl
  have HR := Lib.hid hr
  have HP := Lib.hid hp
  have HF := Lib.hid hf
  have HZ := Lib.hid hz
  have HZB := Lib.hid hzb
  have HI := Lib.hid hins
  have HLT := Lib.hid hlt2
  clear hl hr hp hf hz hzb hins hlt2
  go_enter Try.func4, Try.ntmps4
  go_wp2_with fail
  refine (awake_any _).mono ?_
  rintro e w1 ⟨rfl, hb1⟩
  have HC : Hid (Blk w1 w.heap.size #[.int .u32 (r0 0), .int .u32 (r0 1), .int .u32 (r0 2), .int .u32 (r0 3), .int .u32 (r0 4), .int .u32 (r0 5), .int .u32 (r0 6), .int .u32 (r0 7)]) := (Blk.new w _ 24).below hb1
  have HB1 := Lib.hid (((Below.refl w.heap.size w).alloc (Nat.le_refl _) _).trans (hb1.mono (by simp)))
  clear hb1
  have c := HC.out.c
  go_wp2_with fail
  refine (core_call p len cap l ⟨r0, 0, false⟩ true w (w1.alloc (.cells #[.int .u32 (r0 0), .int .u32 (r0 1), .int .u32 (r0 2), .int .u32 (r0 3), .int .u32 (r0 4), .int .u32 (r0 5), .int .u32 (r0 6), .int .u32 (r0 7), .int .i64 0, .bool false] 26)) HL HR HP (HB1.out.alloc HB1.out.size _)).mono ?_
  rintro e w2 ⟨rfl, hb2⟩
  have HB2 : Hid (Below w.heap.size w w2) := (HB1.out.alloc HB1.out.size _).trans (hb2.mono (HB1.out.alloc HB1.out.size _).size)
  have HC2 : Hid (Blk w2 w1.heap.size #[.int .u32 (r0 0), .int .u32 (r0 1), .int .u32 (r0 2), .int .u32 (r0 3), .int .u32 (r0 4), .int .u32 (r0 5), .int .u32 (r0 6), .int .u32 (r0 7), .int .i64 0, .bool false]) := (Blk.new w1 _ 26).below hb2
  have HBS : Hid (w.heap.size ≤ w1.heap.size) := HB1.out.size
  clear hb2 c HC HB1
  go_wp2_with fail
  obtain ⟨m, hm⟩ : ∃ m, m = n % 64 + 1 := ⟨_, rfl⟩
  rw [← hm]
  have m0 : 1 ≤ m := by omega
  have m1 : m ≤ 64 := by omega
  clear hm
  go_loopw [11] (fun iv wr => ∃ i : Nat, i ≤ len2 ∧ iv = .int .i64 i ∧ ∃ (r : Nat → Int) (pc : Int) (h : Bool), coreB l ⟨r, pc, h⟩ = true ∧ (⟨r, pc, h⟩ : Cor).Fits ∧ Blk wr w1.heap.size #[.int .u32 (r 0), .int .u32 (r 1), .int .u32 (r 2), .int .u32 (r 3), .int .u32 (r 4), .int .u32 (r 5), .int .u32 (r 6), .int .u32 (r 7), .int .i64 pc, .bool h] ∧ Below w.heap.size w wr) (fun iv _ => len2 - (intOf iv).toNat)
  case atStart => exact ⟨0, Nat.zero_le _, rfl, r0, 0, false, HR.out, HF.out, HC2.out, HB2.out⟩
  case round =>
    obtain ⟨i, hi, rfl, r, pc, h, hcr, hcf, hcb, hbel⟩ := hrel
    clear HC2 HB2
    have HCR := Lib.hid hcr
    have HCF := Lib.hid hcf
    have HCB := Lib.hid hcb
    have HBE := Lib.hid hbel
    clear hcr hcf hcb hbel
    by_cases hlt : i < len2
    · by_cases h200 : i < 200
      · have i1 : decide ((i : Int) < (len2 : Int)) = true := decide_eq_true (by omega)
        have i2 : decide ((i : Int) < 200) = true := decide_eq_true (by omega)
        have c := HCB.out.c
        obtain ⟨k, q, v, o, hw⟩ : ∃ k q v o, wantOf l ⟨r, pc, h⟩ m = ⟨k, q, v, o⟩ := ⟨_, _, _, _, rfl⟩
        obtain ⟨x, px, hx, hd⟩ : ∃ x px hx, doneOf l ⟨r, pc, h⟩ (z i) = ⟨x, px, hx⟩ := ⟨_, _, _, rfl⟩
        have HW := Lib.hid hw
        have HD := Lib.hid hd
        clear hw hd
        go_wp2_with fail
        refine (kwants p len cap l r pc h m k q v o w wr HL HP HW HCF m1 HBE.out).mono ?_
        rintro e w3 ⟨rfl, hb3⟩
        have HC3 : Hid (Blk w3 w1.heap.size #[.int .u32 (r 0), .int .u32 (r 1), .int .u32 (r 2), .int .u32 (r 3), .int .u32 (r 4), .int .u32 (r 5), .int .u32 (r 6), .int .u32 (r 7), .int .i64 pc, .bool h]) := HCB.out.below hb3
        have HB3 := Lib.hid (HBE.out.trans (hb3.mono HBE.out.size))
        clear hb3 c HCB HBE
        go_upto_region 11 with fail
        obtain ⟨W0, hW0⟩ : ∃ W0, W0 = w3.alloc (.cells #[.int .i64 k, .int .i64 q, .int .u32 v, .int .u32 o] 30) := ⟨_, rfl⟩
        have HC0 : Hid (Blk W0 w1.heap.size #[.int .u32 (r 0), .int .u32 (r 1), .int .u32 (r 2), .int .u32 (r 3), .int .u32 (r 4), .int .u32 (r 5), .int .u32 (r 6), .int .u32 (r 7), .int .i64 pc, .bool h]) := by rw [hW0]; exact HC3.out.alloc _
        have HG0 : Hid (Blk W0 w3.heap.size #[.int .i64 k, .int .i64 q, .int .u32 v, .int .u32 o]) := by rw [hW0]; exact Blk.new w3 _ 30
        have HB0 : Hid (Below w.heap.size w W0) := by rw [hW0]; exact HB3.out.alloc HB3.out.size _
        rw [← hW0]
        clear hW0 HC3 HB3
        have HP0 : Hid (Prg W0 p l) := HP.out.below HB0.out
        have HZ0 : Hid (W0.cell? ⟨b2, off2 + i, none⟩ = some (.int .u32 (z i))) := (HB0.out.cell (p := ⟨b2, off2 + i, none⟩) HLT.out).trans (HZ.out i hlt)
        have HL0 : Hid (b2 < W0.heap.size) := Nat.lt_of_lt_of_le HLT.out HB0.out.size
        go_cut [13] (fun s13 wc => ∃ D, s13 = .pointer (some ⟨D, 0, none⟩) ∧ Blk wc D #[.int .u32 (x 0), .int .u32 (x 1), .int .u32 (x 2), .int .u32 (x 3), .int .u32 (x 4), .int .u32 (x 5), .int .u32 (x 6), .int .u32 (x 7), .int .i64 px, .bool hx] ∧ Blk wc w1.heap.size #[.int .u32 (r 0), .int .u32 (r 1), .int .u32 (r 2), .int .u32 (r 3), .int .u32 (r 4), .int .u32 (r 5), .int .u32 (r 6), .int .u32 (r 7), .int .i64 pc, .bool h] ∧ Blk wc w3.heap.size #[.int .i64 k, .int .i64 q, .int .u32 v, .int .u32 o] ∧ Below w.heap.size w wc)
        case first =>
          have i3 : (0 : Int) ≤ (i : Int) := by omega
          have i4 : (i : Int) < (len2 : Int) := by omega
          go_region_held3 (fun w' => (∀ j, w'.cell? ⟨w1.heap.size, j, none⟩ = (#[.int .u32 (r 0), .int .u32 (r 1), .int .u32 (r 2), .int .u32 (r 3), .int .u32 (r 4), .int .u32 (r 5), .int .u32 (r 6), .int .u32 (r 7), .int .i64 pc, .bool h] : Array Value)[j]?) ∧ w'.cell? ⟨b2, off2 + i, none⟩ = some (.int .u32 (z i)) ∧ Below W0.heap.size W0 w')
            ((refine sOf3 HC0 HZ0 HL0 ?_; simp (config := { maxDischargeDepth := 60 }) only [bA, bS, bD, bR, *]))
            (first
              | (go_at_call 11; refine (kdone p len cap l r pc h (z i) x px hx w1.heap.size b2 (off2 + i) (.int .u32 (z i)) W0 _ HL HP0 HD HC0 HZ0 HL0 ?_).mono ?_; (first | assumption | (exact (‹_ ∧ _ ∧ _›).2.2)); (rintro e w4 ⟨rfl, c4, cz4, hb4, hd4⟩; (first | with_reducible have t1 := Trk.one hd4 | skip); (try (have v1 := t1.blk.c; have v2 := t1.blk.f; have v3 := t1.blk.lt; have ge1 := t1.ge; have bk1 := t1.blk)))))
          all_goals
            go_wp2_with fail
            go_meet
            case rel =>
              go_light
              refine ⟨_, rfl, ?_, restOf HC0 HG0 HB0 ?_⟩
              · first | simp only [blkNew, blkA, size_new] | simp only [storeZ bk1]
              · simp (config := { maxDischargeDepth := 60 }) only [bA, bS, bD, bR, *]
        case rest =>
          obtain ⟨D, rfl, kD, kB, kG, hbc⟩ := hcut
          clear HC0 HG0 HB0 HP0 HZ0 HL0
          have HKD := Lib.hid kD
          have HKB := Lib.hid kB
          have HKG := Lib.hid kG
          have HBC := Lib.hid hbc
          clear kD kB kG hbc
          have hpcs := (core_has HCR.out)
          have HKI : Hid (0 ≤ (insAt l ⟨r, pc, h⟩).k ∧ (insAt l ⟨r, pc, h⟩).k ≤ 4294967295) := HI.out _ (by have h1 := hpcs.2.1; have h0 := hpcs.1; rw [HL.out] at h1; simp only at h0 h1 ⊢; omega)
          clear hpcs
          have HST : Hid (coreB l ⟨x, px, hx⟩ = true) := by have e := done_stays (z i) HKI.out.1 HCR.out; rw [HD.out] at e; exact e
          have kk := want_kind l ⟨r, pc, h⟩ m
          have kq := want_at l ⟨r, pc, h⟩ m m0
          rw [HW.out] at kk kq
          simp only at kk kq
          have q1 : decide (q < 0) = false := decide_eq_false (by omega)
          have q2 : decide (m ≤ q) = false := decide_eq_false (by omega)
          have q3 : decide (k < 0) = false := decide_eq_false (by omega)
          have q4 : decide (5 < k) = false := decide_eq_false (by omega)
          clear kk kq
          go_upto_region 12 with fail
          go_cut [87] (fun s87 wd => s87 = .bool false ∧ Blk wd D #[.int .u32 (x 0), .int .u32 (x 1), .int .u32 (x 2), .int .u32 (x 3), .int .u32 (x 4), .int .u32 (x 5), .int .u32 (x 6), .int .u32 (x 7), .int .i64 px, .bool hx] ∧ Blk wd w1.heap.size #[.int .u32 (r 0), .int .u32 (r 1), .int .u32 (r 2), .int .u32 (r 3), .int .u32 (r 4), .int .u32 (r 5), .int .u32 (r 6), .int .u32 (r 7), .int .i64 pc, .bool h] ∧ Blk wd w3.heap.size #[.int .i64 k, .int .i64 q, .int .u32 v, .int .u32 o] ∧ Below w.heap.size w wd)
          case first =>
            have cD := HKD.out.c
            go_wp2_with fail
            refine (core_call p len cap l ⟨x, px, hx⟩ true w wc HL HST HP HBC.out).mono ?_
            rintro e w5 ⟨rfl, hb5⟩
            have HKD5 := Lib.hid (HKD.out.below hb5)
            have HKB5 := Lib.hid (HKB.out.below hb5)
            have HKG5 := Lib.hid (HKG.out.below hb5)
            have HBC5 := Lib.hid (HBC.out.trans (hb5.mono HBC.out.size))
            clear hb5 cD
            have cD := HKD5.out.c
            have cB := HKB5.out.c
            have cG := HKG5.out.c
            cases h with
            | false =>
              go_wp2_with fail
              go_meet
              case rel => exact ⟨rfl, HKD5.out, HKB5.out, HKG5.out, HBC5.out⟩
            | true =>
              have hq : ∀ W, (binOp .neq 26 (.agg #[.int .u32 (x 0), .int .u32 (x 1), .int .u32 (x 2), .int .u32 (x 3), .int .u32 (x 4), .int .u32 (x 5), .int .u32 (x 6), .int .u32 (x 7), .int .i64 px, .bool hx]) (.agg #[.int .u32 (r 0), .int .u32 (r 1), .int .u32 (r 2), .int .u32 (r 3), .int .u32 (r 4), .int .u32 (r 5), .int .u32 (r 6), .int .u32 (r 7), .int .i64 pc, .bool true])).run Try.prog W = .ok (.bool false) W := fun W => by
                have e := neq_core W ⟨x, px, hx⟩ ⟨r, pc, true⟩
                have e2 : (⟨x, px, hx⟩ : Cor) = ⟨r, pc, true⟩ := by rw [← HD.out]; exact done_halt (z i) rfl
                rw [show eqC ⟨x, px, hx⟩ ⟨r, pc, true⟩ = true by rw [e2]; exact eqC_refl _] at e
                exact e
              go_wp2_with fail
              go_meet
              case rel => exact ⟨rfl, HKD5.out, HKB5.out, HKG5.out, HBC5.out⟩
          case rest =>
            obtain ⟨rfl, kD, kB, kG, hbc⟩ := hcut
            clear HKD HKB HKG HBC q1 q2 q3 q4
            have HKD := Lib.hid kD
            have HKB := Lib.hid kB
            have HKG := Lib.hid kG
            have HBC := Lib.hid hbc
            clear kD kB kG hbc
            obtain ⟨wo, rfl⟩ : ∃ wo : World, wo = wr := ⟨_, rfl⟩
            go_wp2_with fail
            go_loopw [14, 15] (fun t iv wr => ∃ j : Nat, j ≤ 8 ∧ t = .int .i64 (cnt r x j : Nat) ∧ iv = .int .i64 j ∧ Blk wr D #[.int .u32 (x 0), .int .u32 (x 1), .int .u32 (x 2), .int .u32 (x 3), .int .u32 (x 4), .int .u32 (x 5), .int .u32 (x 6), .int .u32 (x 7), .int .i64 px, .bool hx] ∧ Blk wr w1.heap.size #[.int .u32 (r 0), .int .u32 (r 1), .int .u32 (r 2), .int .u32 (r 3), .int .u32 (r 4), .int .u32 (r 5), .int .u32 (r 6), .int .u32 (r 7), .int .i64 pc, .bool h] ∧ Blk wr w3.heap.size #[.int .i64 k, .int .i64 q, .int .u32 v, .int .u32 o] ∧ Below w.heap.size w wr) (fun _ iv _ => 8 - (intOf iv).toNat)
            case atStart => exact ⟨0, by omega, rfl, rfl, HKD.out, HKB.out, HKG.out, HBC.out⟩
            case round =>
              obtain ⟨j, hj, rfl, rfl, kD, kB, kG, hbc⟩ := hrel
              clear HKD HKB HKG HBC
              have cD := kD.c
              have cB := kB.c
              have HKD := Lib.hid kD
              have HKB := Lib.hid kB
              have HKG := Lib.hid kG
              have HBC := Lib.hid hbc
              clear kD kB kG hbc
              obtain ⟨T, hT⟩ : ∃ T, T = cnt r x j := ⟨_, rfl⟩
              have hT8 : T ≤ j := by rw [hT]; exact cnt_le r x j
              rw [← hT]
              have HT := Lib.hid hT
              clear hT
              by_cases hj8 : j < 8
              · have j0 : (0 : Int) ≤ (j : Int) := by omega
                have j1 : (j : Int) < 8 := by omega
                have dD : wr.cell? ⟨D, j, none⟩ = some (.int .u32 (x j)) := (cD j).trans (Cor.row_at ⟨x, px, hx⟩ j hj8)
                have dB : wr.cell? ⟨w1.heap.size, j, none⟩ = some (.int .u32 (r j)) := (cB j).trans (Cor.row_at ⟨r, pc, h⟩ j hj8)
                clear cD cB
                by_cases hg : r j = x j
                · have e1 : (r j != x j) = false := by simpa using hg
                  have HS : Hid (cnt r x (j + 1) = T) := by show cnt r x j + (if r j = x j then 0 else 1) = T; rw [if_pos hg, HT.out]; rfl
                  clear hg
                  go_wp2_with fail
                  go_quiet (fail)
                  go_wp2
                  go_roundw
                  case rel => exact ⟨j + 1, by omega, by rw [HS.out], by go_num, HKD.out.drewN _, HKB.out.drewN _, HKG.out.drewN _, below_drewN HBC.out _⟩
                  case measure => simp [intOf]; omega
                · have e1 : (r j != x j) = true := by simpa using hg
                  have HS : Hid (cnt r x (j + 1) = T + 1) := by show cnt r x j + (if r j = x j then 0 else 1) = T + 1; rw [if_neg hg, HT.out]
                  clear hg
                  go_wp2_with fail
                  go_quiet (fail)
                  go_wp2
                  go_roundw
                  case rel => exact ⟨j + 1, by omega, by rw [HS.out]; go_num, by go_num, HKD.out.drewN _, HKB.out.drewN _, HKG.out.drewN _, below_drewN HBC.out _⟩
                  case measure => simp [intOf]; omega
              · obtain rfl : j = 8 := by omega
                have HT1 : Hid (T ≤ 1) := by obtain ⟨A, hA⟩ := done_one l ⟨r, pc, h⟩ (z i); rw [HD.out] at hA; rw [HT.out]; exact (cnt_one r x A hA 8).1
                have t1 : decide (1 < (T : Int)) = false := decide_eq_false (by have := HT1.out; omega)
                clear cD cB
                go_upto_region 20 with fail
                go_cut [126] (fun s126 wd => s126 = .bool false ∧ Blk wd D #[.int .u32 (x 0), .int .u32 (x 1), .int .u32 (x 2), .int .u32 (x 3), .int .u32 (x 4), .int .u32 (x 5), .int .u32 (x 6), .int .u32 (x 7), .int .i64 px, .bool hx] ∧ Blk wd w1.heap.size #[.int .u32 (r 0), .int .u32 (r 1), .int .u32 (r 2), .int .u32 (r 3), .int .u32 (r 4), .int .u32 (r 5), .int .u32 (r 6), .int .u32 (r 7), .int .i64 pc, .bool h] ∧ Blk wd w3.heap.size #[.int .i64 k, .int .i64 q, .int .u32 v, .int .u32 o] ∧ Below w.heap.size w wd)
                case first =>
                  by_cases hk5 : k = 5
                  · subst hk5
                    have hrest := want_rest (l := l) (c := ⟨r, pc, h⟩) (n := m) (z i) HCR.out (by rw [HW.out])
                    rw [HD.out, HW.out] at hrest
                    obtain ⟨g1, g2, g3⟩ := hrest
                    simp only at g1 g2
                    subst g2
                    have HT0 : T = 0 := by rw [HT.out]; exact cnt_zero r x g1 8
                    have HWD : Hid (wantOf l ⟨x, px, true⟩ m = ⟨5, q, v, o⟩) := g3
                    have HFX : Hid ((⟨x, px, true⟩ : Cor).Fits) := by have e := done_fits (l := l) (c := ⟨r, pc, h⟩) (a := z i) HCF.out (HZB.out i hlt) HKI.out.1 HKI.out.2; rw [HD.out] at e; exact e
                    have HPW : Hid (Prg wr p l) := HP.out.below HBC.out
                    clear g1 g3
                    subst HT0
                    have cD := HKD.out.c
                    have cG := HKG.out.c
                    clear t1 HT1 HT
                    go_region_held3 (fun w' => (∀ j, w'.cell? ⟨D, j, none⟩ = (#[.int .u32 (x 0), .int .u32 (x 1), .int .u32 (x 2), .int .u32 (x 3), .int .u32 (x 4), .int .u32 (x 5), .int .u32 (x 6), .int .u32 (x 7), .int .i64 px, .bool true] : Array Value)[j]?) ∧ (∀ j, w'.cell? ⟨w3.heap.size, j, none⟩ = (#[.int .i64 5, .int .i64 q, .int .u32 v, .int .u32 o] : Array Value)[j]?) ∧ Below wr.heap.size wr w')
                      ((refine sOf4 HKD HKG ?_; simp (config := { maxDischargeDepth := 60 }) only [bA, bS, bD, bR, *]))
                      (first
                        | (go_at_call 9; refine (kwants4 p len cap l x px m q v o D w3.heap.size wr _ HL HPW HWD HFX m1 HKD HKG ?_).mono ?_; (first | assumption | (exact (‹_ ∧ _ ∧ _›).2.2)); (rintro e w6 ⟨rfl, c6, cz6, hb6⟩)))
                    all_goals
                      go_wp2_with fail
                      go_meet
                      case rel =>
                        go_light
                        refine ⟨rfl, keep4 HKD HKB HKG HBC ?_⟩
                        simp (config := { maxDischargeDepth := 60 }) only [bA, bS, bD, bR, *]
                  · have k5 : (k == 5) = false := by simpa using hk5
                    have cG := HKG.out.c
                    clear hk5
                    go_quiet (fail)
                    go_wp2_with fail
                    go_meet
                    case rel => exact ⟨rfl, HKD.out.drewN _, HKB.out.drewN _, HKG.out.drewN _, below_drewN HBC.out _⟩
                case rest =>
                  obtain ⟨rfl, kD, kB, kG, hbc⟩ := hcut
                  clear HKD HKB HKG HBC t1
                  have HKD := Lib.hid kD
                  have HKB := Lib.hid kB
                  have HKG := Lib.hid kG
                  have HBC := Lib.hid hbc
                  clear kD kB kG hbc
                  go_upto_region 22 with fail
                  go_cut [145] (fun s145 wd => s145 = .bool false ∧ Blk wd D #[.int .u32 (x 0), .int .u32 (x 1), .int .u32 (x 2), .int .u32 (x 3), .int .u32 (x 4), .int .u32 (x 5), .int .u32 (x 6), .int .u32 (x 7), .int .i64 px, .bool hx] ∧ Blk wd w1.heap.size #[.int .u32 (r 0), .int .u32 (r 1), .int .u32 (r 2), .int .u32 (r 3), .int .u32 (r 4), .int .u32 (r 5), .int .u32 (r 6), .int .u32 (r 7), .int .i64 pc, .bool h] ∧ Blk wd w3.heap.size #[.int .i64 k, .int .i64 q, .int .u32 v, .int .u32 o] ∧ Below w.heap.size w wd)
                  case first =>
                    by_cases hk2 : k = 2
                    · have hk2' := hk2
                      have hwr := want_write (l := l) (c := ⟨r, pc, h⟩) (n := m) (z i) HCR.out (by rw [HW.out]; simp only; omega)
                      rw [HD.out] at hwr
                      obtain ⟨g1, g2⟩ := hwr
                      simp only at g1
                      have HT0 : T = 0 := by rw [HT.out]; exact cnt_zero r x g1 8
                      have HD0 : Hid (doneOf l ⟨r, pc, h⟩ 0 = ⟨x, px, hx⟩) := g2.symm
                      have HPW : Hid (Prg wc p l) := HP.out.below HBC.out
                      have hq : ∀ W, (binOp .neq 26 (.agg #[.int .u32 (x 0), .int .u32 (x 1), .int .u32 (x 2), .int .u32 (x 3), .int .u32 (x 4), .int .u32 (x 5), .int .u32 (x 6), .int .u32 (x 7), .int .i64 px, .bool hx]) (.agg #[.int .u32 (x 0), .int .u32 (x 1), .int .u32 (x 2), .int .u32 (x 3), .int .u32 (x 4), .int .u32 (x 5), .int .u32 (x 6), .int .u32 (x 7), .int .i64 px, .bool hx])).run Try.prog W = .ok (.bool false) W := fun W => by
                        have e := neq_core W ⟨x, px, hx⟩ ⟨x, px, hx⟩
                        rw [eqC_refl] at e
                        exact e
                      clear g1 g2
                      have k2 : (k == 2) = true := by simpa using hk2
                      clear hk2 hk2'
                      subst HT0
                      have cD := HKD.out.c
                      have cB := HKB.out.c
                      have cG := HKG.out.c
                      clear HT1 HT
                      first
                      | (go_region_with ((go_at_call 11; refine (kdone5 p len cap l r pc h x px hx D w1.heap.size w3.heap.size #[.int .i64 k, .int .i64 q, .int .u32 v, .int .u32 o] wc _ HL HPW HD0 HKD HKB HKG ?_).mono ?_; (exact (Below.refl _ _).drew); (rintro e w6 ⟨rfl, c6, cy6, cz6, hb6⟩))))
                      | fail
                      all_goals
                        go_wp2_with fail
                        go_meet
                        case rel =>
                          go_light
                          refine ⟨rfl, keep4 HKD HKB HKG HBC ?_⟩
                          simp (config := { maxDischargeDepth := 60 }) only [bA, bS, bD, bR, *]
                    by_cases hk4 : k = 4
                    · have hk4' := hk4
                      have hwr := want_write (l := l) (c := ⟨r, pc, h⟩) (n := m) (z i) HCR.out (by rw [HW.out]; simp only; omega)
                      rw [HD.out] at hwr
                      obtain ⟨g1, g2⟩ := hwr
                      simp only at g1
                      have HT0 : T = 0 := by rw [HT.out]; exact cnt_zero r x g1 8
                      have HD0 : Hid (doneOf l ⟨r, pc, h⟩ 0 = ⟨x, px, hx⟩) := g2.symm
                      have HPW : Hid (Prg wc p l) := HP.out.below HBC.out
                      have hq : ∀ W, (binOp .neq 26 (.agg #[.int .u32 (x 0), .int .u32 (x 1), .int .u32 (x 2), .int .u32 (x 3), .int .u32 (x 4), .int .u32 (x 5), .int .u32 (x 6), .int .u32 (x 7), .int .i64 px, .bool hx]) (.agg #[.int .u32 (x 0), .int .u32 (x 1), .int .u32 (x 2), .int .u32 (x 3), .int .u32 (x 4), .int .u32 (x 5), .int .u32 (x 6), .int .u32 (x 7), .int .i64 px, .bool hx])).run Try.prog W = .ok (.bool false) W := fun W => by
                        have e := neq_core W ⟨x, px, hx⟩ ⟨x, px, hx⟩
                        rw [eqC_refl] at e
                        exact e
                      clear g1 g2
                      have k2 : (k == 2) = false := by simpa using hk2
                      have k4 : (k == 4) = true := by simpa using hk4
                      clear hk2 hk4 hk4'
                      subst HT0
                      have cD := HKD.out.c
                      have cB := HKB.out.c
                      have cG := HKG.out.c
                      clear HT1 HT
                      go_region_held3 (fun w' => (∀ j, w'.cell? ⟨D, j, none⟩ = (#[.int .u32 (x 0), .int .u32 (x 1), .int .u32 (x 2), .int .u32 (x 3), .int .u32 (x 4), .int .u32 (x 5), .int .u32 (x 6), .int .u32 (x 7), .int .i64 px, .bool hx] : Array Value)[j]?) ∧ (∀ j, w'.cell? ⟨w1.heap.size, j, none⟩ = (#[.int .u32 (r 0), .int .u32 (r 1), .int .u32 (r 2), .int .u32 (r 3), .int .u32 (r 4), .int .u32 (r 5), .int .u32 (r 6), .int .u32 (r 7), .int .i64 pc, .bool h] : Array Value)[j]?) ∧ (∀ j, w'.cell? ⟨w3.heap.size, j, none⟩ = (#[.int .i64 k, .int .i64 q, .int .u32 v, .int .u32 o] : Array Value)[j]?) ∧ Below wc.heap.size wc w')
                        ((refine sOf5 HKD HKB HKG ?_; simp (config := { maxDischargeDepth := 60 }) only [bA, bS, bD, bR, *]))
                        (first
                          | (go_at_call 11; refine (kdone5 p len cap l r pc h x px hx D w1.heap.size w3.heap.size #[.int .i64 k, .int .i64 q, .int .u32 v, .int .u32 o] wc _ HL HPW HD0 HKD HKB HKG ?_).mono ?_; (first | assumption | (exact (‹_ ∧ _ ∧ _ ∧ _›).2.2.2)); (rintro e w6 ⟨rfl, c6, cy6, cz6, hb6⟩)))
                      all_goals
                        go_wp2_with fail
                        go_meet
                        case rel =>
                          go_light
                          refine ⟨rfl, keep4 HKD HKB HKG HBC ?_⟩
                          simp (config := { maxDischargeDepth := 60 }) only [bA, bS, bD, bR, *]
                    · have k2 : (k == 2) = false := by simpa using hk2
                      have k4 : (k == 4) = false := by simpa using hk4
                      have cG := HKG.out.c
                      clear hk2 hk4
                      go_quiet (fail)
                      go_wp2_with fail
                      go_meet
                      case rel => exact ⟨rfl, HKD.out.drewN _, HKB.out.drewN _, HKG.out.drewN _, below_drewN HBC.out _⟩
                  case rest =>
                    obtain ⟨rfl, kD, kB, kG, hbc⟩ := hcut
                    clear HKD HKB HKG HBC
                    have cD := kD.c
                    have cB := kB.c
                    have fB := kB.f
                    have lB := kB.lt
                    have HKB := Lib.hid kB
                    have HBC := Lib.hid hbc
                    have HFX : Hid ((⟨x, px, hx⟩ : Cor).Fits) := by have e := done_fits (l := l) (c := ⟨r, pc, h⟩) (a := z i) HCF.out (HZB.out i hlt) HKI.out.1 HKI.out.2; rw [HD.out] at e; exact e
                    clear kD kB kG hbc
                    go_wp2
                    go_roundw
                    case rel =>
                      exact ⟨i + 1, by omega, by go_num, x, px, hx, HST.out, HFX.out, storeAny x px hx HKB.out, below10 HBC.out HBS.out _ _ _ _ _ _ _ _ _ _⟩
                    case measure => simp [intOf]; omega

      · have i1 : decide ((i : Int) < (len2 : Int)) = true := decide_eq_true (by omega)
        have i2 : decide ((i : Int) < 200) = false := decide_eq_false (by omega)
        go_wp2
        go_ret
        exact ⟨rfl, HBE.out⟩
    · have i1 : decide ((i : Int) < (len2 : Int)) = false := decide_eq_false (by omega)
      go_wp2
      go_ret
      exact ⟨rfl, HBE.out⟩
end Go.Proofs.Ytdebkncjmbhneaa.coreOrder
