/- For any size, any banks and anything that is done the statement StoreSurvives answers true and leaves its arguments as they were; no condition. -/
import Derived.Test.YtflakmabciokbaaZg
import Derived.WalkKit
import Derived.ProofKit
import Derived.OpenShut
import Derived.ShutString
import Derived.ChangeOld
import Derived.Below
/- StoreSurvives: the walk of the statement's function; no condition but that the list reads. -/
namespace Go.Proofs.Ytflakmabciokbaa
set_option linter.unusedVariables false
open Go.ChangeShapes Go.WideShapes Go.ChangeAt Go.RowKit

set_option maxHeartbeats 16000000 in
set_option maxRecDepth 100000 in
theorem surv_main (A Bb : Nat) (p0 : Option Addr) (len cap : Nat) (ds : List Ud.Dt) (w : World) (hA : A < 256) (hBb : Bb < 256) (hz : ds.length = len) (hmx : len ≤ maxLen) (hf : ∀ d ∈ ds, d.Fits) (hq : Ud.Els w p0 4 len (fun k => (ds.getD k Ud.dt0).row)) :
    Calls Try.prog 4 #[.int .u8 A, .int .u8 Bb, .slice p0 len cap] w fun e w' => e = .returned (.bool true) ∧ Below w.heap.size w w' := by
  have HQ := Lib.hid hq
  have HZ := Lib.hid hz
  have HF := Lib.hid hf
  unfold maxLen at hmx
  clear hq hz hf
  go_enter Try.func4, Try.ntmps4
  go_wp2_with fail
  refine (sawake_any _).mono ?_
  rintro e w1 ⟨rfl, hb1⟩
  have HB1 : Hid (Below w.heap.size w w1) := Lib.hid hb1
  clear hb1
  go_upto_region 4 with fail
  obtain ⟨n, hn⟩ : ∃ n : Nat, n = A % 16 + 1 := ⟨_, rfl⟩
  have en : (A : Int) % 16 + 1 = (n : Int) := by omega
  rw [en]
  have hn1 : 1 ≤ n := by omega
  have hn16 : n ≤ 16 := by omega
  clear hn en
  obtain ⟨bn, hbn⟩ : ∃ n : Nat, n = Bb % 8 + 1 := ⟨_, rfl⟩
  obtain ⟨bx, hbx⟩ : ∃ n : Nat, n = Bb % 8 := ⟨_, rfl⟩
  have eb0 : (Bb : Int) % 8 = (bx : Int) := by omega
  have eb : (bx : Int) + 1 = (bn : Int) := by omega
  have hbw : IntKind.i64.wrap (bx : Int) = (bx : Int) := by rw [IntKind.wrap_i64]; omega
  have hbw2 : IntKind.i64.wrap ((bx : Int) + 1) = (bn : Int) := by rw [IntKind.wrap_i64]; omega
  have hbw3 : wrap64 ((bx : Int) + 1) = (bn : Int) := by unfold wrap64; omega
  have hb1 : 1 ≤ bn := by omega
  have hb8 : bn ≤ 8 := by omega
  obtain ⟨hE0, hinv⟩ := InvS.new (n := n) (b := bn) ⟨hn1, by omega⟩ ⟨hb1, hb8⟩
  have hnew := snew_any (fun _ => False) (n : Int) (bn : Int) w1 (fun _ h => h.elim)
  rw [hE0] at hnew
  obtain ⟨V0, hV0⟩ : ∃ y, y = newV n bn := ⟨_, rfl⟩
  obtain ⟨mq, hmq⟩ : ∃ y, y = (n - 1) / bn + 1 := ⟨_, rfl⟩
  rw [← hV0] at hnew hinv
  rw [← hmq] at hinv
  have HINV : Hid (InvS n bn mq V0 0 0 [wordsV V0] 0) := Lib.hid hinv
  have HN := Lib.hid hnew
  clear hV0 hinv hnew hE0 hmq hbn hbx
  go_wp2_with fail
  refine HN.out.mono ?_
  clear HN
  rintro e w2 ⟨v, rfl, hlo, hb⟩
  have HB2 : Hid (Below w.heap.size w w2) := Lib.hid (HB1.out.trans (hb.mono HB1.out.size))
  obtain ⟨p1, n1, c1, xs1, pp1, m1, cc1, q1, k1, d1, rfl, hcc, hoff⟩ := hlo
  have HC : Hid (Vo (fun _ => False) w2 (.agg #[.slice p1 n1 c1, .slice pp1 m1 cc1, .int .i64 V0.B.lost, .int .i64 V0.words, .int .i64 V0.span, .slice q1 k1 d1]) V0) := Lib.hid ⟨p1, n1, c1, xs1, pp1, m1, cc1, q1, k1, d1, rfl, hcc, hoff⟩
  clear hoff hb hcc HB1 eb0 eb hbw hbw2 hbw3
  go_upto_region 5 with fail
  obtain ⟨b, hbe⟩ : ∃ b, b = w2.heap.size := ⟨_, rfl⟩
  obtain ⟨w3, hw3⟩ : ∃ w3, w3 = w2.alloc (.cells #[.slice p1 n1 c1, .slice pp1 m1 cc1, .int .i64 V0.B.lost, .int .i64 V0.words, .int .i64 V0.span, .slice q1 k1 d1] 28) := ⟨_, rfl⟩
  have HV3 : Hid (VarV (fun R => R = b) w3 b V0) := Lib.hid (by rw [hw3, hbe]; exact VarV.new _ (HC.out.later (fun R hR => .inr (by rw [hR]; exact Nat.le_refl _))))
  have HB3 : Hid (Below w.heap.size w w3) := Lib.hid (by rw [hw3]; exact HB2.out.alloc HB2.out.size _)
  have HBG : Hid (w.heap.size ≤ b ∧ b < w3.heap.size) := Lib.hid (by rw [hw3, hbe]; exact ⟨HB2.out.size, by simp⟩)
  have HK3 : Hid (Blk w3 b #[.slice p1 n1 c1, .slice pp1 m1 cc1, .int .i64 V0.B.lost, .int .i64 V0.words, .int .i64 V0.span, .slice q1 k1 d1]) := Lib.hid (by rw [hw3, hbe]; exact Blk.new _ _ _)
  have HWO := Lib.hid (swords_any (fun _ => False) _ V0 w3 (by rw [hw3]; exact HC.out.below ((Below.refl _ _).alloc (Nat.le_refl _) _)))
  rw [← hw3, ← hbe]
  clear hw3 hbe HC HB2
  have kK := HK3.out.c
  go_wp2_with fail
  refine HWO.out.mono ?_
  rintro e w4 ⟨r, rfl, hr, hb⟩
  rw [HINV.out.wl] at hr
  obtain ⟨p2, c2, rfl, -⟩ := own_cap hr
  have HO4 := Lib.hid hr
  have HB4 := Lib.hid hb
  clear hr hb kK HWO HK3
  go_upto_region 8 with fail
  obtain ⟨w5, hw5⟩ : ∃ y, y = w4.alloc (.cells #[.slice p2 n c2] 23) := ⟨_, rfl⟩
  have HUB : Hid (UBV w w5 b V0 (some ⟨w4.heap.size, 0, none⟩) n 1 1 [.slice p2 n c2] [wordsV V0]) := Lib.hid (by
    have hA : Below w4.heap.size w4 w5 := by rw [hw5]; exact (Below.refl _ _).alloc (Nat.le_refl _) _
    refine ⟨(HV3.out.below HB4.out).below hA, Ud.Was.new (base := w3.heap.size) HBG.out.2 (own_below HO4.out hA) (by rw [hw5]; exact Blk.new _ _ _) (Nat.lt_of_lt_of_le HBG.out.2 HB4.out.size), (HB3.out.trans (HB4.out.mono HB3.out.size)).trans (hA.mono (Nat.le_trans HB3.out.size HB4.out.size)), HBG.out.1⟩)
  rw [← hw5]
  clear hw5 HO4 HB4 HV3 HB3 HBG
  go_wp2_with fail
  go_loopw [10, 11, 12] (fun s8 s9 s10 wr => ∃ (k f sp : Nat) (V : Vt) (q : Option Addr) (N c : Nat) (xs : List Value) (Ws : List (List Int)), k ≤ len ∧ k ≤ 60 ∧ s10 = .int .i64 k ∧ s9 = .int .i64 f ∧ s8 = .slice q N c ∧ InvS n bn mq V f sp Ws k ∧ UBV w wr b V q n N c xs Ws) (fun _ _ s10 _ => len - (intOf s10).toNat)
  case atStart => exact ⟨0, 0, 0, V0, _, _, _, _, _, Nat.zero_le _, Nat.zero_le _, rfl, rfl, rfl, HINV.out, HUB.out⟩
  case round =>
    clear HINV HUB
    obtain ⟨k, f, sp, V, q, N, c, xs, Ws, hk, hk100, rfl, rfl, rfl, hinv, hub⟩ := hrel
    have HINV := Lib.hid hinv
    have HUB := Lib.hid hub
    clear hinv hub
    go_upto_region 10 with fail
    go_cut [51] (fun s51 wd => s51 = .bool (decide (k < len ∧ k < 60)) ∧ wr = wd)
    case first =>
      by_cases h1 : k < len
      · have h1I : decide ((k : Int) < len) = true := decide_eq_true (by omega)
        by_cases h2 : k < 60
        · have h2I : decide ((k : Int) < 60) = true := decide_eq_true (by omega)
          have HGO : Hid (decide (k < len ∧ k < 60) = true) := Lib.hid (decide_eq_true ⟨h1, h2⟩)
          go_wp2_with fail
          go_meet
          case rel => exact ⟨by rw [HGO.out], rfl⟩
        · have h2I : decide ((k : Int) < 60) = false := decide_eq_false (by omega)
          have HGO : Hid (decide (k < len ∧ k < 60) = false) := Lib.hid (decide_eq_false (by omega))
          go_wp2_with fail
          go_meet
          case rel => exact ⟨by rw [HGO.out], rfl⟩
      · have h1I : decide ((k : Int) < len) = false := decide_eq_false (by omega)
        have HGO : Hid (decide (k < len ∧ k < 60) = false) := Lib.hid (decide_eq_false (by omega))
        go_wp2_with fail
        go_meet
        case rel => exact ⟨by rw [HGO.out], rfl⟩
    case rest =>
      obtain ⟨rfl, rfl⟩ := hcut
      by_cases hgo : k < len ∧ k < 60
      · rw [decide_eq_true hgo]
        obtain ⟨hkl, hk1⟩ := hgo
        obtain ⟨bq, off, hbl, rfl, hc⟩ := HQ.out (by omega)
        have hfit := HF.out (ds.getD k Ud.dt0) (by
          rw [List.getD_eq_getElem?_getD, List.getElem?_eq_getElem (by rw [HZ.out]; exact hkl)]; exact List.getElem_mem _)
        obtain ⟨⟨kd, a, t, v⟩, hyy⟩ : ∃ y, ds.getD k Ud.dt0 = y := ⟨_, rfl⟩
        have hc0 : wr.cell? ⟨bq, off + k * 4 + 0, none⟩ = (ds.getD k Ud.dt0).row[0]? := (HUB.out.hb.cell (p := ⟨bq, off + k * 4 + 0, none⟩) hbl).trans (hc k hkl 0 (by decide))
        have hc1 : wr.cell? ⟨bq, off + k * 4 + 1, none⟩ = (ds.getD k Ud.dt0).row[1]? := (HUB.out.hb.cell (p := ⟨bq, off + k * 4 + 1, none⟩) hbl).trans (hc k hkl 1 (by decide))
        have hc2 : wr.cell? ⟨bq, off + k * 4 + 2, none⟩ = (ds.getD k Ud.dt0).row[2]? := (HUB.out.hb.cell (p := ⟨bq, off + k * 4 + 2, none⟩) hbl).trans (hc k hkl 2 (by decide))
        have hc3 : wr.cell? ⟨bq, off + k * 4 + 3, none⟩ = (ds.getD k Ud.dt0).row[3]? := (HUB.out.hb.cell (p := ⟨bq, off + k * 4 + 3, none⟩) hbl).trans (hc k hkl 3 (by decide))
        rw [hyy] at hc0 hc1 hc2 hc3 hfit
        have hd0 : wr.cell? ⟨bq, off + k * 4, none⟩ = some (.int .u8 (kd : Int)) := hc0
        have hd1 : wr.cell? ⟨bq, off + k * 4 + 1, none⟩ = some (.int .u8 (a : Int)) := hc1
        have hd2 : wr.cell? ⟨bq, off + k * 4 + 2, none⟩ = some (.int .u8 (t : Int)) := hc2
        have hd3 : wr.cell? ⟨bq, off + k * 4 + 3, none⟩ = some (.int .u32 (v : Int)) := hc3
        have hkd : kd < 256 := hfit.1
        have ha : a < 256 := hfit.2.1
        have ht : t < 256 := hfit.2.2.1
        have hv32 : v < 4294967296 := hfit.2.2.2
        have hkI : (0 : Int) ≤ (k : Int) := by omega
        have hkI2 : (k : Int) < (len : Int) := by omega
        clear hc hc0 hc1 hc2 hc3 hyy hfit
        go_upto_region 15 with fail
        obtain ⟨g, hg⟩ : ∃ y, y = wr.heap.size := ⟨_, rfl⟩
        obtain ⟨w5, hw5⟩ : ∃ y, y = (wr.alloc (.cells #[.int .u8 (kd : Int), .int .u8 (a : Int), .int .u8 (t : Int), .int .u32 (v : Int)] 56)).alloc (.cells #[.slice none 0 0, .slice none 0 0, .int .i64 0, .int .i64 0, .int .i64 0, .slice none 0 0] 28) := ⟨_, rfl⟩
        have HB5 : Hid (Below wr.heap.size wr w5) := Lib.hid (by rw [hw5]; exact ((Below.refl _ _).alloc (Nat.le_refl _) _).alloc (by simp) _)
        have HD : Hid (Blk w5 g #[.int .u8 (kd : Int), .int .u8 (a : Int), .int .u8 (t : Int), .int .u32 (v : Int)]) := Lib.hid (by rw [hw5, hg]; exact (Blk.new _ _ _).alloc _)
        have HT0 : Hid (Blk w5 (g + 1) #[.slice none 0 0, .slice none 0 0, .int .i64 0, .int .i64 0, .int .i64 0, .slice none 0 0]) := Lib.hid (by
          have j2 := Blk.new (wr.alloc (.cells #[.int .u8 (kd : Int), .int .u8 (a : Int), .int .u8 (t : Int), .int .u32 (v : Int)] 56)) #[.slice none 0 0, .slice none 0 0, .int .i64 0, .int .i64 0, .int .i64 0, .slice none 0 0] 28
          simp only [World.size_alloc] at j2
          rw [hw5, hg]; exact j2)
        have HU5 := Lib.hid (HUB.out.below HB5.out)
        have HGB : Hid (b < g ∧ b < w5.heap.size ∧ wr.heap.size ≤ g + 1) := Lib.hid (by
          have h1 := HUB.out.var.lt
          have h2 := HB5.out.size
          rw [hg]; omega)
        have hsz1 : (wr.alloc (.cells #[.int .u8 (kd : Int), .int .u8 (a : Int), .int .u8 (t : Int), .int .u32 (v : Int)] 56)).heap.size = g + 1 := by rw [hg, World.size_alloc]
        rw [← hw5, ← hg]
        clear hw5 hd0 hd1 hd2 hd3 hkI hkI2 hsz1 hg
        obtain ⟨bt, hbt⟩ : ∃ y, y = g + 1 := ⟨_, rfl⟩
        rw [← hbt] at HT0 HGB ⊢
        have HBT : Hid (g ≠ bt ∧ b ≠ bt) := Lib.hid (by have := HGB.out.1; omega)
        clear hbt
        have hwa : IntKind.i64.wrap (a : Int) = (a : Int) := by rw [IntKind.wrap_i64]; omega
        have hwt : IntKind.i64.wrap (t : Int) = (t : Int) := by rw [IntKind.wrap_i64]; omega
        obtain ⟨r, hr⟩ : ∃ r, r = kd % 6 := ⟨_, rfl⟩
        have er : (kd : Int) % 6 = (r : Int) := by rw [hr]; exact (Int.natCast_emod kd 6).symm
        have hr6 : r < 6 := by omega
        clear hr
        have kD := HD.out.c
        have hspk := HINV.out.inv.spk
        have hfsp := HINV.out.inv.fsp
        obtain ⟨pm, nm, cm, ppm, mm, ccm, qm, km, dm, hkm, hlm⟩ := HU5.out.var.vo
        rw [HINV.out.spv, HINV.out.rv.w, HINV.out.l0] at hkm hlm
        have HKM := Lib.hid hkm
        have HLM := Lib.hid hlm
        clear hkm hlm
        obtain rfl | rfl | rfl | rfl | rfl | rfl : r = 0 ∨ r = 1 ∨ r = 2 ∨ r = 3 ∨ r = 4 ∨ r = 5 := by omega
        · as_aux_lemma =>
            obtain ⟨ia, hia⟩ : ∃ y, y = a % n := ⟨_, rfl⟩
            have hta : ((a : Int)).tmod (n : Int) = (ia : Int) := by rw [Int.tmod_eq_emod_of_nonneg (by omega), hia]; exact (Int.natCast_emod a n).symm
            have hn0 : ¬ n = 0 := by omega
            have hnI : ¬ (n : Int) = 0 := by omega
            have hian : ia < n := by rw [hia]; exact Nat.mod_lt _ (by omega)
            clear hia
            go_upto_region 25 with fail
            obtain ⟨hE, hI2⟩ := HINV.out.write (by omega) hian v
            have HW : Hid (∀ W, Below w5.heap.size w5 W → Calls Try.prog 8 #[.agg #[.slice pm nm cm, .slice ppm mm ccm, .int .i64 0, .int .i64 (n : Int), .int .i64 (sp : Int), .slice qm km dm], .int .i64 (ia : Int), .int .u32 (v : Int)] W fun e w' => OutV (fun R => R < W.heap.size) W w' e (writeV V ia v) 0) := Lib.hid (fun W hW => by
              have hq := swriteV_any (fun R => R < W.heap.size) _ V (ia : Int) v W (HLM.out.below hW) (fun R h => h) hv32
              rw [hE] at hq
              exact hq)
            obtain ⟨V2, hV2⟩ : ∃ y, y = writeV V ia v := ⟨_, rfl⟩
            rw [← hV2] at HW hI2
            have HI2 := Lib.hid hI2
            have HS0 : Hid (∀ W, Below w5.heap.size w5 W → (∀ j, W.cell? ⟨b, j, none⟩ = (#[.slice pm nm cm, .slice ppm mm ccm, .int .i64 0, .int .i64 (n : Int), .int .i64 (sp : Int), .slice qm km dm] : Array Value)[j]?) ∧ (∀ j, W.cell? ⟨g, j, none⟩ = (#[.int .u8 (kd : Int), .int .u8 (a : Int), .int .u8 (t : Int), .int .u32 (v : Int)] : Array Value)[j]?)) := Lib.hid (fun W hb => ⟨(HKM.out.below hb).c, (HD.out.below hb).c⟩)
            clear hI2 hE hV2 kD er
            refine region_plan (fun W : World => (∀ j, W.cell? ⟨b, j, none⟩ = (#[.slice pm nm cm, .slice ppm mm ccm, .int .i64 0, .int .i64 (n : Int), .int .i64 (sp : Int), .slice qm km dm] : Array Value)[j]?) ∧ (∀ j, W.cell? ⟨g, j, none⟩ = (#[.int .u8 (kd : Int), .int .u8 (a : Int), .int .u8 (t : Int), .int .u32 (v : Int)] : Array Value)[j]?)) 13 [(0, true), (1, true), (2, true), (3, true), (4, true), (5, true), (6, true), (7, true), (8, false), (9, true), (10, true), (11, true), (12, false)] (by kernel_rfl) (by kernel_rfl) (HS0.out _ (Below.refl _ _).drew) ?_
            iterate 5
              refine plan_read (v := ?_) rfl (by rfl) ?_ ?_
              rotate_left
              · intro w' hS
                try dsimp only at hS
                go_simp
                try with_reducible rfl
              try simp only [Act.put, List.setIfInBounds_toArray, List.set_cons_zero, List.set_cons_succ, List.getElem_toArray, List.getElem_cons_zero, List.getElem_cons_succ]
            refine plan_read (v := .int .i64 (ia : Int)) rfl (by rfl) (by intro w' hS; go_simp) ?_
            try simp only [Act.put, List.setIfInBounds_toArray, List.set_cons_zero, List.set_cons_succ, List.getElem_toArray, List.getElem_cons_zero, List.getElem_cons_succ]
            iterate 2
              refine plan_read (v := ?_) rfl (by rfl) ?_ ?_
              rotate_left
              · intro w' hS
                try dsimp only at hS
                go_simp
                try with_reducible rfl
              try simp only [Act.put, List.setIfInBounds_toArray, List.set_cons_zero, List.set_cons_succ, List.getElem_toArray, List.getElem_cons_zero, List.getElem_cons_succ]
            refine plan_call (F := 8) (args := ?_) rfl (by rfl) ?_ ?_
            rotate_left
            · go_simp
              rfl
            refine (HW.out w5.drew (Below.refl _ _).drew).mono ?_
            rintro e w6 ⟨vv, rfl, hlo, hb⟩
            have HB6 : Hid (Below w5.heap.size w5 w6) := Lib.hid ((Below.refl _ _).drew.trans hb)
            obtain ⟨p4, n4, c4, xs4, pp4, m4, cc4, q4, k4, d4, rfl, hcc, hoff⟩ := hlo
            have HL6 : Hid (Vo (fun R => R < w5.heap.size) w6 (.agg #[.slice p4 n4 c4, .slice pp4 m4 cc4, .int .i64 V2.B.lost, .int .i64 V2.words, .int .i64 V2.span, .slice q4 k4 d4]) V2) := Lib.hid ⟨p4, n4, c4, xs4, pp4, m4, cc4, q4, k4, d4, rfl, hcc, hoff⟩
            clear hcc hoff hb
            refine ⟨_, rfl, HS0.out _ HB6.out, ?_⟩
            try simp only [Act.put, List.setIfInBounds_toArray, List.set_cons_zero, List.set_cons_succ, List.getElem_toArray, List.getElem_cons_zero, List.getElem_cons_succ]
            iterate 3
              refine plan_read (v := ?_) rfl (by rfl) ?_ ?_
              rotate_left
              · intro w' hS
                try dsimp only at hS
                go_simp
                try with_reducible rfl
              try simp only [Act.put, List.setIfInBounds_toArray, List.set_cons_zero, List.set_cons_succ, List.getElem_toArray, List.getElem_cons_zero, List.getElem_cons_succ]
            have HZ6 := Lib.hid (HT0.out.below HB6.out)
            have HKB6 := Lib.hid (HKM.out.below HB6.out)
            have HKD6 := Lib.hid (HD.out.below HB6.out)
            have cZ := HZ6.out.c
            have fZ := HZ6.out.f
            have lZ := HZ6.out.lt
            have HT : Hid (TV b wr (set6 w6 bt (.slice p4 n4 c4) (.slice pp4 m4 cc4) (.int .i64 V2.B.lost) (.int .i64 V2.words) (.int .i64 V2.span) (.slice q4 k4 d4)) bt V2) := Lib.hid (TV.put HT0.out HB5.out HGB.out.2.2 HB6.out HL6.out HGB.out.2.1)
            show wpOp _ _ _ 12 _ _ _
            refine Ud.op_store (w1 := (((((w6.setCell ⟨bt, 0, none⟩ (.slice p4 n4 c4)).setCell ⟨bt, 1, none⟩ (.slice pp4 m4 cc4)).setCell ⟨bt, 2, none⟩ (.int .i64 V2.B.lost)).setCell ⟨bt, 3, none⟩ (.int .i64 V2.words)).setCell ⟨bt, 4, none⟩ (.int .i64 V2.span)).setCell ⟨bt, 5, none⟩ (.slice q4 k4 d4)) rfl (by rfl) (by go_simp) ⟨⟨(set6_other HKB6.out (fun e => HBT.out.2 e.symm) _ _ _ _ _ _).c, (set6_other HKD6.out (fun e => HBT.out.1 e.symm) _ _ _ _ _ _).c⟩, ?_⟩
            try simp only [Act.put, List.setIfInBounds_toArray, List.set_cons_zero, List.set_cons_succ, List.getElem_toArray, List.getElem_cons_zero, List.getElem_cons_succ]
            refine plan_nil ?_
            simp only [List.drop_succ_cons, List.drop_zero]
            rw [set6_eq]
            have HUF := Lib.hid (HUB.out.below HT.out.2.2)
            obtain ⟨w7, hw7⟩ : ∃ y, y = set6 w6 bt (.slice p4 n4 c4) (.slice pp4 m4 cc4) (.int .i64 V2.B.lost) (.int .i64 V2.words) (.int .i64 V2.span) (.slice q4 k4 d4) := ⟨_, rfl⟩
            rw [← hw7] at HT HUF ⊢
            clear hw7 cZ fZ lZ HZ6 HKB6 HKD6 HS0 HW HL6 HB6 HU5 HKM HLM HD HT0 hta hn0 hnI HINV
            obtain ⟨p6, n6, c6, pp6, m6, cc6, q6, k6, d6, hkt, hlt⟩ := HT.out.1.vo
            have hq := sright_any _ _ V2 _ hlt
            rw [HI2.out.rv.ok] at hq
            have HQR := Lib.hid hq
            have HKT := Lib.hid hkt
            have HLT := Lib.hid hlt
            have kT := hkt.c
            clear hkt hlt hq HT
            go_wp2_with fail
            refine HQR.out.mono ?_
            clear HQR kT
            rintro e wt ⟨rfl, hb⟩
            have HUT := Lib.hid (HUF.out.below hb)
            have HKT2 := Lib.hid (HKT.out.below hb)
            have HLT2 := Lib.hid (HLT.out.below hb)
            clear hb HKT HLT HUF
            obtain ⟨p7, n7, c7, pp7, m7, cc7, q7, k7, d7, hkb, -⟩ := HUT.out.var.vo
            have kB := hkb.c
            have fB := hkb.f
            have lB := hkb.lt
            have kT := HKT2.out.c
            clear hkb
            go_upto_region 11 with fail
            rw [set6_eq]
            have HU9 := Lib.hid (HUT.out.put HLT2.out)
            obtain ⟨w9, hw9⟩ : ∃ y, y = set6 wt b (.slice p6 n6 c6) (.slice pp6 m6 cc6) (.int .i64 V2.B.lost) (.int .i64 V2.words) (.int .i64 V2.span) (.slice q6 k6 d6) := ⟨_, rfl⟩
            rw [← hw9] at HU9 ⊢
            clear hw9 kB fB lB kT HUT HKT2 HLT2
            go_wp2_with fail
            go_roundw
            case rel => exact ⟨k + 1, f, sp, V2, _, _, _, _, _, by omega, by omega, by go_num, rfl, rfl, HI2.out, HU9.out⟩
            case measure => simp [intOf]; omega
  
        · as_aux_lemma =>
            obtain ⟨ia, hia⟩ : ∃ y, y = a % n := ⟨_, rfl⟩
            have hta : ((a : Int)).tmod (n : Int) = (ia : Int) := by rw [Int.tmod_eq_emod_of_nonneg (by omega), hia]; exact (Int.natCast_emod a n).symm
            have hn0 : ¬ n = 0 := by omega
            have hnI : ¬ (n : Int) = 0 := by omega
            have hian : ia < n := by rw [hia]; exact Nat.mod_lt _ (by omega)
            clear hia
            go_upto_region 25 with fail
            obtain ⟨hE, hI2⟩ := HINV.out.write (by omega) hian v
            have HW : Hid (∀ W, Below w5.heap.size w5 W → Calls Try.prog 8 #[.agg #[.slice pm nm cm, .slice ppm mm ccm, .int .i64 0, .int .i64 (n : Int), .int .i64 (sp : Int), .slice qm km dm], .int .i64 (ia : Int), .int .u32 (v : Int)] W fun e w' => OutV (fun R => R < W.heap.size) W w' e (writeV V ia v) 0) := Lib.hid (fun W hW => by
              have hq := swriteV_any (fun R => R < W.heap.size) _ V (ia : Int) v W (HLM.out.below hW) (fun R h => h) hv32
              rw [hE] at hq
              exact hq)
            obtain ⟨V2, hV2⟩ : ∃ y, y = writeV V ia v := ⟨_, rfl⟩
            rw [← hV2] at HW hI2
            have HI2 := Lib.hid hI2
            have HS0 : Hid (∀ W, Below w5.heap.size w5 W → (∀ j, W.cell? ⟨b, j, none⟩ = (#[.slice pm nm cm, .slice ppm mm ccm, .int .i64 0, .int .i64 (n : Int), .int .i64 (sp : Int), .slice qm km dm] : Array Value)[j]?) ∧ (∀ j, W.cell? ⟨g, j, none⟩ = (#[.int .u8 (kd : Int), .int .u8 (a : Int), .int .u8 (t : Int), .int .u32 (v : Int)] : Array Value)[j]?)) := Lib.hid (fun W hb => ⟨(HKM.out.below hb).c, (HD.out.below hb).c⟩)
            clear hI2 hE hV2 kD er
            refine region_plan (fun W : World => (∀ j, W.cell? ⟨b, j, none⟩ = (#[.slice pm nm cm, .slice ppm mm ccm, .int .i64 0, .int .i64 (n : Int), .int .i64 (sp : Int), .slice qm km dm] : Array Value)[j]?) ∧ (∀ j, W.cell? ⟨g, j, none⟩ = (#[.int .u8 (kd : Int), .int .u8 (a : Int), .int .u8 (t : Int), .int .u32 (v : Int)] : Array Value)[j]?)) 13 [(0, true), (1, true), (2, true), (3, true), (4, true), (5, true), (6, true), (7, true), (8, false), (9, true), (10, true), (11, true), (12, false)] (by kernel_rfl) (by kernel_rfl) (HS0.out _ (Below.refl _ _).drew) ?_
            iterate 5
              refine plan_read (v := ?_) rfl (by rfl) ?_ ?_
              rotate_left
              · intro w' hS
                try dsimp only at hS
                go_simp
                try with_reducible rfl
              try simp only [Act.put, List.setIfInBounds_toArray, List.set_cons_zero, List.set_cons_succ, List.getElem_toArray, List.getElem_cons_zero, List.getElem_cons_succ]
            refine plan_read (v := .int .i64 (ia : Int)) rfl (by rfl) (by intro w' hS; go_simp) ?_
            try simp only [Act.put, List.setIfInBounds_toArray, List.set_cons_zero, List.set_cons_succ, List.getElem_toArray, List.getElem_cons_zero, List.getElem_cons_succ]
            iterate 2
              refine plan_read (v := ?_) rfl (by rfl) ?_ ?_
              rotate_left
              · intro w' hS
                try dsimp only at hS
                go_simp
                try with_reducible rfl
              try simp only [Act.put, List.setIfInBounds_toArray, List.set_cons_zero, List.set_cons_succ, List.getElem_toArray, List.getElem_cons_zero, List.getElem_cons_succ]
            refine plan_call (F := 8) (args := ?_) rfl (by rfl) ?_ ?_
            rotate_left
            · go_simp
              rfl
            refine (HW.out w5.drew (Below.refl _ _).drew).mono ?_
            rintro e w6 ⟨vv, rfl, hlo, hb⟩
            have HB6 : Hid (Below w5.heap.size w5 w6) := Lib.hid ((Below.refl _ _).drew.trans hb)
            obtain ⟨p4, n4, c4, xs4, pp4, m4, cc4, q4, k4, d4, rfl, hcc, hoff⟩ := hlo
            have HL6 : Hid (Vo (fun R => R < w5.heap.size) w6 (.agg #[.slice p4 n4 c4, .slice pp4 m4 cc4, .int .i64 V2.B.lost, .int .i64 V2.words, .int .i64 V2.span, .slice q4 k4 d4]) V2) := Lib.hid ⟨p4, n4, c4, xs4, pp4, m4, cc4, q4, k4, d4, rfl, hcc, hoff⟩
            clear hcc hoff hb
            refine ⟨_, rfl, HS0.out _ HB6.out, ?_⟩
            try simp only [Act.put, List.setIfInBounds_toArray, List.set_cons_zero, List.set_cons_succ, List.getElem_toArray, List.getElem_cons_zero, List.getElem_cons_succ]
            iterate 3
              refine plan_read (v := ?_) rfl (by rfl) ?_ ?_
              rotate_left
              · intro w' hS
                try dsimp only at hS
                go_simp
                try with_reducible rfl
              try simp only [Act.put, List.setIfInBounds_toArray, List.set_cons_zero, List.set_cons_succ, List.getElem_toArray, List.getElem_cons_zero, List.getElem_cons_succ]
            have HZ6 := Lib.hid (HT0.out.below HB6.out)
            have HKB6 := Lib.hid (HKM.out.below HB6.out)
            have HKD6 := Lib.hid (HD.out.below HB6.out)
            have cZ := HZ6.out.c
            have fZ := HZ6.out.f
            have lZ := HZ6.out.lt
            have HT : Hid (TV b wr (set6 w6 bt (.slice p4 n4 c4) (.slice pp4 m4 cc4) (.int .i64 V2.B.lost) (.int .i64 V2.words) (.int .i64 V2.span) (.slice q4 k4 d4)) bt V2) := Lib.hid (TV.put HT0.out HB5.out HGB.out.2.2 HB6.out HL6.out HGB.out.2.1)
            show wpOp _ _ _ 12 _ _ _
            refine Ud.op_store (w1 := (((((w6.setCell ⟨bt, 0, none⟩ (.slice p4 n4 c4)).setCell ⟨bt, 1, none⟩ (.slice pp4 m4 cc4)).setCell ⟨bt, 2, none⟩ (.int .i64 V2.B.lost)).setCell ⟨bt, 3, none⟩ (.int .i64 V2.words)).setCell ⟨bt, 4, none⟩ (.int .i64 V2.span)).setCell ⟨bt, 5, none⟩ (.slice q4 k4 d4)) rfl (by rfl) (by go_simp) ⟨⟨(set6_other HKB6.out (fun e => HBT.out.2 e.symm) _ _ _ _ _ _).c, (set6_other HKD6.out (fun e => HBT.out.1 e.symm) _ _ _ _ _ _).c⟩, ?_⟩
            try simp only [Act.put, List.setIfInBounds_toArray, List.set_cons_zero, List.set_cons_succ, List.getElem_toArray, List.getElem_cons_zero, List.getElem_cons_succ]
            refine plan_nil ?_
            simp only [List.drop_succ_cons, List.drop_zero]
            rw [set6_eq]
            have HUF := Lib.hid (HUB.out.below HT.out.2.2)
            obtain ⟨w7, hw7⟩ : ∃ y, y = set6 w6 bt (.slice p4 n4 c4) (.slice pp4 m4 cc4) (.int .i64 V2.B.lost) (.int .i64 V2.words) (.int .i64 V2.span) (.slice q4 k4 d4) := ⟨_, rfl⟩
            rw [← hw7] at HT HUF ⊢
            clear hw7 cZ fZ lZ HZ6 HKB6 HKD6 HS0 HW HL6 HB6 HU5 HKM HLM HD HT0 hta hn0 hnI HINV
            obtain ⟨p6, n6, c6, pp6, m6, cc6, q6, k6, d6, hkt, hlt⟩ := HT.out.1.vo
            have hq := sright_any _ _ V2 _ hlt
            rw [HI2.out.rv.ok] at hq
            have HQR := Lib.hid hq
            have HKT := Lib.hid hkt
            have HLT := Lib.hid hlt
            have kT := hkt.c
            clear hkt hlt hq HT
            go_wp2_with fail
            refine HQR.out.mono ?_
            clear HQR kT
            rintro e wt ⟨rfl, hb⟩
            have HUT := Lib.hid (HUF.out.below hb)
            have HKT2 := Lib.hid (HKT.out.below hb)
            have HLT2 := Lib.hid (HLT.out.below hb)
            clear hb HKT HLT HUF
            obtain ⟨p7, n7, c7, pp7, m7, cc7, q7, k7, d7, hkb, -⟩ := HUT.out.var.vo
            have kB := hkb.c
            have fB := hkb.f
            have lB := hkb.lt
            have kT := HKT2.out.c
            clear hkb
            go_upto_region 11 with fail
            rw [set6_eq]
            have HU9 := Lib.hid (HUT.out.put HLT2.out)
            obtain ⟨w9, hw9⟩ : ∃ y, y = set6 wt b (.slice p6 n6 c6) (.slice pp6 m6 cc6) (.int .i64 V2.B.lost) (.int .i64 V2.words) (.int .i64 V2.span) (.slice q6 k6 d6) := ⟨_, rfl⟩
            rw [← hw9] at HU9 ⊢
            clear hw9 kB fB lB kT HUT HKT2 HLT2
            go_wp2_with fail
            go_roundw
            case rel => exact ⟨k + 1, f, sp, V2, _, _, _, _, _, by omega, by omega, by go_num, rfl, rfl, HI2.out, HU9.out⟩
            case measure => simp [intOf]; omega
  
        · as_aux_lemma =>
            obtain ⟨hE, hWW, hI2⟩ := HINV.out.next (by omega)
            have hq := snext_any (fun R => R < w5.heap.size) _ V w5 HLM.out (fun R h => h)
            rw [hE] at hq
            obtain ⟨V2, hV2⟩ : ∃ y, y = nextV V := ⟨_, rfl⟩
            rw [← hV2] at hq hI2 hWW
            have HI2 := Lib.hid hI2
            have HQC := Lib.hid hq
            have HWW := Lib.hid hWW
            clear hI2 hE hV2 hq hWW
            have kB := HKM.out.c
            go_wp2_with fail
            refine HQC.out.mono ?_
            clear HQC kB
            rintro e w6 ⟨vv, rfl, hlo, hb⟩
            have HB6 : Hid (Below w5.heap.size w5 w6) := Lib.hid hb
            obtain ⟨p4, n4, c4, xs4, pp4, m4, cc4, q4, k4, d4, rfl, hcc, hoff⟩ := hlo
            have HL6 : Hid (Vo (fun R => R < w5.heap.size) w6 (.agg #[.slice p4 n4 c4, .slice pp4 m4 cc4, .int .i64 V2.B.lost, .int .i64 V2.words, .int .i64 V2.span, .slice q4 k4 d4]) V2) := Lib.hid ⟨p4, n4, c4, xs4, pp4, m4, cc4, q4, k4, d4, rfl, hcc, hoff⟩
            clear hcc hoff hb
            have HZ6 := Lib.hid (HT0.out.below HB6.out)
            have HKB6 := Lib.hid (HKM.out.below HB6.out)
            have cZ := HZ6.out.c
            have fZ := HZ6.out.f
            have lZ := HZ6.out.lt
            have HT : Hid (TV b wr (set6 w6 bt (.slice p4 n4 c4) (.slice pp4 m4 cc4) (.int .i64 V2.B.lost) (.int .i64 V2.words) (.int .i64 V2.span) (.slice q4 k4 d4)) bt V2) := Lib.hid (TV.put HT0.out HB5.out HGB.out.2.2 HB6.out HL6.out HGB.out.2.1)
            have HKT7 : Hid (Blk (set6 w6 bt (.slice p4 n4 c4) (.slice pp4 m4 cc4) (.int .i64 V2.B.lost) (.int .i64 V2.words) (.int .i64 V2.span) (.slice q4 k4 d4)) bt #[.slice p4 n4 c4, .slice pp4 m4 cc4, .int .i64 V2.B.lost, .int .i64 V2.words, .int .i64 V2.span, .slice q4 k4 d4]) := Lib.hid (set6_same HZ6.out _ _ _ _ _ _)
            have HKB7 : Hid (Blk (set6 w6 bt (.slice p4 n4 c4) (.slice pp4 m4 cc4) (.int .i64 V2.B.lost) (.int .i64 V2.words) (.int .i64 V2.span) (.slice q4 k4 d4)) b #[.slice pm nm cm, .slice ppm mm ccm, .int .i64 0, .int .i64 (n : Int), .int .i64 (sp : Int), .slice qm km dm]) := Lib.hid (set6_other HKB6.out (fun e => HBT.out.2 e.symm) _ _ _ _ _ _)
            have HLT7 : Hid (Vo (fun R => R < w5.heap.size) (set6 w6 bt (.slice p4 n4 c4) (.slice pp4 m4 cc4) (.int .i64 V2.B.lost) (.int .i64 V2.words) (.int .i64 V2.span) (.slice q4 k4 d4)) (.agg #[.slice p4 n4 c4, .slice pp4 m4 cc4, .int .i64 V2.B.lost, .int .i64 V2.words, .int .i64 V2.span, .slice q4 k4 d4]) V2) := Lib.hid (HL6.out.set6 HT0.out.lt _ _ _ _ _ _)
            go_upto_region 28 with fail
            rw [set6_eq]
            have HUF := Lib.hid (HUB.out.below HT.out.2.2)
            obtain ⟨w7, hw7⟩ : ∃ y, y = set6 w6 bt (.slice p4 n4 c4) (.slice pp4 m4 cc4) (.int .i64 V2.B.lost) (.int .i64 V2.words) (.int .i64 V2.span) (.slice q4 k4 d4) := ⟨_, rfl⟩
            rw [← hw7] at HT HUF HKT7 HKB7 HLT7 ⊢
            clear hw7 cZ fZ lZ HZ6 HKB6 HL6 HB6
            clear er kD HT0 HKM HLM HD HU5
            obtain ⟨f1, f2⟩ := wrap_succ sp (Nat.le_trans hspk (Nat.le_trans hk100 (by decide)))
            have HWL := Lib.hid HINV.out.inv.wl
            have HWN := Lib.hid HUF.out.was.wl
            have HKNN0 := kn_le HWL.out HWN.out
            obtain ⟨kN, hkN⟩ : ∃ y, y = sp + 1 := ⟨_, rfl⟩
            rw [← hkN] at f1 f2 HKNN0
            have HKN1 : Hid (kN = sp + 1) := Lib.hid hkN
            have HKNN : Hid (kN ≤ N) := Lib.hid HKNN0
            clear HKNN0
            obtain ⟨hsl, hq2⟩ := Ud.cut_hh q N c kN HKNN.out HUF.out.was.cap
            have HSX : Hid (Sl w7 q kN (xs.take kN)) := Lib.hid (fun h0 => by
              obtain ⟨bb, oo, h1, h2, h3⟩ := HUF.out.was.sl (by have := HKNN.out; omega)
              refine ⟨bb, oo, h1, h2, fun j hj => ?_⟩
              rw [List.length_take] at hj
              rw [h3 j (by omega), List.getElem?_take_of_lt (by omega)])
            have HXL : Hid ((xs.take kN).length = kN) := Lib.hid (by rw [List.length_take, HUF.out.was.len]; have := HKNN.out; omega)
            have HX1 : Hid (∀ u ∈ xs.take kN, u.oneCell' = true) := Lib.hid (fun u hu => HUF.out.was.one u (List.mem_of_mem_take hu))
            obtain ⟨i1, hi1, hy0, hy1, hy2⟩ := info_parts Ud.info22
            have HI22 := Lib.hid (And.intro hi1 (And.intro hy0 (And.intro hy1 hy2)))
            have HBL7 : Hid (b < w7.heap.size) := Lib.hid HUF.out.var.lt
            have HWO : Hid (Calls Try.prog 22 #[.agg #[.slice p4 n4 c4, .slice pp4 m4 cc4, .int .i64 V2.B.lost, .int .i64 V2.words, .int .i64 V2.span, .slice q4 k4 d4]] w7.drew fun e w' => ∃ r, e = .returned r ∧ w'.ownsRow w7.heap.size 29 1 r n (Ud.wdC (wordsV V)) ∧ Below w7.heap.size w7 w') := Lib.hid ((swords_any _ _ V2 w7.drew (HLT7.out.below (Below.refl _ _).drew)).mono (by
              rintro e w' ⟨r, h1, h2, h3⟩
              rw [HWW.out, HINV.out.wl] at h2
              exact ⟨r, h1, h2, (Below.refl _ _).drew.trans h3⟩))
            have HS0 : Hid (∀ W, Below w7.heap.size w7 W → (∀ j, W.cell? ⟨b, j, none⟩ = (#[.slice pm nm cm, .slice ppm mm ccm, .int .i64 0, .int .i64 (n : Int), .int .i64 (sp : Int), .slice qm km dm] : Array Value)[j]?) ∧ (∀ j, W.cell? ⟨bt, j, none⟩ = (#[.slice p4 n4 c4, .slice pp4 m4 cc4, .int .i64 V2.B.lost, .int .i64 V2.words, .int .i64 V2.span, .slice q4 k4 d4] : Array Value)[j]?)) := Lib.hid (fun W hb => ⟨(HKB7.out.below hb).c, (HKT7.out.below hb).c⟩)
            clear hi1 hy0 hy1 hy2 hq2 hkN
            refine region_plan (fun W : World => (∀ j, W.cell? ⟨b, j, none⟩ = (#[.slice pm nm cm, .slice ppm mm ccm, .int .i64 0, .int .i64 (n : Int), .int .i64 (sp : Int), .slice qm km dm] : Array Value)[j]?) ∧ (∀ j, W.cell? ⟨bt, j, none⟩ = (#[.slice p4 n4 c4, .slice pp4 m4 cc4, .int .i64 V2.B.lost, .int .i64 V2.words, .int .i64 V2.span, .slice q4 k4 d4] : Array Value)[j]?)) 11 [(0, true), (1, true), (2, true), (3, true), (4, true), (5, true), (6, true), (7, true), (8, true), (9, false), (10, false)] (by kernel_rfl) (by kernel_rfl) (HS0.out _ (Below.refl _ _).drew) ?_
            iterate 7
              refine plan_read (v := ?_) rfl (by rfl) ?_ ?_
              rotate_left
              · intro w' hS
                try dsimp only at hS
                go_simp
                try with_reducible rfl
              try simp only [Act.put, List.setIfInBounds_toArray, List.set_cons_zero, List.set_cons_succ, List.getElem_toArray, List.getElem_cons_zero, List.getElem_cons_succ]
            refine plan_read (v := .slice q kN kN) rfl (by rfl) (by intro w' hS; go_simp) ?_
            try simp only [Act.put, List.setIfInBounds_toArray, List.set_cons_zero, List.set_cons_succ, List.getElem_toArray, List.getElem_cons_zero, List.getElem_cons_succ]
            iterate 1
              refine plan_read (v := ?_) rfl (by rfl) ?_ ?_
              rotate_left
              · intro w' hS
                try dsimp only at hS
                go_simp
                try with_reducible rfl
              try simp only [Act.put, List.setIfInBounds_toArray, List.set_cons_zero, List.set_cons_succ, List.getElem_toArray, List.getElem_cons_zero, List.getElem_cons_succ]
            refine plan_call (F := 22) (args := ?_) rfl (by rfl) ?_ ?_
            rotate_left
            · go_simp
              rfl
            refine (HWO.out).mono ?_
            rintro e wb ⟨r, rfl, hrr, hb⟩
            obtain ⟨p5, c5, rfl, _⟩ := own_cap hrr
            have HRR := Lib.hid hrr
            have HBb := Lib.hid hb
            clear hrr hb
            refine ⟨_, rfl, HS0.out _ HBb.out, ?_⟩
            try simp only [Act.put, List.setIfInBounds_toArray, List.set_cons_zero, List.set_cons_succ, List.getElem_toArray, List.getElem_cons_zero, List.getElem_cons_succ]
            obtain ⟨wc, hwc⟩ : ∃ y, y = wb.alloc (.cells #[.slice p5 n c5] 23) := ⟨_, rfl⟩
            have HB7 : Hid (Below w7.heap.size w7 wc) := Lib.hid (by rw [hwc]; exact HBb.out.alloc HBb.out.size _)
            have HNW : Hid (Blk wc wb.heap.size [Value.slice p5 n c5].toArray) := Lib.hid (by rw [hwc]; exact Blk.new _ _ _)
            have HRR7 : Hid (wc.ownsRow w7.heap.size 29 1 (.slice p5 n c5) n (Ud.wdC (wordsV V))) := Lib.hid (by rw [hwc]; exact own_below HRR.out ((Below.refl wb.heap.size wb).alloc (Nat.le_refl _) _))
            refine plan_make (v := .slice (some ⟨wb.heap.size, 0, none⟩) 1 1) (w1 := wc) rfl (by rfl) (by rw [hwc]; go_simp) (HS0.out _ HB7.out) ?_
            try simp only [Act.put, List.setIfInBounds_toArray, List.set_cons_zero, List.set_cons_succ, List.getElem_toArray, List.getElem_cons_zero, List.getElem_cons_succ]
            refine plan_nil ?_
            simp only [List.drop_succ_cons, List.drop_zero]
            have hb7 : b < wc.heap.size := Nat.lt_of_lt_of_le HBL7.out HB7.out.size
            have hkb : kN ≤ 101 := by have := HKN1.out; omega
            have HXX := Lib.hid (HSX.out.below HB7.out)
            have HOLD : Hid (∀ g, q = some g → ∀ j u, (xs.take kN)[j]? = some u → wc.cell? (g.add j) = some u) := Lib.hid (fun g e j u hj => sl_holdsV HXX.out (by have := HKN1.out; omega) g e j u hj)
            have HNN : Hid (q = none → kN = 0 ∧ kN = 0) := Lib.hid (fun e => by
              obtain ⟨bb, oo, _, h2, _⟩ := HXX.out (by have := HKN1.out; omega)
              rw [h2] at e; cases e)
            have HNEW : Hid (∀ j u, [Value.slice p5 n c5][j]? = some u → wc.cell? ((⟨wb.heap.size, 0, none⟩ : Addr).add j) = some u) := Lib.hid (fun j u hj => by
              have := HNW.out.c j
              rw [show (⟨wb.heap.size, 0, none⟩ : Addr).add j = ⟨wb.heap.size, j, none⟩ by (simp [Addr.add]; omega), this, List.getElem?_toArray]
              exact hj)
            clear hwc HXX HSX HBb HRR HS0 HKB7 HKT7 HLT7
            go_wp2_with (first | (at_builtin; refine wpList_append_grows _ rfl _ _ 22 rfl 23 i1 (.slice none 0 0) 1 24 Try.underlying22 HI22.out.1 HI22.out.2.1 HI22.out.2.2.1 HI22.out.2.2.2 rfl (by decide) q kN kN (xs.take kN) rfl HNN.out (by rw [HXL.out, Nat.mul_one]) HOLD.out ⟨wb.heap.size, 0, none⟩ 1 1 [.slice p5 n c5] rfl rfl HNEW.out (by intro u hu; rw [List.mem_singleton.1 hu]; rfl) (by omega) (by unfold maxLen; omega) (by omega) ?_))
            intro v8 w8 g1 g2
            obtain ⟨p8, c8, rfl, _⟩ := own_cap g1
            have hb8 : Below wc.heap.size wc w8 := (Below.refl _ _).grown g2 (Nat.le_refl _) (fun g hg => by cases hg)
            have HB8' : Below w7.heap.size w7 w8 := HB7.out.trans (hb8.mono HB7.out.size)
            have HT9 := Lib.hid (HT.out.below HB8')
            have HUX : Hid (UBV w w8 b V p8 n (kN + 1) c8 (xs.take kN ++ [.slice p5 n c5]) (Ws.take kN ++ [wordsV V])) := Lib.hid ⟨HUF.out.var.below HB8', Ud.Was.more (w := w7) (base := w7.heap.size) (base2 := wc.heap.size) (k := kN) (HUF.out.was.below HB8') HKNN.out HBL7.out hb7 (own_below HRR7.out hb8) g1, HUF.out.hb.trans (HB8'.mono HUF.out.hb.size), HUF.out.ge⟩
            have HI3 : Hid (InvS n bn mq V2 f kN (Ws.take kN ++ [wordsV V]) (k + 1)) := Lib.hid (by have h := HI2.out; rw [← HKN1.out] at h; exact h)
            clear g1 g2 hb8 HB8' hb7 HI2 HOLD HNN HNEW HNW HRR7 HUF HB7 HXL HX1 HI22 HBL7 HWL HWN hsl HT HINV HWW HWO
            have HT := HT9
            have HI2 := HI3
            clear HT9 HI3
            obtain ⟨p6, n6, c6, pp6, m6, cc6, q6, k6, d6, hkt, hlt⟩ := HT.out.1.vo
            have hq := sright_any _ _ V2 _ hlt
            rw [HI2.out.rv.ok] at hq
            have HQR := Lib.hid hq
            have HKT := Lib.hid hkt
            have HLT := Lib.hid hlt
            have kT := hkt.c
            clear hkt hlt hq HT
            go_wp2_with fail
            refine HQR.out.mono ?_
            clear HQR kT
            rintro e wt ⟨rfl, hb⟩
            have HUT := Lib.hid (HUX.out.below hb)
            have HKT2 := Lib.hid (HKT.out.below hb)
            have HLT2 := Lib.hid (HLT.out.below hb)
            clear hb HKT HLT HUX
            obtain ⟨p7, n7, c7, pp7, m7, cc7, q7, k7, d7, hkb, -⟩ := HUT.out.var.vo
            have kB := hkb.c
            have fB := hkb.f
            have lB := hkb.lt
            have kT := HKT2.out.c
            clear hkb
            go_upto_region 11 with fail
            rw [set6_eq]
            have HU9 := Lib.hid (HUT.out.put HLT2.out)
            obtain ⟨w9, hw9⟩ : ∃ y, y = set6 wt b (.slice p6 n6 c6) (.slice pp6 m6 cc6) (.int .i64 V2.B.lost) (.int .i64 V2.words) (.int .i64 V2.span) (.slice q6 k6 d6) := ⟨_, rfl⟩
            rw [← hw9] at HU9 ⊢
            clear hw9 kB fB lB kT HUT HKT2 HLT2
            go_wp2_with fail
            go_roundw
            case rel => exact ⟨k + 1, f, kN, V2, _, _, _, _, _, by omega, by omega, by go_num, rfl, rfl, HI2.out, HU9.out⟩
            case measure => simp [intOf]; omega
  
        · as_aux_lemma =>
            obtain ⟨y, hy⟩ : ∃ y, y = sp - f := ⟨_, rfl⟩
            obtain ⟨z, hz⟩ : ∃ z, z = y + 1 := ⟨_, rfl⟩
            obtain ⟨x, hx⟩ : ∃ x, x = t % z := ⟨_, rfl⟩
            obtain ⟨u, hu⟩ : ∃ u, u = f + x := ⟨_, rfl⟩
            have hxz : x < z := by rw [hx]; exact Nat.mod_lt _ (by omega)
            have hfu : f ≤ u := by omega
            have hus : u ≤ sp := by omega
            have hx5 : ((t : Int)).tmod (z : Int) = (x : Int) := by rw [Int.tmod_eq_emod_of_nonneg (by omega), hx]; exact (Int.natCast_emod t z).symm
            have hz0 : ¬ z = 0 := by omega
            have f1 : IntKind.i64.wrap ((sp : Int) - (f : Int)) = (y : Int) := by rw [IntKind.wrap_i64]; omega
            have f2 : wrap64 ((sp : Int) - (f : Int)) = (y : Int) := by unfold wrap64; omega
            have f3 : IntKind.i64.wrap ((y : Int) + 1) = (z : Int) := by rw [IntKind.wrap_i64]; omega
            have f4 : wrap64 ((y : Int) + 1) = (z : Int) := by unfold wrap64; omega
            have f5 : IntKind.i64.wrap ((f : Int) + (x : Int)) = (u : Int) := by rw [IntKind.wrap_i64]; omega
            have f6 : wrap64 ((f : Int) + (x : Int)) = (u : Int) := by unfold wrap64; omega
            clear hx hu hy hz hxz
            have kM := HKM.out.c
            go_upto_region 31 with fail
            clear f1 f2 f3 f4 f5 f6 hx5 hz0 kD kM er
            obtain ⟨hE, hSP, hWW, hI2⟩ := HINV.out.back HU5.out.u32 hfu hus
            have hq := sback_any (fun R => R < w5.heap.size) _ V (u : Int) w5 HLM.out (fun R h => h)
            rw [hE] at hq
            obtain ⟨V2, hV2⟩ : ∃ y, y = backV V (u : Int) := ⟨_, rfl⟩
            rw [← hV2] at hq hI2 hWW hSP
            have HI2 := Lib.hid hI2
            have HQC := Lib.hid hq
            have HWW := Lib.hid hWW
            have HSP := Lib.hid hSP
            clear hI2 hE hV2 hq hWW hSP
            have kB := HKM.out.c
            go_wp2_with fail
            refine HQC.out.mono ?_
            clear HQC kB
            rintro e w6 ⟨vv, rfl, hlo, hb⟩
            have HB6 : Hid (Below w5.heap.size w5 w6) := Lib.hid hb
            obtain ⟨p4, n4, c4, xs4, pp4, m4, cc4, q4, k4, d4, rfl, hcc, hoff⟩ := hlo
            have HL6 : Hid (Vo (fun R => R < w5.heap.size) w6 (.agg #[.slice p4 n4 c4, .slice pp4 m4 cc4, .int .i64 V2.B.lost, .int .i64 V2.words, .int .i64 V2.span, .slice q4 k4 d4]) V2) := Lib.hid ⟨p4, n4, c4, xs4, pp4, m4, cc4, q4, k4, d4, rfl, hcc, hoff⟩
            clear hcc hoff hb
            have HZ6 := Lib.hid (HT0.out.below HB6.out)
            have HKB6 := Lib.hid (HKM.out.below HB6.out)
            have cZ := HZ6.out.c
            have fZ := HZ6.out.f
            have lZ := HZ6.out.lt
            have HT : Hid (TV b wr (set6 w6 bt (.slice p4 n4 c4) (.slice pp4 m4 cc4) (.int .i64 V2.B.lost) (.int .i64 V2.words) (.int .i64 V2.span) (.slice q4 k4 d4)) bt V2) := Lib.hid (TV.put HT0.out HB5.out HGB.out.2.2 HB6.out HL6.out HGB.out.2.1)
            have HKT7 : Hid (Blk (set6 w6 bt (.slice p4 n4 c4) (.slice pp4 m4 cc4) (.int .i64 V2.B.lost) (.int .i64 V2.words) (.int .i64 V2.span) (.slice q4 k4 d4)) bt #[.slice p4 n4 c4, .slice pp4 m4 cc4, .int .i64 V2.B.lost, .int .i64 V2.words, .int .i64 V2.span, .slice q4 k4 d4]) := Lib.hid (set6_same HZ6.out _ _ _ _ _ _)
            have HKB7 : Hid (Blk (set6 w6 bt (.slice p4 n4 c4) (.slice pp4 m4 cc4) (.int .i64 V2.B.lost) (.int .i64 V2.words) (.int .i64 V2.span) (.slice q4 k4 d4)) b #[.slice pm nm cm, .slice ppm mm ccm, .int .i64 0, .int .i64 (n : Int), .int .i64 (sp : Int), .slice qm km dm]) := Lib.hid (set6_other HKB6.out (fun e => HBT.out.2 e.symm) _ _ _ _ _ _)
            have HLT7 : Hid (Vo (fun R => R < w5.heap.size) (set6 w6 bt (.slice p4 n4 c4) (.slice pp4 m4 cc4) (.int .i64 V2.B.lost) (.int .i64 V2.words) (.int .i64 V2.span) (.slice q4 k4 d4)) (.agg #[.slice p4 n4 c4, .slice pp4 m4 cc4, .int .i64 V2.B.lost, .int .i64 V2.words, .int .i64 V2.span, .slice q4 k4 d4]) V2) := Lib.hid (HL6.out.set6 HT0.out.lt _ _ _ _ _ _)
            go_upto_region 32 with fail
            rw [set6_eq]
            have HUF := Lib.hid (HUB.out.below HT.out.2.2)
            obtain ⟨w7, hw7⟩ : ∃ y, y = set6 w6 bt (.slice p4 n4 c4) (.slice pp4 m4 cc4) (.int .i64 V2.B.lost) (.int .i64 V2.words) (.int .i64 V2.span) (.slice q4 k4 d4) := ⟨_, rfl⟩
            rw [← hw7] at HT HUF HKT7 HKB7 HLT7 ⊢
            clear hw7 cZ fZ lZ HZ6 HKB6 HL6 HB6
            clear HT0 HKM HLM HD HU5
            have hwn : u < N := by have := HUF.out.was.wl; have := HINV.out.inv.wl; omega
            obtain ⟨gq, offq, pr, dr, rfl, hgl, hgc, hgs, hgn⟩ := HUF.out.was.at_ u hwn
            have hS4 : V2.span = (u : Int) := HSP.out
            have hT7 := HKT7.out
            rw [hS4] at hT7
            have HKT8 := Lib.hid hT7
            have hL7 := HLT7.out
            rw [hS4] at hL7
            have HLT8 := Lib.hid hL7
            have HWO : Hid (Calls Try.prog 22 #[.agg #[.slice p4 n4 c4, .slice pp4 m4 cc4, .int .i64 V2.B.lost, .int .i64 V2.words, .int .i64 (u : Int), .slice q4 k4 d4]] w7.drew fun e w' => ∃ r, e = .returned r ∧ w'.ownsRow w7.heap.size 29 1 r n (Ud.wdC (Ws.getD u [])) ∧ Below w7.heap.size w7 w') := Lib.hid ((swords_any _ _ V2 w7.drew (HLT8.out.below (Below.refl _ _).drew)).mono (by
              rintro e w' ⟨r, h1, h2, h3⟩
              rw [HI2.out.wl, HWW.out] at h2
              exact ⟨r, h1, h2, (Below.refl _ _).drew.trans h3⟩))
            have HGS := Lib.hid (And.intro hgl (And.intro hgs hgn))
            have HS0 : Hid (∀ W, Below w7.heap.size w7 W → (∀ j, W.cell? ⟨bt, j, none⟩ = (#[.slice p4 n4 c4, .slice pp4 m4 cc4, .int .i64 V2.B.lost, .int .i64 V2.words, .int .i64 (u : Int), .slice q4 k4 d4] : Array Value)[j]?) ∧ W.cell? ⟨gq, offq + u, none⟩ = some (.slice pr n dr)) := Lib.hid (fun W hb => ⟨(HKT8.out.below hb).c, (hb.cell (p := ⟨gq, offq + u, none⟩) hgl).trans hgc⟩)
            have hiI : (0 : Int) ≤ (u : Int) := by omega
            have hiI2 : (u : Int) < (N : Int) := by omega
            have eU : ((u : Int) != (u : Int)) = false := by simp
            clear hgl hgc hgs hgn hT7 hL7 hS4 HKT7 HLT7 HKB7
            rw [HSP.out]
            refine region_plan (fun W : World => (∀ j, W.cell? ⟨bt, j, none⟩ = (#[.slice p4 n4 c4, .slice pp4 m4 cc4, .int .i64 V2.B.lost, .int .i64 V2.words, .int .i64 (u : Int), .slice q4 k4 d4] : Array Value)[j]?) ∧ W.cell? ⟨gq, offq + u, none⟩ = some (.slice pr n dr)) 12 [(0, true), (2, true), (3, true), (4, true), (5, true), (1, false), (6, false), (7, true), (8, true), (9, true), (10, true), (11, true)] (by kernel_rfl) (by kernel_rfl) (HS0.out _ (Below.refl _ _).drew) ?_
            iterate 5
              refine plan_read (v := ?_) rfl (by rfl) ?_ ?_
              rotate_left
              · intro w' hS
                try dsimp only at hS
                go_simp
                try with_reducible rfl
              try simp only [Act.put, List.setIfInBounds_toArray, List.set_cons_zero, List.set_cons_succ, List.getElem_toArray, List.getElem_cons_zero, List.getElem_cons_succ]
            refine plan_call (F := 22) (args := ?_) rfl (by rfl) ?_ ?_
            rotate_left
            · go_simp
              rfl
            refine (HWO.out).mono ?_
            rintro e w8 ⟨r, rfl, hrr, hb⟩
            obtain ⟨p5, c5, rfl, _⟩ := own_cap hrr
            have HRR := Lib.hid hrr
            have HB8 := Lib.hid hb
            clear hrr hb
            refine ⟨_, rfl, HS0.out _ HB8.out, ?_⟩
            try simp only [Act.put, List.setIfInBounds_toArray, List.set_cons_zero, List.set_cons_succ, List.getElem_toArray, List.getElem_cons_zero, List.getElem_cons_succ]
            have HWD : Hid (Calls Try.prog 21 #[.slice p5 n c5, .slice pr n dr] w8 fun e w' => e = .returned (.bool true) ∧ Below w8.heap.size w8 w') := Lib.hid (by
              obtain ⟨p', c', e, hs⟩ := Sl.own HRR.out
              injection e with e1 e2 e3
              subst e1 e3
              have := Ud.words_any p5 pr c5 dr (Ws.getD u []) w8 (by rw [HGS.out.2.2]; exact hs) (by rw [HGS.out.2.2]; exact HGS.out.2.1.below HB8.out) (by rw [HGS.out.2.2]; omega)
              rw [HGS.out.2.2] at this
              exact this)
            refine plan_call (F := 21) (args := ?_) rfl (by rfl) ?_ ?_
            rotate_left
            · go_simp
              rfl
            refine (HWD.out).mono ?_
            rintro e w9 ⟨rfl, hb⟩
            have HB9 : Hid (Below w7.heap.size w7 w9) := Lib.hid (HB8.out.trans (hb.mono HB8.out.size))
            clear hb
            refine ⟨_, rfl, HS0.out _ HB9.out, ?_⟩
            try simp only [Act.put, List.setIfInBounds_toArray, List.set_cons_zero, List.set_cons_succ, List.getElem_toArray, List.getElem_cons_zero, List.getElem_cons_succ]
            iterate 5
              refine plan_read (v := ?_) rfl (by rfl) ?_ ?_
              rotate_left
              · intro w' hS
                try dsimp only at hS
                go_simp
                try with_reducible rfl
              try simp only [Act.put, List.setIfInBounds_toArray, List.set_cons_zero, List.set_cons_succ, List.getElem_toArray, List.getElem_cons_zero, List.getElem_cons_succ]
            refine plan_nil ?_
            simp only [List.drop_succ_cons, List.drop_zero]
            have HT9 := Lib.hid (HT.out.below HB9.out)
            have HUX := Lib.hid (HUF.out.below HB9.out)
            clear HT HUF HS0 HWO HWD HRR HGS HB8 HB9 HKT8 HLT8 HINV HWW hiI hiI2
            have HT := HT9
            clear HT9
            obtain ⟨p6, n6, c6, pp6, m6, cc6, q6, k6, d6, hkt, hlt⟩ := HT.out.1.vo
            have hq := sright_any _ _ V2 _ hlt
            rw [HI2.out.rv.ok] at hq
            have HQR := Lib.hid hq
            have HKT := Lib.hid hkt
            have HLT := Lib.hid hlt
            have kT := hkt.c
            clear hkt hlt hq HT
            go_wp2_with fail
            refine HQR.out.mono ?_
            clear HQR kT
            rintro e wt ⟨rfl, hb⟩
            have HUT := Lib.hid (HUX.out.below hb)
            have HKT2 := Lib.hid (HKT.out.below hb)
            have HLT2 := Lib.hid (HLT.out.below hb)
            clear hb HKT HLT HUX
            obtain ⟨p7, n7, c7, pp7, m7, cc7, q7, k7, d7, hkb, -⟩ := HUT.out.var.vo
            have kB := hkb.c
            have fB := hkb.f
            have lB := hkb.lt
            have kT := HKT2.out.c
            clear hkb
            go_upto_region 11 with fail
            rw [set6_eq]
            have HU9 := Lib.hid (HUT.out.put HLT2.out)
            obtain ⟨w9, hw9⟩ : ∃ y, y = set6 wt b (.slice p6 n6 c6) (.slice pp6 m6 cc6) (.int .i64 V2.B.lost) (.int .i64 V2.words) (.int .i64 V2.span) (.slice q6 k6 d6) := ⟨_, rfl⟩
            rw [← hw9] at HU9 ⊢
            clear hw9 kB fB lB kT HUT HKT2 HLT2
            go_wp2_with fail
            go_roundw
            case rel => exact ⟨k + 1, f, u, V2, _, _, _, _, _, by omega, by omega, by go_num, rfl, rfl, HI2.out, HU9.out⟩
            case measure => simp [intOf]; omega
  
        · as_aux_lemma =>
            obtain ⟨y, hy⟩ : ∃ y, y = sp - f := ⟨_, rfl⟩
            obtain ⟨z, hz⟩ : ∃ z, z = y + 1 := ⟨_, rfl⟩
            obtain ⟨x, hx⟩ : ∃ x, x = t % z := ⟨_, rfl⟩
            obtain ⟨u, hu⟩ : ∃ u, u = f + x := ⟨_, rfl⟩
            have hxz : x < z := by rw [hx]; exact Nat.mod_lt _ (by omega)
            have hfu : f ≤ u := by omega
            have hus : u ≤ sp := by omega
            have hx5 : ((t : Int)).tmod (z : Int) = (x : Int) := by rw [Int.tmod_eq_emod_of_nonneg (by omega), hx]; exact (Int.natCast_emod t z).symm
            have hz0 : ¬ z = 0 := by omega
            have f1 : IntKind.i64.wrap ((sp : Int) - (f : Int)) = (y : Int) := by rw [IntKind.wrap_i64]; omega
            have f2 : wrap64 ((sp : Int) - (f : Int)) = (y : Int) := by unfold wrap64; omega
            have f3 : IntKind.i64.wrap ((y : Int) + 1) = (z : Int) := by rw [IntKind.wrap_i64]; omega
            have f4 : wrap64 ((y : Int) + 1) = (z : Int) := by unfold wrap64; omega
            have f5 : IntKind.i64.wrap ((f : Int) + (x : Int)) = (u : Int) := by rw [IntKind.wrap_i64]; omega
            have f6 : wrap64 ((f : Int) + (x : Int)) = (u : Int) := by unfold wrap64; omega
            clear hx hu hy hz hxz
            have kM := HKM.out.c
            go_upto_region 36 with fail
            clear f1 f2 f3 f4 f5 f6 hx5 hz0 kD kM er
            obtain ⟨hE, hWW, hI2⟩ := HINV.out.trim hfu hus
            have hq := strim_any (fun R => R < w5.heap.size) _ V (u : Int) w5 HLM.out (fun R h => h)
            rw [hE] at hq
            obtain ⟨V2, hV2⟩ : ∃ y, y = trimV V (u : Int) := ⟨_, rfl⟩
            rw [← hV2] at hq hI2 hWW
            have HI2 := Lib.hid hI2
            have HQC := Lib.hid hq
            have HWW := Lib.hid hWW
            clear hI2 hE hV2 hq hWW
            have kB := HKM.out.c
            go_wp2_with fail
            refine HQC.out.mono ?_
            clear HQC kB
            rintro e w6 ⟨vv, rfl, hlo, hb⟩
            have HB6 : Hid (Below w5.heap.size w5 w6) := Lib.hid hb
            obtain ⟨p4, n4, c4, xs4, pp4, m4, cc4, q4, k4, d4, rfl, hcc, hoff⟩ := hlo
            have HL6 : Hid (Vo (fun R => R < w5.heap.size) w6 (.agg #[.slice p4 n4 c4, .slice pp4 m4 cc4, .int .i64 V2.B.lost, .int .i64 V2.words, .int .i64 V2.span, .slice q4 k4 d4]) V2) := Lib.hid ⟨p4, n4, c4, xs4, pp4, m4, cc4, q4, k4, d4, rfl, hcc, hoff⟩
            clear hcc hoff hb
            have HZ6 := Lib.hid (HT0.out.below HB6.out)
            have HKB6 := Lib.hid (HKM.out.below HB6.out)
            have cZ := HZ6.out.c
            have fZ := HZ6.out.f
            have lZ := HZ6.out.lt
            have HT : Hid (TV b wr (set6 w6 bt (.slice p4 n4 c4) (.slice pp4 m4 cc4) (.int .i64 V2.B.lost) (.int .i64 V2.words) (.int .i64 V2.span) (.slice q4 k4 d4)) bt V2) := Lib.hid (TV.put HT0.out HB5.out HGB.out.2.2 HB6.out HL6.out HGB.out.2.1)
            have HKT7 : Hid (Blk (set6 w6 bt (.slice p4 n4 c4) (.slice pp4 m4 cc4) (.int .i64 V2.B.lost) (.int .i64 V2.words) (.int .i64 V2.span) (.slice q4 k4 d4)) bt #[.slice p4 n4 c4, .slice pp4 m4 cc4, .int .i64 V2.B.lost, .int .i64 V2.words, .int .i64 V2.span, .slice q4 k4 d4]) := Lib.hid (set6_same HZ6.out _ _ _ _ _ _)
            have HKB7 : Hid (Blk (set6 w6 bt (.slice p4 n4 c4) (.slice pp4 m4 cc4) (.int .i64 V2.B.lost) (.int .i64 V2.words) (.int .i64 V2.span) (.slice q4 k4 d4)) b #[.slice pm nm cm, .slice ppm mm ccm, .int .i64 0, .int .i64 (n : Int), .int .i64 (sp : Int), .slice qm km dm]) := Lib.hid (set6_other HKB6.out (fun e => HBT.out.2 e.symm) _ _ _ _ _ _)
            have HLT7 : Hid (Vo (fun R => R < w5.heap.size) (set6 w6 bt (.slice p4 n4 c4) (.slice pp4 m4 cc4) (.int .i64 V2.B.lost) (.int .i64 V2.words) (.int .i64 V2.span) (.slice q4 k4 d4)) (.agg #[.slice p4 n4 c4, .slice pp4 m4 cc4, .int .i64 V2.B.lost, .int .i64 V2.words, .int .i64 V2.span, .slice q4 k4 d4]) V2) := Lib.hid (HL6.out.set6 HT0.out.lt _ _ _ _ _ _)
            go_upto_region 37 with fail
            rw [set6_eq]
            have HUF := Lib.hid (HUB.out.below HT.out.2.2)
            obtain ⟨w7, hw7⟩ : ∃ y, y = set6 w6 bt (.slice p4 n4 c4) (.slice pp4 m4 cc4) (.int .i64 V2.B.lost) (.int .i64 V2.words) (.int .i64 V2.span) (.slice q4 k4 d4) := ⟨_, rfl⟩
            rw [← hw7] at HT HUF HKT7 HKB7 HLT7 ⊢
            clear hw7 cZ fZ lZ HZ6 HKB6 HL6 HB6
            have HWO : Hid (Calls Try.prog 22 #[.agg #[.slice p4 n4 c4, .slice pp4 m4 cc4, .int .i64 V2.B.lost, .int .i64 V2.words, .int .i64 V2.span, .slice q4 k4 d4]] w7.drew fun e w' => ∃ r, e = .returned r ∧ w'.ownsRow w7.heap.size 29 1 r n (Ud.wdC (wordsV V)) ∧ Below w7.heap.size w7 w') := Lib.hid ((swords_any _ _ V2 w7.drew (HLT7.out.below (Below.refl _ _).drew)).mono (by
              rintro e w' ⟨r, h1, h2, h3⟩
              rw [HI2.out.wl, HWW.out] at h2
              exact ⟨r, h1, h2, (Below.refl _ _).drew.trans h3⟩))
            have HLB7 : Hid (Vo (fun R => R = b) w7 (.agg #[.slice pm nm cm, .slice ppm mm ccm, .int .i64 0, .int .i64 (n : Int), .int .i64 (sp : Int), .slice qm km dm]) V) := Lib.hid (by
              obtain ⟨pb, nb, cb, ppb, mb, ccb, qb, kb, db, hkb, hlb⟩ := HUF.out.var.vo
              rw [HINV.out.spv, HINV.out.rv.w, HINV.out.l0] at hkb hlb
              have e0 := (HKB7.out.c 0).symm.trans (hkb.c 0)
              have e1 := (HKB7.out.c 1).symm.trans (hkb.c 1)
              have e5 := (HKB7.out.c 5).symm.trans (hkb.c 5)
              simp at e0 e1 e5
              obtain ⟨rfl, rfl, rfl⟩ := e0
              obtain ⟨rfl, rfl, rfl⟩ := e1
              obtain ⟨rfl, rfl, rfl⟩ := e5
              exact hlb)
            have HS0 : Hid (∀ W, Below w7.heap.size w7 W → (∀ j, W.cell? ⟨b, j, none⟩ = (#[.slice pm nm cm, .slice ppm mm ccm, .int .i64 0, .int .i64 (n : Int), .int .i64 (sp : Int), .slice qm km dm] : Array Value)[j]?) ∧ (∀ j, W.cell? ⟨bt, j, none⟩ = (#[.slice p4 n4 c4, .slice pp4 m4 cc4, .int .i64 V2.B.lost, .int .i64 V2.words, .int .i64 V2.span, .slice q4 k4 d4] : Array Value)[j]?)) := Lib.hid (fun W hb => ⟨(HKB7.out.below hb).c, (HKT7.out.below hb).c⟩)
            clear HT0 HKM HLM HD HU5
            refine region_plan (fun W : World => (∀ j, W.cell? ⟨b, j, none⟩ = (#[.slice pm nm cm, .slice ppm mm ccm, .int .i64 0, .int .i64 (n : Int), .int .i64 (sp : Int), .slice qm km dm] : Array Value)[j]?) ∧ (∀ j, W.cell? ⟨bt, j, none⟩ = (#[.slice p4 n4 c4, .slice pp4 m4 cc4, .int .i64 V2.B.lost, .int .i64 V2.words, .int .i64 V2.span, .slice q4 k4 d4] : Array Value)[j]?)) 5 [(0, true), (2, true), (1, false), (3, false), (4, false)] (by kernel_rfl) (by kernel_rfl) (HS0.out _ (Below.refl _ _).drew) ?_
            iterate 2
              refine plan_read (v := ?_) rfl (by rfl) ?_ ?_
              rotate_left
              · intro w' hS
                try dsimp only at hS
                go_simp
                try with_reducible rfl
              try simp only [Act.put, List.setIfInBounds_toArray, List.set_cons_zero, List.set_cons_succ, List.getElem_toArray, List.getElem_cons_zero, List.getElem_cons_succ]
            refine plan_call (F := 22) (args := ?_) rfl (by rfl) ?_ ?_
            rotate_left
            · go_simp
              rfl
            refine (HWO.out).mono ?_
            rintro e w8 ⟨r, rfl, hrr, hb⟩
            obtain ⟨p5, c5, rfl, _⟩ := own_cap hrr
            have HRR := Lib.hid hrr
            have HB8 := Lib.hid hb
            clear hrr hb
            refine ⟨_, rfl, HS0.out _ HB8.out, ?_⟩
            try simp only [Act.put, List.setIfInBounds_toArray, List.set_cons_zero, List.set_cons_succ, List.getElem_toArray, List.getElem_cons_zero, List.getElem_cons_succ]
            have HWO2 : Hid (Calls Try.prog 22 #[.agg #[.slice pm nm cm, .slice ppm mm ccm, .int .i64 0, .int .i64 (n : Int), .int .i64 (sp : Int), .slice qm km dm]] w8 fun e w' => ∃ r, e = .returned r ∧ w'.ownsRow w8.heap.size 29 1 r n (Ud.wdC (wordsV V)) ∧ Below w8.heap.size w8 w') := Lib.hid ((swords_any _ _ V w8 (HLB7.out.below HB8.out)).mono (by
              rintro e w' ⟨r, h1, h2, h3⟩
              rw [HINV.out.wl] at h2
              exact ⟨r, h1, h2, h3⟩))
            refine plan_call (F := 22) (args := ?_) rfl (by rfl) ?_ ?_
            rotate_left
            · go_simp
              rfl
            refine (HWO2.out).mono ?_
            rintro e w9 ⟨r, rfl, hrr, hb⟩
            obtain ⟨p9, c9, rfl, _⟩ := own_cap hrr
            have HR9 := Lib.hid hrr
            have HRR9 := Lib.hid (own_below HRR.out hb)
            have HB9 : Hid (Below w7.heap.size w7 w9) := Lib.hid (HB8.out.trans (hb.mono HB8.out.size))
            clear hrr hb
            refine ⟨_, rfl, HS0.out _ HB9.out, ?_⟩
            try simp only [Act.put, List.setIfInBounds_toArray, List.set_cons_zero, List.set_cons_succ, List.getElem_toArray, List.getElem_cons_zero, List.getElem_cons_succ]
            have HWD : Hid (Calls Try.prog 21 #[.slice p5 n c5, .slice p9 n c9] w9 fun e w' => e = .returned (.bool true) ∧ Below w9.heap.size w9 w') := Lib.hid (by
              obtain ⟨p', c', e, hs⟩ := Sl.own HRR9.out
              injection e with e1 e2 e3
              subst e1 e3
              obtain ⟨p', c', e, hs2⟩ := Sl.own HR9.out
              injection e with e1 e2 e3
              subst e1 e3
              have hl := HINV.out.wl
              have := Ud.words_any p5 p9 c5 c9 (wordsV V) w9 (by rw [hl]; exact hs) (by rw [hl]; exact hs2) (by rw [hl]; omega)
              rw [hl] at this
              exact this)
            refine plan_call (F := 21) (args := ?_) rfl (by rfl) ?_ ?_
            rotate_left
            · go_simp
              rfl
            refine (HWD.out).mono ?_
            rintro e wa ⟨rfl, hb⟩
            have HBa : Hid (Below w7.heap.size w7 wa) := Lib.hid (HB9.out.trans (hb.mono HB9.out.size))
            clear hb
            refine ⟨_, rfl, HS0.out _ HBa.out, ?_⟩
            try simp only [Act.put, List.setIfInBounds_toArray, List.set_cons_zero, List.set_cons_succ, List.getElem_toArray, List.getElem_cons_zero, List.getElem_cons_succ]
            refine plan_nil ?_
            simp only [List.drop_succ_cons, List.drop_zero]
            have HT9 := Lib.hid (HT.out.below HBa.out)
            have HUX := Lib.hid (HUF.out.below HBa.out)
            clear HT HUF HS0 HWO HWO2 HWD HRR HR9 HRR9 HB8 HB9 HBa HKB7 HKT7 HLT7 HLB7 HINV HWW
            have HT := HT9
            clear HT9
            obtain ⟨p6, n6, c6, pp6, m6, cc6, q6, k6, d6, hkt, hlt⟩ := HT.out.1.vo
            have hq := sright_any _ _ V2 _ hlt
            rw [HI2.out.rv.ok] at hq
            have HQR := Lib.hid hq
            have HKT := Lib.hid hkt
            have HLT := Lib.hid hlt
            have kT := hkt.c
            clear hkt hlt hq HT
            go_wp2_with fail
            refine HQR.out.mono ?_
            clear HQR kT
            rintro e wt ⟨rfl, hb⟩
            have HUT := Lib.hid (HUX.out.below hb)
            have HKT2 := Lib.hid (HKT.out.below hb)
            have HLT2 := Lib.hid (HLT.out.below hb)
            clear hb HKT HLT HUX
            obtain ⟨p7, n7, c7, pp7, m7, cc7, q7, k7, d7, hkb, -⟩ := HUT.out.var.vo
            have kB := hkb.c
            have fB := hkb.f
            have lB := hkb.lt
            have kT := HKT2.out.c
            clear hkb
            go_upto_region 11 with fail
            rw [set6_eq]
            have HU9 := Lib.hid (HUT.out.put HLT2.out)
            obtain ⟨w9, hw9⟩ : ∃ y, y = set6 wt b (.slice p6 n6 c6) (.slice pp6 m6 cc6) (.int .i64 V2.B.lost) (.int .i64 V2.words) (.int .i64 V2.span) (.slice q6 k6 d6) := ⟨_, rfl⟩
            rw [← hw9] at HU9 ⊢
            clear hw9 kB fB lB kT HUT HKT2 HLT2
            go_wp2_with fail
            go_roundw
            case rel => exact ⟨k + 1, u, sp, V2, _, _, _, _, _, by omega, by omega, by go_num, rfl, rfl, HI2.out, HU9.out⟩
            case measure => simp [intOf]; omega
  
        · as_aux_lemma =>
            have hnm : nm = bn := by
              obtain ⟨p', n', c', xs', pp', m', cc', q', k', d', e, hc, -⟩ := HLM.out
              injection e with e
              simp at e
              have h1 := hc.bn.zn
              rw [HINV.out.rv.zn] at h1
              omega
            subst hnm
            obtain ⟨j, hj⟩ : ∃ y, y = a % nm := ⟨_, rfl⟩
            have hta : ((a : Int)).tmod (nm : Int) = (j : Int) := by rw [Int.tmod_eq_emod_of_nonneg (by omega), hj]; exact (Int.natCast_emod a nm).symm
            have hn0 : ¬ nm = 0 := by omega
            have hnI : ¬ (nm : Int) = 0 := by omega
            have hjb : j < nm := by rw [hj]; exact Nat.mod_lt _ (by omega)
            have hjw : IntKind.i64.wrap (j : Int) = (j : Int) := by rw [IntKind.wrap_i64]; omega
            clear hj
            have kM := HKM.out.c
            go_upto_region 17 with fail
            clear hta hn0 hnI kD er kM hjw
            obtain ⟨hE, hEw, hEb, hV, hEr⟩ := HINV.out.lose hjb
            have hq := slose_any (fun R => R < w5.heap.size) _ V (j : Int) w5 HLM.out (fun R h => h)
            rw [hE] at hq
            obtain ⟨Vl, hVl⟩ : ∃ y, y = loseV V (j : Int) := ⟨_, rfl⟩
            rw [← hVl] at hq hEw hEb hV hEr
            have HQC := Lib.hid hq
            have HEE := Lib.hid (And.intro hEw (And.intro hEb (And.intro hV hEr)))
            clear hq hE hEw hEb hV hEr hVl
            have kB := HKM.out.c
            go_wp2_with fail
            refine HQC.out.mono ?_
            clear HQC kB
            rintro e w6 ⟨vv, rfl, hlo, hb⟩
            have HB6 : Hid (Below w5.heap.size w5 w6) := Lib.hid hb
            obtain ⟨p4, n4, c4, xs4, pp4, m4, cc4, q4, k4, d4, rfl, hcc, hoff⟩ := hlo
            have HL6 : Hid (Vo (fun R => R < w5.heap.size) w6 (.agg #[.slice p4 n4 c4, .slice pp4 m4 cc4, .int .i64 Vl.B.lost, .int .i64 Vl.words, .int .i64 Vl.span, .slice q4 k4 d4]) Vl) := Lib.hid ⟨p4, n4, c4, xs4, pp4, m4, cc4, q4, k4, d4, rfl, hcc, hoff⟩
            clear hcc hoff hb
            go_upto_region 18 with fail
            obtain ⟨bl, hbl⟩ : ∃ y, y = w6.heap.size := ⟨_, rfl⟩
            obtain ⟨x6, hx6⟩ : ∃ y, y = w6.alloc (.cells #[.slice p4 n4 c4, .slice pp4 m4 cc4, .int .i64 Vl.B.lost, .int .i64 Vl.words, .int .i64 Vl.span, .slice q4 k4 d4] 28) := ⟨_, rfl⟩
            have hA6 : Below w6.heap.size w6 x6 := by rw [hx6]; exact (Below.refl _ _).alloc (Nat.le_refl _) _
            have HKL6 : Hid (Blk x6 bl #[.slice p4 n4 c4, .slice pp4 m4 cc4, .int .i64 Vl.B.lost, .int .i64 Vl.words, .int .i64 Vl.span, .slice q4 k4 d4]) := Lib.hid (by rw [hx6, hbl]; exact Blk.new _ _ _)
            have HLL6 := Lib.hid (HL6.out.below hA6)
            have HX6 : Hid (Below w5.heap.size w5 x6) := Lib.hid (HB6.out.trans (hA6.mono HB6.out.size))
            rw [← hx6, ← hbl]
            clear hx6 hbl hA6 HB6 HL6
            have hq := swriteV_any (fun R => R < w5.heap.size) _ Vl 0 1 x6 HLL6.out (fun R h => Nat.lt_of_lt_of_le h HX6.out.size) (by decide)
            rw [HEE.out.1] at hq
            obtain ⟨Vw, hVw⟩ : ∃ y, y = writeV Vl 0 (1 : Nat) := ⟨_, rfl⟩
            rw [← hVw] at hq
            have HQC := Lib.hid hq
            clear hq hVw
            have kL := HKL6.out.c
            go_wp2_with fail
            refine HQC.out.mono ?_
            clear HQC kL
            rintro e w7 ⟨vv, rfl, hlo, hb⟩
            obtain ⟨p5, n5, c5, xs5, pp5, m5, cc5, q5, k5, d5, rfl, -, -⟩ := hlo
            have HKL7 := Lib.hid (HKL6.out.below hb)
            have HLL7 := Lib.hid (HLL6.out.below hb)
            have HX7 : Hid (Below w5.heap.size w5 w7) := Lib.hid (HX6.out.trans (hb.mono HX6.out.size))
            clear hb HKL6 HLL6 HX6
            go_upto_region 19 with fail
            obtain ⟨x7, hx7⟩ : ∃ y, y = w7.alloc (.cells #[.slice p5 n5 c5, .slice pp5 m5 cc5, .int .i64 Vw.B.lost, .int .i64 Vw.words, .int .i64 Vw.span, .slice q5 k5 d5] 28) := ⟨_, rfl⟩
            obtain ⟨b7, hb7⟩ : ∃ y, y = w7.heap.size := ⟨_, rfl⟩
            have hA7 : Below w7.heap.size w7 x7 := by rw [hx7]; exact (Below.refl _ _).alloc (Nat.le_refl _) _
            have HKL7' := Lib.hid (HKL7.out.below hA7)
            have HLL7' := Lib.hid (HLL7.out.below hA7)
            have HX7' : Hid (Below w5.heap.size w5 x7) := Lib.hid (HX7.out.trans (hA7.mono HX7.out.size))
            rw [← hx7, ← hb7]
            clear hx7 hb7 hA7 HKL7 HLL7 HX7
            have hq := sback_any (fun R => R < w5.heap.size) _ Vl (f : Int) x7 HLL7'.out (fun R h => Nat.lt_of_lt_of_le h HX7'.out.size)
            rw [HEE.out.2.1] at hq
            obtain ⟨Vk, hVk⟩ : ∃ y, y = backV Vl (f : Int) := ⟨_, rfl⟩
            rw [← hVk] at hq
            have HQC := Lib.hid hq
            clear hq hVk
            have kL := HKL7'.out.c
            go_wp2_with fail
            refine HQC.out.mono ?_
            clear HQC kL
            rintro e w8 ⟨vv, rfl, hlo, hb⟩
            obtain ⟨p6, n6, c6, xs6, pp6, m6, cc6, q6, k6, d6, rfl, -, -⟩ := hlo
            have HKL8 := Lib.hid (HKL7'.out.below hb)
            have HLL8 := Lib.hid (HLL7'.out.below hb)
            have HX8 : Hid (Below w5.heap.size w5 w8) := Lib.hid (HX7'.out.trans (hb.mono HX7'.out.size))
            clear hb HKL7' HLL7' HX7'
            go_upto_region 20 with fail
            obtain ⟨x8, hx8⟩ : ∃ y, y = w8.alloc (.cells #[.slice p6 n6 c6, .slice pp6 m6 cc6, .int .i64 Vk.B.lost, .int .i64 Vk.words, .int .i64 Vk.span, .slice q6 k6 d6] 28) := ⟨_, rfl⟩
            obtain ⟨b8, hb8'⟩ : ∃ y, y = w8.heap.size := ⟨_, rfl⟩
            have hA8 : Below w8.heap.size w8 x8 := by rw [hx8]; exact (Below.refl _ _).alloc (Nat.le_refl _) _
            have HKL9 := Lib.hid (HKL8.out.below hA8)
            have HLL9 := Lib.hid (HLL8.out.below hA8)
            have HX9 : Hid (Below w5.heap.size w5 x8) := Lib.hid (HX8.out.trans (hA8.mono HX8.out.size))
            rw [← hx8, ← hb8']
            clear hx8 hb8' hA8 HKL8 HLL8 HX8
            have hq := sreb_any (fun R => R < w5.heap.size) _ Vl x8 HLL9.out (fun R h => Nat.lt_of_lt_of_le h HX9.out.size)
            rw [HEE.out.2.2.1, HEE.out.2.2.2] at hq
            obtain ⟨V2, hV2⟩ : ∃ y, y = V := ⟨_, rfl⟩
            have HI2 : Hid (InvS n nm mq V2 f sp Ws (k + 1)) := Lib.hid (by rw [hV2]; exact HINV.out.more)
            have hq2 := hq
            rw [← hV2] at hq2
            have HQC := Lib.hid hq2
            have HVV := Lib.hid hV2
            clear hq hq2 hV2
            have kL := HKL9.out.c
            go_wp2_with fail
            refine HQC.out.mono ?_
            clear HQC kL
            rintro e w9 ⟨vv, rfl, hlo, hb⟩
            have HB9 : Hid (Below w5.heap.size w5 w9) := Lib.hid (HX9.out.trans (hb.mono HX9.out.size))
            obtain ⟨p8, n8, c8, xs8, pp8, m8, cc8, q8, k8, d8, rfl, hcc, hoff⟩ := hlo
            have HL9 : Hid (Vo (fun R => R < w5.heap.size) w9 (.agg #[.slice p8 n8 c8, .slice pp8 m8 cc8, .int .i64 V2.B.lost, .int .i64 V2.words, .int .i64 V2.span, .slice q8 k8 d8]) V2) := Lib.hid ⟨p8, n8, c8, xs8, pp8, m8, cc8, q8, k8, d8, rfl, hcc, hoff⟩
            clear hcc hoff hb HKL9 HLL9 HX9
            have HZ9 := Lib.hid (HT0.out.below HB9.out)
            have HKB9 := Lib.hid (HKM.out.below HB9.out)
            have cZ := HZ9.out.c
            have fZ := HZ9.out.f
            have lZ := HZ9.out.lt
            have HT : Hid (TV b wr (set6 w9 bt (.slice p8 n8 c8) (.slice pp8 m8 cc8) (.int .i64 V2.B.lost) (.int .i64 V2.words) (.int .i64 V2.span) (.slice q8 k8 d8)) bt V2) := Lib.hid (TV.put HT0.out HB5.out HGB.out.2.2 HB9.out HL9.out HGB.out.2.1)
            have HKTa : Hid (Blk (set6 w9 bt (.slice p8 n8 c8) (.slice pp8 m8 cc8) (.int .i64 V2.B.lost) (.int .i64 V2.words) (.int .i64 V2.span) (.slice q8 k8 d8)) bt #[.slice p8 n8 c8, .slice pp8 m8 cc8, .int .i64 V2.B.lost, .int .i64 V2.words, .int .i64 V2.span, .slice q8 k8 d8]) := Lib.hid (set6_same HZ9.out _ _ _ _ _ _)
            have HKBa : Hid (Blk (set6 w9 bt (.slice p8 n8 c8) (.slice pp8 m8 cc8) (.int .i64 V2.B.lost) (.int .i64 V2.words) (.int .i64 V2.span) (.slice q8 k8 d8)) b #[.slice pm nm cm, .slice ppm mm ccm, .int .i64 0, .int .i64 (n : Int), .int .i64 (sp : Int), .slice qm km dm]) := Lib.hid (set6_other HKB9.out (fun e => HBT.out.2 e.symm) _ _ _ _ _ _)
            have HLTa : Hid (Vo (fun R => R < w5.heap.size) (set6 w9 bt (.slice p8 n8 c8) (.slice pp8 m8 cc8) (.int .i64 V2.B.lost) (.int .i64 V2.words) (.int .i64 V2.span) (.slice q8 k8 d8)) (.agg #[.slice p8 n8 c8, .slice pp8 m8 cc8, .int .i64 V2.B.lost, .int .i64 V2.words, .int .i64 V2.span, .slice q8 k8 d8]) V2) := Lib.hid (HL9.out.set6 HT0.out.lt _ _ _ _ _ _)
            go_upto_region 21 with fail
            rw [set6_eq]
            have HUF := Lib.hid (HUB.out.below HT.out.2.2)
            obtain ⟨wa, hwa'⟩ : ∃ y, y = set6 w9 bt (.slice p8 n8 c8) (.slice pp8 m8 cc8) (.int .i64 V2.B.lost) (.int .i64 V2.words) (.int .i64 V2.span) (.slice q8 k8 d8) := ⟨_, rfl⟩
            rw [← hwa'] at HT HUF HKTa HKBa HLTa ⊢
            clear hwa' cZ fZ lZ HZ9 HKB9 HL9 HB9
            have HLBa : Hid (Vo (fun R => R = b) wa (.agg #[.slice pm nm cm, .slice ppm mm ccm, .int .i64 0, .int .i64 (n : Int), .int .i64 (sp : Int), .slice qm km dm]) V2) := Lib.hid (by
              rw [HVV.out]
              obtain ⟨pb, nb, cb, ppb, mb, ccb, qb, kb, db, hkb, hlb⟩ := HUF.out.var.vo
              rw [HINV.out.spv, HINV.out.rv.w, HINV.out.l0] at hkb hlb
              have e0 := (HKBa.out.c 0).symm.trans (hkb.c 0)
              have e1 := (HKBa.out.c 1).symm.trans (hkb.c 1)
              have e5 := (HKBa.out.c 5).symm.trans (hkb.c 5)
              simp at e0 e1 e5
              obtain ⟨rfl, rfl, rfl⟩ := e0
              obtain ⟨rfl, rfl, rfl⟩ := e1
              obtain ⟨rfl, rfl, rfl⟩ := e5
              exact hlb)
            have HSA := Lib.hid (ssame_any _ _ _ _ V2 wa HLTa.out HLBa.out)
            have kB := HKBa.out.c
            have kT := HKTa.out.c
            clear HT0 HKM HLM HD HU5 HLTa HLBa HEE
            go_wp2_with fail
            refine HSA.out.mono ?_
            rintro e wb ⟨rfl, hb⟩
            have HT9 := Lib.hid (HT.out.below hb)
            have HUX := Lib.hid (HUF.out.below hb)
            clear hb kB kT HT HUF HSA HKBa HKTa HINV HVV
            have HT := HT9
            clear HT9
            obtain ⟨p6, n6, c6, pp6, m6, cc6, q6, k6, d6, hkt, hlt⟩ := HT.out.1.vo
            have hq := sright_any _ _ V2 _ hlt
            rw [HI2.out.rv.ok] at hq
            have HQR := Lib.hid hq
            have HKT := Lib.hid hkt
            have HLT := Lib.hid hlt
            have kT := hkt.c
            clear hkt hlt hq HT
            go_wp2_with fail
            refine HQR.out.mono ?_
            clear HQR kT
            rintro e wt ⟨rfl, hb⟩
            have HUT := Lib.hid (HUX.out.below hb)
            have HKT2 := Lib.hid (HKT.out.below hb)
            have HLT2 := Lib.hid (HLT.out.below hb)
            clear hb HKT HLT HUX
            obtain ⟨p7, n7, c7, pp7, m7, cc7, q7, k7, d7, hkb, -⟩ := HUT.out.var.vo
            have kB := hkb.c
            have fB := hkb.f
            have lB := hkb.lt
            have kT := HKT2.out.c
            clear hkb
            go_upto_region 11 with fail
            rw [set6_eq]
            have HU9 := Lib.hid (HUT.out.put HLT2.out)
            obtain ⟨w9, hw9⟩ : ∃ y, y = set6 wt b (.slice p6 n6 c6) (.slice pp6 m6 cc6) (.int .i64 V2.B.lost) (.int .i64 V2.words) (.int .i64 V2.span) (.slice q6 k6 d6) := ⟨_, rfl⟩
            rw [← hw9] at HU9 ⊢
            clear hw9 kB fB lB kT HUT HKT2 HLT2
            go_wp2_with fail
            go_roundw
            case rel => exact ⟨k + 1, f, sp, V2, _, _, _, _, _, by omega, by omega, by go_num, rfl, rfl, HI2.out, HU9.out⟩
            case measure => simp [intOf]; omega
  
      · rw [decide_eq_false hgo]
        go_wp2_with fail
        go_ret
        exact ⟨rfl, HUB.out.hb⟩
end Go.Proofs.Ytflakmabciokbaa
namespace Go.Proofs.Ytflakmabciokbaa.storeSurvives
open Go.ChangeShapes Go.WideShapes Go.ChangeAt Go.RowKit
open Go.ChangeMaps (open_string shut_string)
set_option linter.unusedVariables false

theorem own : ownKnob Try.prog.godebug = none := by kernel_rfl
theorem laidOut : laidOutB Try.prog = true := by kernel_rfl

set_option maxRecDepth 100000 in
theorem lifted (os : Os) (started : os.Started) (H : Type) (enc : TypeId × Value → H) :
    ReturnsInHanded {} Try.checked os 4 .any (Rows.storeSurvivesSpec.pre6 enc Try.prog Try.f4 Rows.storeSurvivesRow.domain false) (Rows.storeSurvivesSpec.post enc Try.prog Try.f4 false true false false) := by
  refine returnsInHanded_of_change (C := Try.checked) own started (by kernel_rfl) Try.func4
    (ChangeSpec.witness6 (enc := enc) (C := Try.checked) false ⟨#[], #[.int .u8 0, .int .u8 0, .slice none 0 0], []⟩ 8 (by kernel_rfl) (by kernel_rfl) (by kernel_rfl) (by kernel_rfl)) ?_
  intro W base args ds gs before hval0 hW hcnd _
  have hval : ∀ (j : Nat) t v, Try.f4.params[j]? = some t → args[j]? = some v → Value.okWide Try.prog W .any base t v := hval0
  have hW' := hW
  obtain ⟨p, q, hA0, hV, rfl, hfz, hnd⟩ := hW
  have hA : DataW.TrodAll enc Try.prog W 0 (fun _ => true) true Try.f4.params.toList args.toList ds p := hA0
  rw [Try.params4] at hA hval
  obtain ⟨v0, vs0, d0, ds0, p0, q0, hargs, rfl, rfl, h0, r0⟩ := trodAll_cons hA
  obtain ⟨v1, vs1, d1, ds1, p1, q1, rfl, rfl, rfl, h1, r1⟩ := trodAll_cons r0
  obtain ⟨v2, vs2, d2, ds2, p2, q2, rfl, rfl, rfl, h2, r2⟩ := trodAll_cons r1
  obtain ⟨rfl, rfl, rfl⟩ := trodAll_nil r2
  obtain rfl : args = #[v0, v1, v2] := by cases args; simp_all
  obtain ⟨rfl, rfl⟩ := trodVars_none hV
  have k0 := h0
  have lt0 : ∀ x ∈ p0, x.block < W.heap.size := by obtain ⟨m, hm⟩ := k0; exact DataW.trod_lt m _ _ _ hm
  have k1 := h1
  have lt1 : ∀ x ∈ p1, x.block < W.heap.size := by obtain ⟨m, hm⟩ := k1; exact DataW.trod_lt m _ _ _ hm
  have k2 := h2
  have lt2 : ∀ x ∈ p2, x.block < W.heap.size := by obtain ⟨m, hm⟩ := k2; exact DataW.trod_lt m _ _ _ hm
  obtain ⟨a0, rfl, rfl, rfl, w0⟩ := open_int Try.underlying5 (hval 0 5 v0 rfl rfl) h0
  have b0 := bounds_u8 w0
  obtain ⟨n0, rfl⟩ := Int.eq_ofNat_of_zero_le b0.1
  obtain ⟨a1, rfl, rfl, rfl, w1⟩ := open_int Try.underlying5 (hval 1 5 v1 rfl rfl) h1
  have b1 := bounds_u8 w1
  obtain ⟨n1, rfl⟩ := Int.eq_ofNat_of_zero_le b1.1
  obtain ⟨s2, len2, cap2, rfl⟩ := okWide_slice Try.underlying54 (hval 2 54 v2 rfl rfl)
  obtain ⟨ps2, hl2, hm2, hg2, hp2⟩ : ∃ ps : List Ud.Dt, ps.length = len2 ∧ len2 ≤ maxLen ∧ (∀ y ∈ ps, y.Fits) ∧ Ud.Els W s2 4 len2 (fun k => (ps.getD k Ud.dt0).row) := by
    obtain ⟨fuel, hf⟩ := h2
    exact Ud.dos_of_cells hf
  clear hA0 hval0
  refine (surv_main n0 n1 s2 len2 cap2 ps2 W (by omega) (by omega) hl2 hm2 hg2 hp2).mono fun e W' ⟨he, bel⟩ => ?_
  subst he
  exact ⟨_, rfl, _, _, _, [], _, [], hW', trodAll_mk1 (shut_bool Try.underlying4 _), (trodAll_cons_mk (Below.trod laidOut (by kernel_rfl) (of_decide_eq_true (by kernel_rfl)) k0 bel lt0) (trodAll_cons_mk (Below.trod laidOut (by kernel_rfl) (of_decide_eq_true (by kernel_rfl)) k1 bel lt1) (trodAll_cons_mk (Below.trod laidOut (by kernel_rfl) (of_decide_eq_true (by kernel_rfl)) k2 bel lt2) trodAll_mk0))), rfl, bel.frame _, fun h => by cases h⟩

theorem over : Rows.storeSurvivesRow.holds Try.pinned (OpenSpec.ofChange Rows.storeSurvivesSpec) :=
  OpenClaim.holds_of_wide 4 Try.f4 rfl rfl rfl rfl rfl rfl rfl ⟨rfl, rfl, rfl, rfl, rfl⟩ rfl rfl rfl rfl rfl (by kernel_rfl) Try.func4 (by kernel_rfl)
    (of_decide_eq_true (by kernel_rfl)) (by unfold Func.isWrapper; first | (rw [if_pos (by decide +kernel)]; kernel_rfl) | (rw [if_neg (by decide +kernel)]; exact ⟨rfl, rfl⟩))
    (fun os started H enc _ => lifted os started H enc)

/-- The statement. -/
theorem proved : Rows.StoreSurvivesSaid := over
#print axioms proved
end Go.Proofs.Ytflakmabciokbaa.storeSurvives
