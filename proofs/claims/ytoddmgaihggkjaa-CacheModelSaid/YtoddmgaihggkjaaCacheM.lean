/- CacheModel: the walk of the statement's function; no condition but that the list reads. -/
import Derived.Test.YtoddmgaihggkjaaCacheM0
namespace Go.Proofs.Ytoddmgaihggkjaa
set_option linter.unusedVariables false
open Go.ChangeShapes Go.WideShapes Go.ChangeAt Go.RowKit

set_option maxHeartbeats 16000000 in
set_option maxRecDepth 100000 in
theorem model_main (A D : Nat) (p0 : Option Addr) (len cap : Nat) (ds : List Dt) (w : World) (hA : A < 256) (hD : D < 256) (hz : ds.length = len) (hmx : len ≤ maxLen) (hf : ∀ d ∈ ds, d.Fits) (hq : Els w p0 4 len (fun k => (ds.getD k dt0).row)) :
    Calls Try.prog 4 #[.int .u8 A, .int .u8 D, .slice p0 len cap] w fun e w' => e = .returned (.bool true) ∧ Below w.heap.size w w' := by
  have HQ := Lib.hid hq
  have HZ := Lib.hid hz
  have HF := Lib.hid hf
  unfold maxLen at hmx
  clear hq hz hf
  go_enter Try.func4, Try.ntmps4
  go_wp2_with fail
  refine (awake_any _).mono ?_
  rintro e w1 ⟨rfl, hb1⟩
  have HB1 : Hid (Below w.heap.size w w1) := Lib.hid hb1
  clear hb1
  go_upto_region 4 with fail
  obtain ⟨n, hn⟩ : ∃ n : Nat, n = A % 8 + 1 := ⟨_, rfl⟩
  obtain ⟨m, hm⟩ : ∃ m : Nat, m = D % 8 + 1 := ⟨_, rfl⟩
  have en : (A : Int) % 8 + 1 = (n : Int) := by omega
  have em : (D : Int) % 8 + 1 = (m : Int) := by omega
  rw [en, em]
  have hn1 : 1 ≤ n := by omega
  have hn8 : n ≤ 8 := by omega
  have hm1 : 1 ≤ m := by omega
  have hm8 : m ≤ 8 := by omega
  clear hn hm en em
  obtain ⟨hmd, hE⟩ := Md.new hn1 hn8 hm1 hm8 (fun _ => 0) (fun _ => 0)
  have hnew := new_any (n : Int) (m : Int) w1
  rw [hE] at hnew
  obtain ⟨C0, hC0⟩ : ∃ C, C = newC (n : Int) (m : Int) := ⟨_, rfl⟩
  rw [← hC0] at hmd hnew
  have HMD := Lib.hid hmd
  clear hC0 hE hmd
  go_wp2_with fail
  refine hnew.mono ?_
  clear hnew
  rintro e w2 ⟨v, rfl, ⟨p, n', c, xs, rfl, hcc, hoff⟩, hb⟩
  have HB2 : Hid (Below w.heap.size w w2) := Lib.hid (HB1.out.trans (hb.mono HB1.out.size))
  have HC := Lib.hid hcc
  clear hoff hb hcc HB1
  go_upto_region 5 with fail
  obtain ⟨b, hbe⟩ : ∃ b, b = w2.heap.size := ⟨_, rfl⟩
  obtain ⟨w3, hw3⟩ : ∃ w3, w3 = w2.alloc (.cells #[.int .i64 C0.sets, .int .i64 C0.ways, .int .i64 C0.clock, .slice p n' c] 24) := ⟨_, rfl⟩
  have HV3 : Hid (Var (fun R => R = b) w3 b C0) := Lib.hid (by
    rw [hw3, hbe]
    exact ⟨_, _, _, _, Blk.new _ _ _, HC.out.below ((Below.refl _ _).alloc (Nat.le_refl _) _), fun R hR => HC.out.off (by rw [hR]; exact Nat.le_refl _)⟩)
  have HB3 : Hid (Below w.heap.size w w3) := Lib.hid (by rw [hw3]; exact HB2.out.alloc HB2.out.size _)
  have HS3 : Hid (w3.heap.size = b + 1) := Lib.hid (by rw [hw3, hbe, World.size_alloc])
  have HBG : Hid (w.heap.size ≤ b) := Lib.hid (by rw [hbe]; exact HB2.out.size)
  rw [← hw3, ← hbe]
  clear hw3 hbe HC HB2
  have hz49 := zero49
  have hz50 := zero50
  have hz51 := zero51
  have hs3 := HS3.out
  go_upto_region 10 with fail
  have HSM : Hid (Sm w (((w3.alloc (.cells (arrB fun _ => false) 49)).alloc (.cells (arrU fun _ => 0) 50)).alloc (.cells (arrI fun _ => 0) 51)) b (b + 1) (b + 1 + 1) (b + 1 + 1 + 1) C0 (fun _ => false) (fun _ => 0) (fun _ => 0)) := Lib.hid (Sm.new HV3.out HB3.out HBG.out hs3 _ _ _)
  obtain ⟨w4, hw4⟩ : ∃ z, z = ((w3.alloc (.cells (arrB fun _ => false) 49)).alloc (.cells (arrU fun _ => 0) 50)).alloc (.cells (arrI fun _ => 0) 51) := ⟨_, rfl⟩
  rw [← hw4] at HSM ⊢
  obtain ⟨b3, hb3⟩ : ∃ z, z = b + 1 + 1 + 1 := ⟨_, rfl⟩
  rw [← hb3] at HSM ⊢
  obtain ⟨b2, hb2⟩ : ∃ z, z = b + 1 + 1 := ⟨_, rfl⟩
  rw [← hb2] at HSM ⊢
  obtain ⟨b1, hb1⟩ : ∃ z, z = b + 1 := ⟨_, rfl⟩
  rw [← hb1] at HSM ⊢
  clear hz49 hz50 hz51 hs3 HV3 HB3 HS3 HBG hw4 hb3 hb2 hb1
  go_wp2_with fail
  go_loopw [14] (fun s wr => ∃ k : Nat, k ≤ len ∧ k ≤ 150 ∧ s = .int .i64 k ∧ ∃ C th va la, Md C n m k th va la ∧ Sm w wr b b1 b2 b3 C th va la) (fun s _ => len - (intOf s).toNat)
  case atStart => exact ⟨0, Nat.zero_le _, Nat.zero_le _, rfl, C0, _, _, _, HMD.out, HSM.out⟩
  case round =>
    clear HMD HSM
    obtain ⟨k, hk, hk150, rfl, C, th, va, la, hmd, hsm⟩ := hrel
    have HMD := Lib.hid hmd
    have HSM := Lib.hid hsm
    clear hmd hsm
    have hn0 : ¬ n = 0 := by omega
    go_upto_region 11 with fail
    go_cut [57] (fun s57 wd => s57 = .bool (decide (k < len ∧ k < 150)) ∧ wr = wd)
    case first =>
      as_aux_lemma =>
        by_cases h1 : k < len
        · have h1I : decide ((k : Int) < len) = true := decide_eq_true (by omega)
          by_cases h2 : k < 150
          · have h2I : decide ((k : Int) < 150) = true := decide_eq_true (by omega)
            have HGO : Hid (decide (k < len ∧ k < 150) = true) := Lib.hid (decide_eq_true ⟨h1, h2⟩)
            go_wp2_with fail
            go_meet
            case rel => exact ⟨by rw [HGO.out], rfl⟩
          · have h2I : decide ((k : Int) < 150) = false := decide_eq_false (by omega)
            have HGO : Hid (decide (k < len ∧ k < 150) = false) := Lib.hid (decide_eq_false (by omega))
            go_wp2_with fail
            go_meet
            case rel => exact ⟨by rw [HGO.out], rfl⟩
        · have h1I : decide ((k : Int) < len) = false := decide_eq_false (by omega)
          have HGO : Hid (decide (k < len ∧ k < 150) = false) := Lib.hid (decide_eq_false (by omega))
          go_wp2_with fail
          go_meet
          case rel => exact ⟨by rw [HGO.out], rfl⟩
    case rest =>
      obtain ⟨rfl, rfl⟩ := hcut
      by_cases hgo : k < len ∧ k < 150
      · rw [decide_eq_true hgo]
        obtain ⟨hkl, hk1⟩ := hgo
        obtain ⟨bq, off, hbl, rfl, hc⟩ := HQ.out (by omega)
        have hfit := HF.out (ds.getD k dt0) (mem_getD ds dt0 k (by rw [HZ.out]; exact hkl))
        obtain ⟨⟨kd, a, st, v⟩, hyy⟩ : ∃ y, ds.getD k dt0 = y := ⟨_, rfl⟩
        have hc0 : wr.cell? ⟨bq, off + k * 4 + 0, none⟩ = (ds.getD k dt0).row[0]? := (HSM.out.bel.cell (p := ⟨bq, off + k * 4 + 0, none⟩) hbl).trans (hc k hkl 0 (by decide))
        have hc1 : wr.cell? ⟨bq, off + k * 4 + 1, none⟩ = (ds.getD k dt0).row[1]? := (HSM.out.bel.cell (p := ⟨bq, off + k * 4 + 1, none⟩) hbl).trans (hc k hkl 1 (by decide))
        have hc2 : wr.cell? ⟨bq, off + k * 4 + 2, none⟩ = (ds.getD k dt0).row[2]? := (HSM.out.bel.cell (p := ⟨bq, off + k * 4 + 2, none⟩) hbl).trans (hc k hkl 2 (by decide))
        have hc3 : wr.cell? ⟨bq, off + k * 4 + 3, none⟩ = (ds.getD k dt0).row[3]? := (HSM.out.bel.cell (p := ⟨bq, off + k * 4 + 3, none⟩) hbl).trans (hc k hkl 3 (by decide))
        rw [hyy] at hc0 hc1 hc2 hc3 hfit
        have hd0 : wr.cell? ⟨bq, off + k * 4, none⟩ = some (.int .u8 (kd : Int)) := hc0
        have hd1 : wr.cell? ⟨bq, off + k * 4 + 1, none⟩ = some (.int .u8 (a : Int)) := hc1
        have hd2 : wr.cell? ⟨bq, off + k * 4 + 2, none⟩ = some (.int .u8 (st : Int)) := hc2
        have hd3 : wr.cell? ⟨bq, off + k * 4 + 3, none⟩ = some (.int .u32 (v : Int)) := hc3
        have hkd : kd < 256 := hfit.1
        have ha : a < 256 := hfit.2.1
        have hst : st < 256 := hfit.2.2.1
        have hv : v < 4294967296 := hfit.2.2.2
        have hkI : (0 : Int) ≤ (k : Int) := by omega
        have hkI2 : (k : Int) < (len : Int) := by omega
        clear hc hc0 hc1 hc2 hc3 hyy hfit
        go_upto_region 14 with fail
        have HSM5 : Hid (Sm w (wr.alloc (.cells #[.int .u8 (kd : Int), .int .u8 (a : Int), .int .u8 (st : Int), .int .u32 (v : Int)] 53)) b b1 b2 b3 C th va la) := Lib.hid (HSM.out.below ((Below.refl _ _).alloc (Nat.le_refl _) _))
        have HD : Hid (Blk (wr.alloc (.cells #[.int .u8 (kd : Int), .int .u8 (a : Int), .int .u8 (st : Int), .int .u32 (v : Int)] 53)) wr.heap.size #[.int .u8 (kd : Int), .int .u8 (a : Int), .int .u8 (st : Int), .int .u32 (v : Int)]) := Lib.hid (Blk.new _ _ _)
        have HDG : Hid (b3 < wr.heap.size) := Lib.hid HSM.out.l.lt
        obtain ⟨g, hg⟩ : ∃ z, z = wr.heap.size := ⟨_, rfl⟩
        obtain ⟨w5, hw5⟩ : ∃ z, z = wr.alloc (.cells #[.int .u8 (kd : Int), .int .u8 (a : Int), .int .u8 (st : Int), .int .u32 (v : Int)] 53) := ⟨_, rfl⟩
        rw [← hw5] at HSM5 HD ⊢
        rw [← hg] at HD HDG ⊢
        clear hw5 hg hd0 hd1 hd2 hd3 hkI hkI2 HSM
        have hwa : IntKind.i64.wrap (a : Int) = (a : Int) := by rw [IntKind.wrap_i64]; omega
        have hcd := HD.out.c
        go_upto_region 15 with fail
        obtain ⟨r, hr⟩ : ∃ r, r = kd % 3 := ⟨_, rfl⟩
        have er : (kd : Int) % 3 = (r : Int) := by rw [hr]; exact (Int.natCast_emod kd 3).symm
        have hr3 : r < 3 := by omega
        clear hr
        obtain rfl | rfl | rfl : r = 0 ∨ r = 1 ∨ r = 2 := by omega
        · as_aux_lemma =>
            -- put
            obtain ⟨ra, hra⟩ : ∃ z, z = a % n := ⟨_, rfl⟩
            have hta : ((a : Int)).tmod (n : Int) = (ra : Int) := by rw [Int.tmod_eq_emod_of_nonneg (by omega), hra]; exact (Int.natCast_emod a n).symm
            have HRA := Lib.hid hra
            clear hra
            go_wp2_with fail
            obtain ⟨W6, hW6⟩ : ∃ z, z = w5 := ⟨_, rfl⟩
            rw [← hW6] at HSM5 HD hcd ⊢
            clear hW6
            go_loopw [17, 18] (fun s17 s18 wr => wr = W6 ∧ ∃ t x : Nat, s17 = .int .i64 (cntK th n ra t) ∧ s18 = .int .i64 x ∧ x = ra + t * n ∧ t ≤ 256 ∧ x < 256 + n ∧ ∀ j, j < t → ra + j * n < 256) (fun _ s18 _ => 256 + n - (intOf s18).toNat)
            case atStart => exact ⟨rfl, 0, ra, rfl, rfl, by omega, by omega, by have := Nat.mod_lt a (by omega : 0 < n); have := HRA.out; omega, fun j hj => absurd hj (Nat.not_lt_zero _)⟩
            case round =>
              obtain ⟨rfl, t, x, rfl, rfl, hx, ht, hxn, hj⟩ := hrel
              have HX := Lib.hid hx
              have HJ := Lib.hid hj
              clear hx hj
              have hcu := cntK_le th n ra t
              obtain ⟨u, hu⟩ : ∃ u, u = cntK th n ra t := ⟨_, rfl⟩
              rw [← hu] at hcu ⊢
              have HU := Lib.hid hu
              clear hu
              by_cases hx2 : x < 256
              · have hxI : decide ((x : Int) < 256) = true := decide_eq_true (by omega)
                have hxI0 : (0 : Int) ≤ (x : Int) := by omega
                have hxI1 : (x : Int) < 256 := by omega
                have hct : wr.cell? ⟨b1, x, none⟩ = some (.bool (th x)) := (HSM5.out.t.c x).trans (arrB_at th x hx2)
                have hstep := cntK_succ th n ra t
                rw [← HX.out, ← HU.out] at hstep
                have ht2 : t < 256 := by
                  have h1 := HX.out
                  have h2 := Nat.le_mul_of_pos_right t (by omega : 0 < n)
                  omega
                have HJ2 : Hid (∀ j, j < t + 1 → ra + j * n < 256) := Lib.hid (fun j hj => by
                  by_cases e : j = t
                  · rw [e, ← HX.out]; exact hx2
                  · exact HJ.out j (by omega))
                have HX2 : Hid (x + n = ra + (t + 1) * n) := Lib.hid (by rw [Nat.succ_mul, HX.out]; omega)
                have hwx : IntKind.i64.wrap ((x : Int) + (n : Int)) = (x : Int) + (n : Int) := by rw [IntKind.wrap_i64]; omega
                have hwu : IntKind.i64.wrap ((u : Int) + 1) = (u : Int) + 1 := by rw [IntKind.wrap_i64]; omega
                cases htx : th x with
                | true =>
                  as_aux_lemma =>
                    rw [htx] at hct hstep
                    have HST := Lib.hid hstep
                    clear hstep htx
                    go_wp2_with fail
                    go_roundw
                    case rel => exact ⟨trivial, t + 1, x + n, by rw [HST.out]; go_num, by go_num, HX2.out, by omega, by omega, HJ2.out⟩
                    case measure => simp [intOf]; omega
                | false =>
                  as_aux_lemma =>
                    rw [htx] at hct hstep
                    have HST := Lib.hid hstep
                    clear hstep htx
                    go_wp2_with fail
                    go_roundw
                    case rel => exact ⟨trivial, t + 1, x + n, by rw [HST.out]; go_num, by go_num, HX2.out, by omega, by omega, HJ2.out⟩
                    case measure => simp [intOf]; omega
              · as_aux_lemma =>
                  have hxI : decide ((x : Int) < 256) = false := decide_eq_false (by omega)
                  have HCNT : Hid (u = (setC C a).length) := Lib.hid (by
                    rw [HU.out, HRA.out]
                    exact HMD.out.count a t (by rw [← HRA.out]; exact HJ.out) (by rw [← HRA.out, ← HX.out]; omega))
                  clear HU HJ HX hcu ht hxn hx2
                  have hs1 : 1 ≤ (st : Int) % 4 + 1 := by omega
                  have hs4 : (st : Int) % 4 + 1 ≤ 4 := by omega
                  by_cases hroom : th a = true ∨ u ≠ m
                  · as_aux_lemma =>
                      have hpp := HMD.out.put a ha (by omega) ((st : Int) % 4 + 1) v hs1 hs4 (by rcases hroom with h | h; exact .inl h; exact .inr (by rw [← HCNT.out]; exact h))
                      obtain ⟨hE, hO, hmd1⟩ := hpp
                      rw [show zL = ⟨0, 0, 0, 0⟩ from rfl] at hO
                      obtain ⟨p1, n1, c1, xs1, hk1, hcc1, hoff1⟩ := HSM5.out.c
                      have kc1 := hk1.c
                      have hput := put_any (S4 b b1 b2 b3) _ C a ((st : Int) % 4 + 1) v wr ⟨_, _, _, _, rfl, hcc1, hoff1⟩ HSM5.out.lt hv
                      rw [hE, hO] at hput
                      obtain ⟨C1, hC1⟩ : ∃ z, z = putC C a ((st : Int) % 4 + 1) v := ⟨_, rfl⟩
                      rw [← hC1] at hput hmd1
                      have HPUT := Lib.hid hput
                      have HMD1 := Lib.hid hmd1
                      clear hk1 hcc1 hoff1 hput hmd1 hE hO hC1
                      go_wp2_with fail
                      refine HPUT.out.mono ?_
                      clear HPUT kc1
                      rintro e w6 ⟨v6, rfl, ⟨p2, n2, c2, xs2, rfl, hcc2, hoff2⟩, hb6⟩
                      have HSM6 := Lib.hid (HSM5.out.below hb6)
                      have HD6 := Lib.hid (HD.out.below hb6)
                      have HO6 : Hid (Co (S4 b b1 b2 b3) w6 (.agg #[.int .i64 C1.sets, .int .i64 C1.ways, .int .i64 C1.clock, .slice p2 n2 c2]) C1) := Lib.hid ⟨_, _, _, _, rfl, hcc2, hoff2⟩
                      clear hcc2 hoff2 hb6 HSM5 HD hcd
                      go_upto_region 29 with fail
                      obtain ⟨w7, hw7⟩ : ∃ z, z = (w6.alloc (.cells #[.int .i64 C1.sets, .int .i64 C1.ways, .int .i64 C1.clock, .slice p2 n2 c2] 24)).alloc (.cells #[.int .i64 0, .int .i64 0, .int .u32 0, .int .i64 0] 30) := ⟨_, rfl⟩
                      have HB7 : Hid (Below w6.heap.size w6 w7) := Lib.hid (by rw [hw7]; exact ((Below.refl _ _).alloc (Nat.le_refl _) _).alloc (by simp) _)
                      have HG7 : Hid (Blk w7 w6.heap.size #[.int .i64 C1.sets, .int .i64 C1.ways, .int .i64 C1.clock, .slice p2 n2 c2]) := Lib.hid (by rw [hw7]; exact (Blk.new _ _ _).alloc _)
                      have HL7 : Hid (Blk w7 (w6.heap.size + 1) #[.int .i64 0, .int .i64 0, .int .u32 0, .int .i64 0]) := Lib.hid (by rw [hw7]; have h1 := Blk.new (w6.alloc (.cells #[.int .i64 C1.sets, .int .i64 C1.ways, .int .i64 C1.clock, .slice p2 n2 c2] 24)) #[.int .i64 0, .int .i64 0, .int .u32 0, .int .i64 0] 30; rwa [World.size_alloc] at h1)
                      have HSM7 := Lib.hid (HSM6.out.below HB7.out)
                      have HD7 := Lib.hid (HD6.out.below HB7.out)
                      have HO7 := Lib.hid (HO6.out.below HB7.out)
                      have HGN : Hid (b3 < w6.heap.size) := Lib.hid HSM6.out.l.lt
                      obtain ⟨g1, hg1⟩ : ∃ z, z = w6.heap.size := ⟨_, rfl⟩
                      rw [← hw7]
                      rw [← hg1] at HG7 HL7 HGN ⊢
                      clear hw7 hg1 HB7 HSM6 HD6 HO6
                      have hct := (HSM7.out.t.c a).trans (arrB_at th a ha)
                      have kL := HL7.out.c
                      have haI0 : (0 : Int) ≤ (a : Int) := by omega
                      have haI1 : (a : Int) < 256 := by omega
                      go_upto_region 31 with fail
                      cases hta2 : th a with
                      | true =>
                        as_aux_lemma =>
                          rw [hta2] at hct
                          clear hta2
                          go_quiet (fail)
                          go_upto_region 43 with fail
                          obtain ⟨w8, hw8⟩ : ∃ z, z = (w7.drewN nq).drew := ⟨_, rfl⟩
                          have HB8 : Hid (Below w7.heap.size w7 w8) := Lib.hid (by rw [hw8]; exact (drewN_below (Below.refl _ _) _).drew)
                          have HSM8 := Lib.hid (HSM7.out.below HB8.out)
                          have HD8 := Lib.hid (HD7.out.below HB8.out)
                          have HG8 := Lib.hid (HG7.out.below HB8.out)
                          have HO8 := Lib.hid (HO7.out.below HB8.out)
                          clear HB8 HSM7 HD7 HG7 HO7
                          have HS3 : Hid (w8.cell? ⟨g, 3, none⟩ = some (.int .u32 (v : Int))) := Lib.hid (HD8.out.c 3)
                          have HNG : Hid (b1 ≠ g ∧ b2 ≠ g ∧ b3 ≠ g ∧ b1 ≠ b2 ∧ b1 ≠ b3 ∧ b2 ≠ b3 ∧ b ≠ g) := Lib.hid (by have g1 := HSM8.out.g1; have g2 := HSM8.out.g2; have g3 := HSM8.out.g3; have := HDG.out; omega)
                          refine region_plan (fun W : World => W.cell? ⟨g, 3, none⟩ = some (.int .u32 (v : Int))) 11 [(0, true), (1, true), (2, true), (3, true), (4, true), (5, true), (6, true), (7, true), (8, false), (9, true), (10, false)] (by kernel_rfl) (by kernel_rfl) (by rw [← hw8]; exact HS3.out) ?_
                          rw [← hw8]
                          clear hw8
                          iterate 8
                            refine plan_read (v := ?_) rfl (by rfl) ?_ ?_
                            rotate_left
                            · intro w' hS
                              try dsimp only at hS
                              go_simp
                              try with_reducible rfl
                            try simp only [Act.put, List.setIfInBounds_toArray, List.set_cons_zero, List.set_cons_succ, List.getElem_toArray, List.getElem_cons_zero, List.getElem_cons_succ]
                          have ks := (HSM8.out.t.c a).trans (arrB_at _ a ha)
                          have kf := HSM8.out.t.f a
                          have kl := HSM8.out.t.lt
                          refine plan_store (w1 := w8.setCell ⟨b1, a, none⟩ (.bool true)) rfl (by rfl) (by go_simp) ((World.cell?_setCell_other _ _ _ _ (by intro e; injection e with e1; exact HNG.out.1 e1)).trans HS3.out) ?_
                          try simp only [Act.put, List.setIfInBounds_toArray, List.set_cons_zero, List.set_cons_succ, List.getElem_toArray, List.getElem_cons_zero, List.getElem_cons_succ]
                          clear ks kf kl
                          have HSM9 := Lib.hid (HSM8.out.setT a ha true)
                          have HS9 : Hid ((w8.setCell ⟨b1, a, none⟩ (.bool true)).cell? ⟨g, 3, none⟩ = some (.int .u32 (v : Int))) := Lib.hid ((World.cell?_setCell_other _ _ _ _ (by intro e; injection e with e1; exact HNG.out.1 e1)).trans HS3.out)
                          have HG9 := Lib.hid (HG8.out.other (B' := b1) (n := a) (.bool true) (by have := HGN.out; have g2 := HSM8.out.g2; have g3 := HSM8.out.g3; omega))
                          have HO9 := Lib.hid (HO8.out.set (R := b1) (.inr (.inl rfl)) a (.bool true))
                          obtain ⟨w9, hw9⟩ : ∃ z, z = w8.setCell ⟨b1, a, none⟩ (.bool true) := ⟨_, rfl⟩
                          rw [← hw9] at HSM9 HS9 HG9 HO9 ⊢
                          clear hw9 HSM8 HG8 HO8 HS3 HD8
                          iterate 1
                            refine plan_read (v := ?_) rfl (by rfl) ?_ ?_
                            rotate_left
                            · intro w' hS
                              try dsimp only at hS
                              go_simp
                              try with_reducible rfl
                            try simp only [Act.put, List.setIfInBounds_toArray, List.set_cons_zero, List.set_cons_succ, List.getElem_toArray, List.getElem_cons_zero, List.getElem_cons_succ]
                          have ks := (HSM9.out.v.c a).trans (arrU_at _ a ha)
                          have kf := HSM9.out.v.f a
                          have kl := HSM9.out.v.lt
                          refine plan_store (w1 := w9.setCell ⟨b2, a, none⟩ (.int .u32 (v : Int))) rfl (by rfl) (by go_simp) ((World.cell?_setCell_other _ _ _ _ (by intro e; injection e with e1; exact HNG.out.2.1 e1)).trans HS9.out) ?_
                          try simp only [Act.put, List.setIfInBounds_toArray, List.set_cons_zero, List.set_cons_succ, List.getElem_toArray, List.getElem_cons_zero, List.getElem_cons_succ]
                          clear ks kf kl
                          have HSM10 := Lib.hid (HSM9.out.setV a ha v)
                          have HG10 := Lib.hid (HG9.out.other (B' := b2) (n := a) (.int .u32 (v : Int)) (by have := HGN.out; have g3 := HSM9.out.g3; omega))
                          have HO10 := Lib.hid (HO9.out.set (R := b2) (.inr (.inr (.inl rfl))) a (.int .u32 (v : Int)))
                          obtain ⟨w10, hw10⟩ : ∃ z, z = w9.setCell ⟨b2, a, none⟩ (.int .u32 (v : Int)) := ⟨_, rfl⟩
                          rw [← hw10] at HSM10 HG10 HO10 ⊢
                          clear hw10 HSM9 HG9 HO9 HS9
                          refine plan_nil ?_
                          simp only [List.drop_succ_cons, List.drop_zero]
                          have ks := (HSM10.out.l.c a).trans (arrI_at _ a ha)
                          have kf := HSM10.out.l.f a
                          have kl := HSM10.out.l.lt
                          go_upto_region 44 with fail
                          have HSM11 := Lib.hid (HSM10.out.setL a ha (k + 1))
                          rw [show ((k + 1 : Nat) : Int) = (k : Int) + 1 by omega] at HSM11
                          have HG11 := Lib.hid (HG10.out.other (B' := b3) (n := a) (.int .i64 ((k : Int) + 1)) (by have := HGN.out; omega))
                          have HO11 := Lib.hid (HO10.out.set (R := b3) (.inr (.inr (.inr rfl))) a (.int .i64 ((k : Int) + 1)))
                          obtain ⟨w11, hw11⟩ : ∃ z, z = w10.setCell ⟨b3, a, none⟩ (.int .i64 ((k : Int) + 1)) := ⟨_, rfl⟩
                          rw [← hw11] at HSM11 HG11 HO11 ⊢
                          clear hw11 HSM10 HG10 HO10 ks kf kl
                          obtain ⟨_, _, _, _, hkb, _⟩ := HSM11.out.c
                          have kcb := hkb.c
                          have kfb := hkb.f
                          have klb := hkb.lt
                          have kg := HG11.out.c
                          go_upto_region 52 with fail
                          clear hkb kcb kfb klb kg
                          have HSM12 := Lib.hid (HSM11.out.cache HO11.out)
                          obtain ⟨w12, hw12⟩ : ∃ z, z = (((w11.setCell ⟨b, 0, none⟩ (.int .i64 C1.sets)).setCell ⟨b, 1, none⟩ (.int .i64 C1.ways)).setCell ⟨b, 2, none⟩ (.int .i64 C1.clock)).setCell ⟨b, 3, none⟩ (.slice p2 n2 c2) := ⟨_, rfl⟩
                          rw [← hw12] at HSM12 ⊢
                          clear hw12 HSM11 HG11 HO11
                          obtain ⟨p3, n3, c3, xs3, hk3, hcc3, hoff3⟩ := HSM12.out.c
                          have kc3 := hk3.c
                          have hright := right_any (S4 b b1 b2 b3) _ C1 w12 ⟨_, _, _, _, rfl, hcc3, hoff3⟩
                          rw [HMD1.out.rt.b] at hright
                          have HRIGHT := Lib.hid hright
                          clear hright hk3 hcc3 hoff3
                          go_wp2_with fail
                          refine HRIGHT.out.mono ?_
                          clear HRIGHT kc3
                          rintro e wz ⟨rfl, hbz⟩
                          have HSMZ := Lib.hid (HSM12.out.below hbz)
                          clear hbz
                          go_wp2_with fail
                          go_roundw
                          case rel => exact ⟨k + 1, by omega, by omega, by go_num, C1, _, _, _, HMD1.out, HSMZ.out⟩
                          case measure => simp [intOf]; omega
                      | false =>
                        as_aux_lemma =>
                          rw [hta2] at hct
                          have hum : u ≠ m := by rcases hroom with h | h; exact absurd h (by rw [hta2]; decide); exact h
                          have humI : ((u : Int) == (m : Int)) = false := by simp; omega
                          clear hta2
                          go_quiet (fail)
                          go_upto_region 43 with fail
                          obtain ⟨w8, hw8⟩ : ∃ z, z = (w7.drewN nq).drew := ⟨_, rfl⟩
                          have HB8 : Hid (Below w7.heap.size w7 w8) := Lib.hid (by rw [hw8]; exact (drewN_below (Below.refl _ _) _).drew)
                          have HSM8 := Lib.hid (HSM7.out.below HB8.out)
                          have HD8 := Lib.hid (HD7.out.below HB8.out)
                          have HG8 := Lib.hid (HG7.out.below HB8.out)
                          have HO8 := Lib.hid (HO7.out.below HB8.out)
                          clear HB8 HSM7 HD7 HG7 HO7
                          have HS3 : Hid (w8.cell? ⟨g, 3, none⟩ = some (.int .u32 (v : Int))) := Lib.hid (HD8.out.c 3)
                          have HNG : Hid (b1 ≠ g ∧ b2 ≠ g ∧ b3 ≠ g ∧ b1 ≠ b2 ∧ b1 ≠ b3 ∧ b2 ≠ b3 ∧ b ≠ g) := Lib.hid (by have g1 := HSM8.out.g1; have g2 := HSM8.out.g2; have g3 := HSM8.out.g3; have := HDG.out; omega)
                          refine region_plan (fun W : World => W.cell? ⟨g, 3, none⟩ = some (.int .u32 (v : Int))) 11 [(0, true), (1, true), (2, true), (3, true), (4, true), (5, true), (6, true), (7, true), (8, false), (9, true), (10, false)] (by kernel_rfl) (by kernel_rfl) (by rw [← hw8]; exact HS3.out) ?_
                          rw [← hw8]
                          clear hw8
                          iterate 8
                            refine plan_read (v := ?_) rfl (by rfl) ?_ ?_
                            rotate_left
                            · intro w' hS
                              try dsimp only at hS
                              go_simp
                              try with_reducible rfl
                            try simp only [Act.put, List.setIfInBounds_toArray, List.set_cons_zero, List.set_cons_succ, List.getElem_toArray, List.getElem_cons_zero, List.getElem_cons_succ]
                          have ks := (HSM8.out.t.c a).trans (arrB_at _ a ha)
                          have kf := HSM8.out.t.f a
                          have kl := HSM8.out.t.lt
                          refine plan_store (w1 := w8.setCell ⟨b1, a, none⟩ (.bool true)) rfl (by rfl) (by go_simp) ((World.cell?_setCell_other _ _ _ _ (by intro e; injection e with e1; exact HNG.out.1 e1)).trans HS3.out) ?_
                          try simp only [Act.put, List.setIfInBounds_toArray, List.set_cons_zero, List.set_cons_succ, List.getElem_toArray, List.getElem_cons_zero, List.getElem_cons_succ]
                          clear ks kf kl
                          have HSM9 := Lib.hid (HSM8.out.setT a ha true)
                          have HS9 : Hid ((w8.setCell ⟨b1, a, none⟩ (.bool true)).cell? ⟨g, 3, none⟩ = some (.int .u32 (v : Int))) := Lib.hid ((World.cell?_setCell_other _ _ _ _ (by intro e; injection e with e1; exact HNG.out.1 e1)).trans HS3.out)
                          have HG9 := Lib.hid (HG8.out.other (B' := b1) (n := a) (.bool true) (by have := HGN.out; have g2 := HSM8.out.g2; have g3 := HSM8.out.g3; omega))
                          have HO9 := Lib.hid (HO8.out.set (R := b1) (.inr (.inl rfl)) a (.bool true))
                          obtain ⟨w9, hw9⟩ : ∃ z, z = w8.setCell ⟨b1, a, none⟩ (.bool true) := ⟨_, rfl⟩
                          rw [← hw9] at HSM9 HS9 HG9 HO9 ⊢
                          clear hw9 HSM8 HG8 HO8 HS3 HD8
                          iterate 1
                            refine plan_read (v := ?_) rfl (by rfl) ?_ ?_
                            rotate_left
                            · intro w' hS
                              try dsimp only at hS
                              go_simp
                              try with_reducible rfl
                            try simp only [Act.put, List.setIfInBounds_toArray, List.set_cons_zero, List.set_cons_succ, List.getElem_toArray, List.getElem_cons_zero, List.getElem_cons_succ]
                          have ks := (HSM9.out.v.c a).trans (arrU_at _ a ha)
                          have kf := HSM9.out.v.f a
                          have kl := HSM9.out.v.lt
                          refine plan_store (w1 := w9.setCell ⟨b2, a, none⟩ (.int .u32 (v : Int))) rfl (by rfl) (by go_simp) ((World.cell?_setCell_other _ _ _ _ (by intro e; injection e with e1; exact HNG.out.2.1 e1)).trans HS9.out) ?_
                          try simp only [Act.put, List.setIfInBounds_toArray, List.set_cons_zero, List.set_cons_succ, List.getElem_toArray, List.getElem_cons_zero, List.getElem_cons_succ]
                          clear ks kf kl
                          have HSM10 := Lib.hid (HSM9.out.setV a ha v)
                          have HG10 := Lib.hid (HG9.out.other (B' := b2) (n := a) (.int .u32 (v : Int)) (by have := HGN.out; have g3 := HSM9.out.g3; omega))
                          have HO10 := Lib.hid (HO9.out.set (R := b2) (.inr (.inr (.inl rfl))) a (.int .u32 (v : Int)))
                          obtain ⟨w10, hw10⟩ : ∃ z, z = w9.setCell ⟨b2, a, none⟩ (.int .u32 (v : Int)) := ⟨_, rfl⟩
                          rw [← hw10] at HSM10 HG10 HO10 ⊢
                          clear hw10 HSM9 HG9 HO9 HS9
                          refine plan_nil ?_
                          simp only [List.drop_succ_cons, List.drop_zero]
                          have ks := (HSM10.out.l.c a).trans (arrI_at _ a ha)
                          have kf := HSM10.out.l.f a
                          have kl := HSM10.out.l.lt
                          go_upto_region 44 with fail
                          have HSM11 := Lib.hid (HSM10.out.setL a ha (k + 1))
                          rw [show ((k + 1 : Nat) : Int) = (k : Int) + 1 by omega] at HSM11
                          have HG11 := Lib.hid (HG10.out.other (B' := b3) (n := a) (.int .i64 ((k : Int) + 1)) (by have := HGN.out; omega))
                          have HO11 := Lib.hid (HO10.out.set (R := b3) (.inr (.inr (.inr rfl))) a (.int .i64 ((k : Int) + 1)))
                          obtain ⟨w11, hw11⟩ : ∃ z, z = w10.setCell ⟨b3, a, none⟩ (.int .i64 ((k : Int) + 1)) := ⟨_, rfl⟩
                          rw [← hw11] at HSM11 HG11 HO11 ⊢
                          clear hw11 HSM10 HG10 HO10 ks kf kl
                          obtain ⟨_, _, _, _, hkb, _⟩ := HSM11.out.c
                          have kcb := hkb.c
                          have kfb := hkb.f
                          have klb := hkb.lt
                          have kg := HG11.out.c
                          go_upto_region 52 with fail
                          clear hkb kcb kfb klb kg
                          have HSM12 := Lib.hid (HSM11.out.cache HO11.out)
                          obtain ⟨w12, hw12⟩ : ∃ z, z = (((w11.setCell ⟨b, 0, none⟩ (.int .i64 C1.sets)).setCell ⟨b, 1, none⟩ (.int .i64 C1.ways)).setCell ⟨b, 2, none⟩ (.int .i64 C1.clock)).setCell ⟨b, 3, none⟩ (.slice p2 n2 c2) := ⟨_, rfl⟩
                          rw [← hw12] at HSM12 ⊢
                          clear hw12 HSM11 HG11 HO11
                          obtain ⟨p3, n3, c3, xs3, hk3, hcc3, hoff3⟩ := HSM12.out.c
                          have kc3 := hk3.c
                          have hright := right_any (S4 b b1 b2 b3) _ C1 w12 ⟨_, _, _, _, rfl, hcc3, hoff3⟩
                          rw [HMD1.out.rt.b] at hright
                          have HRIGHT := Lib.hid hright
                          clear hright hk3 hcc3 hoff3
                          go_wp2_with fail
                          refine HRIGHT.out.mono ?_
                          clear HRIGHT kc3
                          rintro e wz ⟨rfl, hbz⟩
                          have HSMZ := Lib.hid (HSM12.out.below hbz)
                          clear hbz
                          go_wp2_with fail
                          go_roundw
                          case rel => exact ⟨k + 1, by omega, by omega, by go_num, C1, _, _, _, HMD1.out, HSMZ.out⟩
                          case measure => simp [intOf]; omega
                  · as_aux_lemma =>
                      have hno : th a = false := by
                        cases h : th a with
                        | false => rfl
                        | true => exact absurd (.inl h) hroom
                      have hum : u = m := by
                        by_cases h : u = m
                        · exact h
                        · exact absurd (.inr h) hroom
                      have hpp := HMD.out.push a ha (by omega) ((st : Int) % 4 + 1) v hs1 hs4 hno (by rw [← HCNT.out]; exact hum)
                      obtain ⟨hE, kk, hkk, hkm, hka, htk, hO1, hO2, hO3, hmin, hmd1⟩ := hpp
                      obtain ⟨⟨oa, os, ov, ou⟩, hO⟩ : ∃ y, putO C a ((st : Int) % 4 + 1) = y := ⟨_, rfl⟩
                      rw [hO] at hO1 hO2 hO3
                      dsimp only at hO1 hO2 hO3
                      subst hO1 hO3
                      have HMIN := Lib.hid hmin
                      have HKA := Lib.hid hka
                      have hos : (os == 0) = false := by simp; omega
                      have HKM : Hid (kk % n = ra) := Lib.hid (by rw [hkm, HRA.out])
                      have htkk : ((kk : Int)).tmod (n : Int) = (ra : Int) := by rw [Int.tmod_eq_emod_of_nonneg (by omega), ← HKM.out]; exact (Int.natCast_emod kk n).symm
                      clear hmin hkm hka hroom hO2
                      obtain ⟨p1, n1, c1, xs1, hk1, hcc1, hoff1⟩ := HSM5.out.c
                      have kc1 := hk1.c
                      have hput := put_any (S4 b b1 b2 b3) _ C a ((st : Int) % 4 + 1) v wr ⟨_, _, _, _, rfl, hcc1, hoff1⟩ HSM5.out.lt hv
                      rw [hE, hO] at hput
                      obtain ⟨C1, hC1⟩ : ∃ z, z = putC C a ((st : Int) % 4 + 1) v := ⟨_, rfl⟩
                      rw [← hC1] at hput hmd1
                      have HPUT := Lib.hid hput
                      have HMD1 := Lib.hid hmd1
                      clear hk1 hcc1 hoff1 hput hmd1 hE hO hC1
                      go_wp2_with fail
                      refine HPUT.out.mono ?_
                      clear HPUT kc1
                      rintro e w6 ⟨v6, rfl, ⟨p2, n2, c2, xs2, rfl, hcc2, hoff2⟩, hb6⟩
                      have HSM6 := Lib.hid (HSM5.out.below hb6)
                      have HD6 := Lib.hid (HD.out.below hb6)
                      have HO6 : Hid (Co (S4 b b1 b2 b3) w6 (.agg #[.int .i64 C1.sets, .int .i64 C1.ways, .int .i64 C1.clock, .slice p2 n2 c2]) C1) := Lib.hid ⟨_, _, _, _, rfl, hcc2, hoff2⟩
                      clear hcc2 hoff2 hb6 HSM5 HD hcd
                      go_upto_region 29 with fail
                      obtain ⟨w7, hw7⟩ : ∃ z, z = (w6.alloc (.cells #[.int .i64 C1.sets, .int .i64 C1.ways, .int .i64 C1.clock, .slice p2 n2 c2] 24)).alloc (.cells #[.int .i64 (kk : Int), .int .i64 os, .int .u32 (va kk : Int), .int .i64 ou] 30) := ⟨_, rfl⟩
                      have HB7 : Hid (Below w6.heap.size w6 w7) := Lib.hid (by rw [hw7]; exact ((Below.refl _ _).alloc (Nat.le_refl _) _).alloc (by simp) _)
                      have HG7 : Hid (Blk w7 w6.heap.size #[.int .i64 C1.sets, .int .i64 C1.ways, .int .i64 C1.clock, .slice p2 n2 c2]) := Lib.hid (by rw [hw7]; exact (Blk.new _ _ _).alloc _)
                      have HL7 : Hid (Blk w7 (w6.heap.size + 1) #[.int .i64 (kk : Int), .int .i64 os, .int .u32 (va kk : Int), .int .i64 ou]) := Lib.hid (by rw [hw7]; have h1 := Blk.new (w6.alloc (.cells #[.int .i64 C1.sets, .int .i64 C1.ways, .int .i64 C1.clock, .slice p2 n2 c2] 24)) #[.int .i64 (kk : Int), .int .i64 os, .int .u32 (va kk : Int), .int .i64 ou] 30; rwa [World.size_alloc] at h1)
                      have HSM7 := Lib.hid (HSM6.out.below HB7.out)
                      have HD7 := Lib.hid (HD6.out.below HB7.out)
                      have HO7 := Lib.hid (HO6.out.below HB7.out)
                      have HGN : Hid (b3 < w6.heap.size) := Lib.hid HSM6.out.l.lt
                      obtain ⟨g1, hg1⟩ : ∃ z, z = w6.heap.size := ⟨_, rfl⟩
                      rw [← hw7]
                      rw [← hg1] at HG7 HL7 HGN ⊢
                      clear hw7 hg1 HB7 HSM6 HD6 HO6
                      have hct := (HSM7.out.t.c a).trans (arrB_at th a ha)
                      have kL := HL7.out.c
                      have haI0 : (0 : Int) ≤ (a : Int) := by omega
                      have haI1 : (a : Int) < 256 := by omega
                      have humI : ((u : Int) == (m : Int)) = true := by rw [hum]; simp
                      rw [hno] at hct
                      clear hno hum
                      go_upto_region 31 with fail
                      go_quiet (fail)
                      go_upto_region 34 with fail
                      obtain ⟨x7, hx7⟩ : ∃ z, z = w7.drewN nq := ⟨_, rfl⟩
                      have HBX : Hid (Below w7.heap.size w7 x7) := Lib.hid (by rw [hx7]; exact drewN_below (Below.refl _ _) _)
                      rw [← hx7]
                      have HSMX := Lib.hid (HSM7.out.below HBX.out)
                      have HDX := Lib.hid (HD7.out.below HBX.out)
                      have HGX := Lib.hid (HG7.out.below HBX.out)
                      have HLX := Lib.hid (HL7.out.below HBX.out)
                      have HOX := Lib.hid (HO7.out.below HBX.out)
                      clear hx7 HBX HSM7 HD7 HG7 HL7 HO7 hct kL
                      have kL := HLX.out.c
                      have hck := (HSMX.out.t.c kk).trans (arrB_at th kk hkk)
                      rw [htk] at hck
                      have hcv := (HSMX.out.v.c kk).trans (arrU_at va kk hkk)
                      have hkI0 : (0 : Int) ≤ (kk : Int) := by omega
                      have hkI1 : (kk : Int) < 256 := by omega
                      have hkI2 : decide ((kk : Int) < 0) = false := decide_eq_false (by omega)
                      have hkI3 : decide (255 < (kk : Int)) = false := decide_eq_false (by omega)
                      go_upto_region 35 with fail
                      go_quiet (fail)
                      go_upto_region 37 with fail
                      obtain ⟨x8, hx8⟩ : ∃ z, z = x7.drewN nq := ⟨_, rfl⟩
                      have HBX : Hid (Below x7.heap.size x7 x8) := Lib.hid (by rw [hx8]; exact drewN_below (Below.refl _ _) _)
                      rw [← hx8]
                      have HSM8 := Lib.hid (HSMX.out.below HBX.out)
                      have HD8 := Lib.hid (HDX.out.below HBX.out)
                      have HG8 := Lib.hid (HGX.out.below HBX.out)
                      have HO8 := Lib.hid (HOX.out.below HBX.out)
                      clear hx8 HBX HSMX HDX HGX HLX HOX kL hck hcv hkI2 hkI3
                      have hra : ra < n := by rw [HRA.out]; exact Nat.mod_lt _ (by omega)
                      go_wp2_with fail
                      go_loopw [23] (fun s23 wr => Below x8.heap.size x8 wr ∧ ∃ t o : Nat, s23 = .int .i64 o ∧ o = ra + t * n ∧ o < 256 + n) (fun s23 _ => 256 + n - (intOf s23).toNat)
                      case atStart => exact ⟨Below.refl _ _, 0, ra, rfl, by omega, by omega⟩
                      case round =>
                        obtain ⟨hbw, t2, o, rfl, ho, hon⟩ := hrel
                        have HBW := Lib.hid hbw
                        have HOO := Lib.hid ho
                        clear hbw ho
                        by_cases ho2 : o < 256
                        · as_aux_lemma =>
                            have hoI : decide ((o : Int) < 256) = true := decide_eq_true (by omega)
                            have hoI0 : (0 : Int) ≤ (o : Int) := by omega
                            have hoI1 : (o : Int) < 256 := by omega
                            have hwo : IntKind.i64.wrap ((o : Int) + (n : Int)) = (o : Int) + (n : Int) := by rw [IntKind.wrap_i64]; omega
                            have HSMR := Lib.hid (HSM8.out.below HBW.out)
                            have hot := (HSMR.out.t.c o).trans (arrB_at th o ho2)
                            have hol := (HSMR.out.l.c o).trans (arrI_at la o ho2)
                            have hkl2 := (HSMR.out.l.c kk).trans (arrI_at la kk hkk)
                            have HOM : Hid (o % n = a % n) := Lib.hid (by rw [HOO.out, HRA.out, Nat.add_mul_mod_self_right, Nat.mod_mod])
                            have HOX : Hid (o + n = ra + (t2 + 1) * n) := Lib.hid (by rw [Nat.succ_mul, HOO.out]; omega)
                            cases hto : th o with
                            | true =>
                              as_aux_lemma =>
                                have hlk := HMIN.out o ho2 HOM.out hto
                                have hlN : decide (la o < la kk) = false := decide_eq_false hlk
                                have hlI : decide ((la o : Int) < (la kk : Int)) = false := decide_eq_false (by omega)
                                rw [hto] at hot
                                clear hlk hto
                                go_upto_region 40 with fail
                                go_quiet (fail)
                                go_wp2_with fail
                                go_roundw
                                case rel => exact ⟨drewN_below HBW.out _, t2 + 1, o + n, by go_num, HOX.out, by omega⟩
                                case measure => simp [intOf]; omega
                            | false =>
                              as_aux_lemma =>
                                rw [hto] at hot
                                clear hto
                                go_upto_region 40 with fail
                                go_quiet (fail)
                                go_wp2_with fail
                                go_roundw
                                case rel => exact ⟨drewN_below HBW.out _, t2 + 1, o + n, by go_num, HOX.out, by omega⟩
                                case measure => simp [intOf]; omega
                        · as_aux_lemma =>
                            have hoI : decide ((o : Int) < 256) = false := decide_eq_false (by omega)
                            have HSM9 := Lib.hid (HSM8.out.below HBW.out)
                            have HD9 := Lib.hid (HD8.out.below HBW.out)
                            have HG9 := Lib.hid (HG8.out.below HBW.out)
                            have HO9 := Lib.hid (HO8.out.below HBW.out)
                            clear HSM8 HD8 HG8 HO8 HBW
                            have ks := (HSM9.out.t.c kk).trans (arrB_at th kk hkk)
                            have kf := HSM9.out.t.f kk
                            have kl := HSM9.out.t.lt
                            go_upto_region 43 with fail
                            have HSM7 := Lib.hid (HSM9.out.setT kk hkk false)
                            have HD7 := Lib.hid (HD9.out.other (B' := b1) (n := kk) (.bool false) (by have g2 := HSM9.out.g2; have g3 := HSM9.out.g3; have := HDG.out; omega))
                            have HG7 := Lib.hid (HG9.out.other (B' := b1) (n := kk) (.bool false) (by have g2 := HSM9.out.g2; have g3 := HSM9.out.g3; have := HGN.out; omega))
                            have HO7 := Lib.hid (HO9.out.set (R := b1) (.inr (.inl rfl)) kk (.bool false))
                            obtain ⟨y7, hy7⟩ : ∃ z, z = wr.setCell ⟨b1, kk, none⟩ (.bool false) := ⟨_, rfl⟩
                            rw [← hy7] at HSM7 HD7 HG7 HO7 ⊢
                            clear hy7 HSM9 HD9 HG9 HO9 ks kf kl
                            go_upto_region 43 with fail
                            obtain ⟨w8, hw8⟩ : ∃ z, z = y7.drew := ⟨_, rfl⟩
                            have HB8 : Hid (Below y7.heap.size y7 w8) := Lib.hid (by rw [hw8]; exact (Below.refl _ _).drew)
                            have HSM8 := Lib.hid (HSM7.out.below HB8.out)
                            have HD8 := Lib.hid (HD7.out.below HB8.out)
                            have HG8 := Lib.hid (HG7.out.below HB8.out)
                            have HO8 := Lib.hid (HO7.out.below HB8.out)
                            clear HB8 HSM7 HD7 HG7 HO7
                            have HS3 : Hid (w8.cell? ⟨g, 3, none⟩ = some (.int .u32 (v : Int))) := Lib.hid (HD8.out.c 3)
                            have HNG : Hid (b1 ≠ g ∧ b2 ≠ g ∧ b3 ≠ g ∧ b1 ≠ b2 ∧ b1 ≠ b3 ∧ b2 ≠ b3 ∧ b ≠ g) := Lib.hid (by have g1 := HSM8.out.g1; have g2 := HSM8.out.g2; have g3 := HSM8.out.g3; have := HDG.out; omega)
                            refine region_plan (fun W : World => W.cell? ⟨g, 3, none⟩ = some (.int .u32 (v : Int))) 11 [(0, true), (1, true), (2, true), (3, true), (4, true), (5, true), (6, true), (7, true), (8, false), (9, true), (10, false)] (by kernel_rfl) (by kernel_rfl) (by rw [← hw8]; exact HS3.out) ?_
                            rw [← hw8]
                            clear hw8
                            iterate 8
                              refine plan_read (v := ?_) rfl (by rfl) ?_ ?_
                              rotate_left
                              · intro w' hS
                                try dsimp only at hS
                                go_simp
                                try with_reducible rfl
                              try simp only [Act.put, List.setIfInBounds_toArray, List.set_cons_zero, List.set_cons_succ, List.getElem_toArray, List.getElem_cons_zero, List.getElem_cons_succ]
                            have ks := (HSM8.out.t.c a).trans (arrB_at _ a ha)
                            have kf := HSM8.out.t.f a
                            have kl := HSM8.out.t.lt
                            refine plan_store (w1 := w8.setCell ⟨b1, a, none⟩ (.bool true)) rfl (by rfl) (by go_simp) ((World.cell?_setCell_other _ _ _ _ (by intro e; injection e with e1; exact HNG.out.1 e1)).trans HS3.out) ?_
                            try simp only [Act.put, List.setIfInBounds_toArray, List.set_cons_zero, List.set_cons_succ, List.getElem_toArray, List.getElem_cons_zero, List.getElem_cons_succ]
                            clear ks kf kl
                            have HSM9 := Lib.hid (HSM8.out.setT a ha true)
                            have HS9 : Hid ((w8.setCell ⟨b1, a, none⟩ (.bool true)).cell? ⟨g, 3, none⟩ = some (.int .u32 (v : Int))) := Lib.hid ((World.cell?_setCell_other _ _ _ _ (by intro e; injection e with e1; exact HNG.out.1 e1)).trans HS3.out)
                            have HG9 := Lib.hid (HG8.out.other (B' := b1) (n := a) (.bool true) (by have := HGN.out; have g2 := HSM8.out.g2; have g3 := HSM8.out.g3; omega))
                            have HO9 := Lib.hid (HO8.out.set (R := b1) (.inr (.inl rfl)) a (.bool true))
                            obtain ⟨w9, hw9⟩ : ∃ z, z = w8.setCell ⟨b1, a, none⟩ (.bool true) := ⟨_, rfl⟩
                            rw [← hw9] at HSM9 HS9 HG9 HO9 ⊢
                            clear hw9 HSM8 HG8 HO8 HS3 HD8
                            iterate 1
                              refine plan_read (v := ?_) rfl (by rfl) ?_ ?_
                              rotate_left
                              · intro w' hS
                                try dsimp only at hS
                                go_simp
                                try with_reducible rfl
                              try simp only [Act.put, List.setIfInBounds_toArray, List.set_cons_zero, List.set_cons_succ, List.getElem_toArray, List.getElem_cons_zero, List.getElem_cons_succ]
                            have ks := (HSM9.out.v.c a).trans (arrU_at _ a ha)
                            have kf := HSM9.out.v.f a
                            have kl := HSM9.out.v.lt
                            refine plan_store (w1 := w9.setCell ⟨b2, a, none⟩ (.int .u32 (v : Int))) rfl (by rfl) (by go_simp) ((World.cell?_setCell_other _ _ _ _ (by intro e; injection e with e1; exact HNG.out.2.1 e1)).trans HS9.out) ?_
                            try simp only [Act.put, List.setIfInBounds_toArray, List.set_cons_zero, List.set_cons_succ, List.getElem_toArray, List.getElem_cons_zero, List.getElem_cons_succ]
                            clear ks kf kl
                            have HSM10 := Lib.hid (HSM9.out.setV a ha v)
                            have HG10 := Lib.hid (HG9.out.other (B' := b2) (n := a) (.int .u32 (v : Int)) (by have := HGN.out; have g3 := HSM9.out.g3; omega))
                            have HO10 := Lib.hid (HO9.out.set (R := b2) (.inr (.inr (.inl rfl))) a (.int .u32 (v : Int)))
                            obtain ⟨w10, hw10⟩ : ∃ z, z = w9.setCell ⟨b2, a, none⟩ (.int .u32 (v : Int)) := ⟨_, rfl⟩
                            rw [← hw10] at HSM10 HG10 HO10 ⊢
                            clear hw10 HSM9 HG9 HO9 HS9
                            refine plan_nil ?_
                            simp only [List.drop_succ_cons, List.drop_zero]
                            have ks := (HSM10.out.l.c a).trans (arrI_at _ a ha)
                            have kf := HSM10.out.l.f a
                            have kl := HSM10.out.l.lt
                            go_upto_region 44 with fail
                            have HSM11 := Lib.hid (HSM10.out.setL a ha (k + 1))
                            rw [show ((k + 1 : Nat) : Int) = (k : Int) + 1 by omega] at HSM11
                            have HG11 := Lib.hid (HG10.out.other (B' := b3) (n := a) (.int .i64 ((k : Int) + 1)) (by have := HGN.out; omega))
                            have HO11 := Lib.hid (HO10.out.set (R := b3) (.inr (.inr (.inr rfl))) a (.int .i64 ((k : Int) + 1)))
                            obtain ⟨w11, hw11⟩ : ∃ z, z = w10.setCell ⟨b3, a, none⟩ (.int .i64 ((k : Int) + 1)) := ⟨_, rfl⟩
                            rw [← hw11] at HSM11 HG11 HO11 ⊢
                            clear hw11 HSM10 HG10 HO10 ks kf kl
                            obtain ⟨_, _, _, _, hkb, _⟩ := HSM11.out.c
                            have kcb := hkb.c
                            have kfb := hkb.f
                            have klb := hkb.lt
                            have kg := HG11.out.c
                            go_upto_region 52 with fail
                            clear hkb kcb kfb klb kg
                            have HSM12 := Lib.hid (HSM11.out.cache HO11.out)
                            obtain ⟨w12, hw12⟩ : ∃ z, z = (((w11.setCell ⟨b, 0, none⟩ (.int .i64 C1.sets)).setCell ⟨b, 1, none⟩ (.int .i64 C1.ways)).setCell ⟨b, 2, none⟩ (.int .i64 C1.clock)).setCell ⟨b, 3, none⟩ (.slice p2 n2 c2) := ⟨_, rfl⟩
                            rw [← hw12] at HSM12 ⊢
                            clear hw12 HSM11 HG11 HO11
                            obtain ⟨p3, n3, c3, xs3, hk3, hcc3, hoff3⟩ := HSM12.out.c
                            have kc3 := hk3.c
                            have hright := right_any (S4 b b1 b2 b3) _ C1 w12 ⟨_, _, _, _, rfl, hcc3, hoff3⟩
                            rw [HMD1.out.rt.b] at hright
                            have HRIGHT := Lib.hid hright
                            clear hright hk3 hcc3 hoff3
                            go_wp2_with fail
                            refine HRIGHT.out.mono ?_
                            clear HRIGHT kc3
                            rintro e wz ⟨rfl, hbz⟩
                            have HSMZ := Lib.hid (HSM12.out.below hbz)
                            clear hbz
                            go_wp2_with fail
                            go_roundw
                            case rel => exact ⟨k + 1, by omega, by omega, by go_num, C1, _, _, _, HMD1.out, HSMZ.out⟩
                            case measure => simp [intOf]; omega
        · as_aux_lemma =>
            -- use
            have huu := HMD.out.use a ha (by omega)
            cases hta2 : th a with
            | true =>
              as_aux_lemma =>
                obtain ⟨hE, hmd1⟩ := huu.1 hta2
                clear huu
                obtain ⟨p1, n1, c1, xs1, hk1, hcc1, hoff1⟩ := HSM5.out.c
                have kc1 := hk1.c
                have huse := use_any (S4 b b1 b2 b3) _ C a w5 ⟨_, _, _, _, rfl, hcc1, hoff1⟩ HSM5.out.lt
                rw [hE] at huse
                obtain ⟨C1, hC1⟩ : ∃ z, z = useC C a := ⟨_, rfl⟩
                rw [← hC1] at huse hmd1
                have HUSE := Lib.hid huse
                have HMD1 := Lib.hid hmd1
                clear hk1 hcc1 hoff1 huse hmd1 hE hC1
                go_wp2_with fail
                refine HUSE.out.mono ?_
                clear HUSE kc1
                rintro e w6 ⟨v6, rfl, ⟨p2, n2, c2, xs2, rfl, hcc2, hoff2⟩, hb6⟩
                have HSM6 := Lib.hid (HSM5.out.below hb6)
                have HO6 : Hid (Co (S4 b b1 b2 b3) w6 (.agg #[.int .i64 C1.sets, .int .i64 C1.ways, .int .i64 C1.clock, .slice p2 n2 c2]) C1) := Lib.hid ⟨_, _, _, _, rfl, hcc2, hoff2⟩
                clear hcc2 hoff2 hb6 HSM5 HD hcd
                go_upto_region 47 with fail
                obtain ⟨w7, hw7⟩ : ∃ z, z = w6.alloc (.cells #[.int .i64 C1.sets, .int .i64 C1.ways, .int .i64 C1.clock, .slice p2 n2 c2] 24) := ⟨_, rfl⟩
                have HB7 : Hid (Below w6.heap.size w6 w7) := Lib.hid (by rw [hw7]; exact (Below.refl _ _).alloc (Nat.le_refl _) _)
                have HG7 : Hid (Blk w7 w6.heap.size #[.int .i64 C1.sets, .int .i64 C1.ways, .int .i64 C1.clock, .slice p2 n2 c2]) := Lib.hid (by rw [hw7]; exact Blk.new _ _ _)
                have HSM7 := Lib.hid (HSM6.out.below HB7.out)
                have HO7 := Lib.hid (HO6.out.below HB7.out)
                have HGN : Hid (b3 < w6.heap.size) := Lib.hid HSM6.out.l.lt
                obtain ⟨g1, hg1⟩ : ∃ z, z = w6.heap.size := ⟨_, rfl⟩
                rw [← hw7]
                rw [← hg1] at HG7 HGN ⊢
                clear hw7 hg1 HB7 HSM6 HO6
                have hct := (HSM7.out.t.c a).trans (arrB_at th a ha)
                have haI0 : (0 : Int) ≤ (a : Int) := by omega
                have haI1 : (a : Int) < 256 := by omega
                rw [hta2] at hct
                clear hta2
                have ks := (HSM7.out.l.c a).trans (arrI_at la a ha)
                have kf := HSM7.out.l.f a
                have kl := HSM7.out.l.lt
                go_upto_region 51 with fail
                have HSM11 := Lib.hid (HSM7.out.setL a ha (k + 1))
                rw [show ((k + 1 : Nat) : Int) = (k : Int) + 1 by omega] at HSM11
                have HG11 := Lib.hid (HG7.out.other (B' := b3) (n := a) (.int .i64 ((k : Int) + 1)) (by have := HGN.out; omega))
                have HO11 := Lib.hid (HO7.out.set (R := b3) (.inr (.inr (.inr rfl))) a (.int .i64 ((k : Int) + 1)))
                obtain ⟨w11, hw11⟩ : ∃ z, z = w7.setCell ⟨b3, a, none⟩ (.int .i64 ((k : Int) + 1)) := ⟨_, rfl⟩
                rw [← hw11] at HSM11 HG11 HO11 ⊢
                clear hw11 HSM7 HG7 HO7 ks kf kl hct
                obtain ⟨_, _, _, _, hkb, _⟩ := HSM11.out.c
                have kcb := hkb.c
                have kfb := hkb.f
                have klb := hkb.lt
                have kg := HG11.out.c
                go_upto_region 52 with fail
                clear hkb kcb kfb klb kg
                have HSM12 := Lib.hid (HSM11.out.cache HO11.out)
                obtain ⟨w12, hw12⟩ : ∃ z, z = (((w11.setCell ⟨b, 0, none⟩ (.int .i64 C1.sets)).setCell ⟨b, 1, none⟩ (.int .i64 C1.ways)).setCell ⟨b, 2, none⟩ (.int .i64 C1.clock)).setCell ⟨b, 3, none⟩ (.slice p2 n2 c2) := ⟨_, rfl⟩
                rw [← hw12] at HSM12 ⊢
                clear hw12 HSM11 HG11 HO11
                obtain ⟨p3, n3, c3, xs3, hk3, hcc3, hoff3⟩ := HSM12.out.c
                have kc3 := hk3.c
                have hright := right_any (S4 b b1 b2 b3) _ C1 w12 ⟨_, _, _, _, rfl, hcc3, hoff3⟩
                rw [HMD1.out.rt.b] at hright
                have HRIGHT := Lib.hid hright
                clear hright hk3 hcc3 hoff3
                go_wp2_with fail
                refine HRIGHT.out.mono ?_
                clear HRIGHT kc3
                rintro e wz ⟨rfl, hbz⟩
                have HSMZ := Lib.hid (HSM12.out.below hbz)
                clear hbz
                go_wp2_with fail
                go_roundw
                case rel => exact ⟨k + 1, by omega, by omega, by go_num, C1, _, _, _, HMD1.out, HSMZ.out⟩
                case measure => simp [intOf]; omega
            | false =>
              as_aux_lemma =>
                obtain ⟨hE, hCC⟩ := huu.2 hta2
                have hmd1 := HMD.out.stay
                rw [← hCC] at hmd1
                clear huu hCC
                obtain ⟨p1, n1, c1, xs1, hk1, hcc1, hoff1⟩ := HSM5.out.c
                have kc1 := hk1.c
                have huse := use_any (S4 b b1 b2 b3) _ C a w5 ⟨_, _, _, _, rfl, hcc1, hoff1⟩ HSM5.out.lt
                rw [hE] at huse
                obtain ⟨C1, hC1⟩ : ∃ z, z = useC C a := ⟨_, rfl⟩
                rw [← hC1] at huse hmd1
                have HUSE := Lib.hid huse
                have HMD1 := Lib.hid hmd1
                clear hk1 hcc1 hoff1 huse hmd1 hE hC1
                go_wp2_with fail
                refine HUSE.out.mono ?_
                clear HUSE kc1
                rintro e w6 ⟨v6, rfl, ⟨p2, n2, c2, xs2, rfl, hcc2, hoff2⟩, hb6⟩
                have HSM6 := Lib.hid (HSM5.out.below hb6)
                have HO6 : Hid (Co (S4 b b1 b2 b3) w6 (.agg #[.int .i64 C1.sets, .int .i64 C1.ways, .int .i64 C1.clock, .slice p2 n2 c2]) C1) := Lib.hid ⟨_, _, _, _, rfl, hcc2, hoff2⟩
                clear hcc2 hoff2 hb6 HSM5 HD hcd
                go_upto_region 47 with fail
                obtain ⟨w7, hw7⟩ : ∃ z, z = w6.alloc (.cells #[.int .i64 C1.sets, .int .i64 C1.ways, .int .i64 C1.clock, .slice p2 n2 c2] 24) := ⟨_, rfl⟩
                have HB7 : Hid (Below w6.heap.size w6 w7) := Lib.hid (by rw [hw7]; exact (Below.refl _ _).alloc (Nat.le_refl _) _)
                have HG7 : Hid (Blk w7 w6.heap.size #[.int .i64 C1.sets, .int .i64 C1.ways, .int .i64 C1.clock, .slice p2 n2 c2]) := Lib.hid (by rw [hw7]; exact Blk.new _ _ _)
                have HSM7 := Lib.hid (HSM6.out.below HB7.out)
                have HO7 := Lib.hid (HO6.out.below HB7.out)
                have HGN : Hid (b3 < w6.heap.size) := Lib.hid HSM6.out.l.lt
                obtain ⟨g1, hg1⟩ : ∃ z, z = w6.heap.size := ⟨_, rfl⟩
                rw [← hw7]
                rw [← hg1] at HG7 HGN ⊢
                clear hw7 hg1 HB7 HSM6 HO6
                have hct := (HSM7.out.t.c a).trans (arrB_at th a ha)
                have haI0 : (0 : Int) ≤ (a : Int) := by omega
                have haI1 : (a : Int) < 256 := by omega
                rw [hta2] at hct
                clear hta2
                go_upto_region 51 with fail
                clear hct
                obtain ⟨_, _, _, _, hkb, _⟩ := HSM7.out.c
                have kcb := hkb.c
                have kfb := hkb.f
                have klb := hkb.lt
                have kg := HG7.out.c
                go_upto_region 52 with fail
                clear hkb kcb kfb klb kg
                have HSM12 := Lib.hid (HSM7.out.cache HO7.out)
                obtain ⟨w12, hw12⟩ : ∃ z, z = (((w7.setCell ⟨b, 0, none⟩ (.int .i64 C1.sets)).setCell ⟨b, 1, none⟩ (.int .i64 C1.ways)).setCell ⟨b, 2, none⟩ (.int .i64 C1.clock)).setCell ⟨b, 3, none⟩ (.slice p2 n2 c2) := ⟨_, rfl⟩
                rw [← hw12] at HSM12 ⊢
                clear hw12 HSM7 HG7 HO7
                obtain ⟨p3, n3, c3, xs3, hk3, hcc3, hoff3⟩ := HSM12.out.c
                have kc3 := hk3.c
                have hright := right_any (S4 b b1 b2 b3) _ C1 w12 ⟨_, _, _, _, rfl, hcc3, hoff3⟩
                rw [HMD1.out.rt.b] at hright
                have HRIGHT := Lib.hid hright
                clear hright hk3 hcc3 hoff3
                go_wp2_with fail
                refine HRIGHT.out.mono ?_
                clear HRIGHT kc3
                rintro e wz ⟨rfl, hbz⟩
                have HSMZ := Lib.hid (HSM12.out.below hbz)
                clear hbz
                go_wp2_with fail
                go_roundw
                case rel => exact ⟨k + 1, by omega, by omega, by go_num, C1, _, _, _, HMD1.out, HSMZ.out⟩
                case measure => simp [intOf]; omega
        · as_aux_lemma =>
            -- drop
            have huu := HMD.out.drop a ha
            cases hta2 : th a with
            | true =>
              as_aux_lemma =>
                obtain ⟨hE, hmd1⟩ := huu
                rw [hta2, if_pos rfl] at hE
                obtain ⟨p1, n1, c1, xs1, hk1, hcc1, hoff1⟩ := HSM5.out.c
                have kc1 := hk1.c
                have huse := drop_any (S4 b b1 b2 b3) _ C a w5 ⟨_, _, _, _, rfl, hcc1, hoff1⟩ HSM5.out.lt
                rw [hE] at huse
                obtain ⟨C1, hC1⟩ : ∃ z, z = dropC C a := ⟨_, rfl⟩
                rw [← hC1] at huse hmd1
                have HUSE := Lib.hid huse
                have HMD1 := Lib.hid hmd1
                clear hk1 hcc1 hoff1 huse hmd1 hE hC1
                go_wp2_with fail
                refine HUSE.out.mono ?_
                clear HUSE kc1
                rintro e w6 ⟨v6, rfl, ⟨p2, n2, c2, xs2, rfl, hcc2, hoff2⟩, hb6⟩
                have HSM6 := Lib.hid (HSM5.out.below hb6)
                have HO6 : Hid (Co (S4 b b1 b2 b3) w6 (.agg #[.int .i64 C1.sets, .int .i64 C1.ways, .int .i64 C1.clock, .slice p2 n2 c2]) C1) := Lib.hid ⟨_, _, _, _, rfl, hcc2, hoff2⟩
                clear hcc2 hoff2 hb6 HSM5 HD hcd
                go_upto_region 17 with fail
                obtain ⟨w7, hw7⟩ : ∃ z, z = w6.alloc (.cells #[.int .i64 C1.sets, .int .i64 C1.ways, .int .i64 C1.clock, .slice p2 n2 c2] 24) := ⟨_, rfl⟩
                have HB7 : Hid (Below w6.heap.size w6 w7) := Lib.hid (by rw [hw7]; exact (Below.refl _ _).alloc (Nat.le_refl _) _)
                have HG7 : Hid (Blk w7 w6.heap.size #[.int .i64 C1.sets, .int .i64 C1.ways, .int .i64 C1.clock, .slice p2 n2 c2]) := Lib.hid (by rw [hw7]; exact Blk.new _ _ _)
                have HSM7 := Lib.hid (HSM6.out.below HB7.out)
                have HO7 := Lib.hid (HO6.out.below HB7.out)
                have HGN : Hid (b3 < w6.heap.size) := Lib.hid HSM6.out.l.lt
                obtain ⟨g1, hg1⟩ : ∃ z, z = w6.heap.size := ⟨_, rfl⟩
                rw [← hw7]
                rw [← hg1] at HG7 HGN ⊢
                clear hw7 hg1 HB7 HSM6 HO6
                have hct := (HSM7.out.t.c a).trans (arrB_at th a ha)
                have haI0 : (0 : Int) ≤ (a : Int) := by omega
                have haI1 : (a : Int) < 256 := by omega
                rw [hta2] at hct
                clear hta2
                have ks := (HSM7.out.t.c a).trans (arrB_at th a ha)
                have kf := HSM7.out.t.f a
                have kl := HSM7.out.t.lt
                go_upto_region 20 with fail
                have HSM11 := Lib.hid (HSM7.out.setT a ha false)
                have HG11 := Lib.hid (HG7.out.other (B' := b1) (n := a) (.bool false) (by have := HGN.out; have g2 := HSM7.out.g2; have g3 := HSM7.out.g3; omega))
                have HO11 := Lib.hid (HO7.out.set (R := b1) (.inr (.inl rfl)) a (.bool false))
                obtain ⟨w11, hw11⟩ : ∃ z, z = w7.setCell ⟨b1, a, none⟩ (.bool false) := ⟨_, rfl⟩
                rw [← hw11] at HSM11 HG11 HO11 ⊢
                clear hw11 HSM7 HG7 HO7 ks kf kl hct
                obtain ⟨_, _, _, _, hkb, _⟩ := HSM11.out.c
                have kcb := hkb.c
                have kfb := hkb.f
                have klb := hkb.lt
                have kg := HG11.out.c
                go_upto_region 52 with fail
                clear hkb kcb kfb klb kg
                have HSM12 := Lib.hid (HSM11.out.cache HO11.out)
                obtain ⟨w12, hw12⟩ : ∃ z, z = (((w11.setCell ⟨b, 0, none⟩ (.int .i64 C1.sets)).setCell ⟨b, 1, none⟩ (.int .i64 C1.ways)).setCell ⟨b, 2, none⟩ (.int .i64 C1.clock)).setCell ⟨b, 3, none⟩ (.slice p2 n2 c2) := ⟨_, rfl⟩
                rw [← hw12] at HSM12 ⊢
                clear hw12 HSM11 HG11 HO11
                obtain ⟨p3, n3, c3, xs3, hk3, hcc3, hoff3⟩ := HSM12.out.c
                have kc3 := hk3.c
                have hright := right_any (S4 b b1 b2 b3) _ C1 w12 ⟨_, _, _, _, rfl, hcc3, hoff3⟩
                rw [HMD1.out.rt.b] at hright
                have HRIGHT := Lib.hid hright
                clear hright hk3 hcc3 hoff3
                go_wp2_with fail
                refine HRIGHT.out.mono ?_
                clear HRIGHT kc3
                rintro e wz ⟨rfl, hbz⟩
                have HSMZ := Lib.hid (HSM12.out.below hbz)
                clear hbz
                go_wp2_with fail
                go_roundw
                case rel => exact ⟨k + 1, by omega, by omega, by go_num, C1, _, _, _, HMD1.out, HSMZ.out⟩
                case measure => simp [intOf]; omega
            | false =>
              as_aux_lemma =>
                obtain ⟨hE, hmd1⟩ := huu
                rw [hta2, if_neg (by decide)] at hE
                obtain ⟨p1, n1, c1, xs1, hk1, hcc1, hoff1⟩ := HSM5.out.c
                have kc1 := hk1.c
                have huse := drop_any (S4 b b1 b2 b3) _ C a w5 ⟨_, _, _, _, rfl, hcc1, hoff1⟩ HSM5.out.lt
                rw [hE] at huse
                obtain ⟨C1, hC1⟩ : ∃ z, z = dropC C a := ⟨_, rfl⟩
                rw [← hC1] at huse hmd1
                have HUSE := Lib.hid huse
                have HMD1 := Lib.hid hmd1
                clear hk1 hcc1 hoff1 huse hmd1 hE hC1
                go_wp2_with fail
                refine HUSE.out.mono ?_
                clear HUSE kc1
                rintro e w6 ⟨v6, rfl, ⟨p2, n2, c2, xs2, rfl, hcc2, hoff2⟩, hb6⟩
                have HSM6 := Lib.hid (HSM5.out.below hb6)
                have HO6 : Hid (Co (S4 b b1 b2 b3) w6 (.agg #[.int .i64 C1.sets, .int .i64 C1.ways, .int .i64 C1.clock, .slice p2 n2 c2]) C1) := Lib.hid ⟨_, _, _, _, rfl, hcc2, hoff2⟩
                clear hcc2 hoff2 hb6 HSM5 HD hcd
                go_upto_region 17 with fail
                obtain ⟨w7, hw7⟩ : ∃ z, z = w6.alloc (.cells #[.int .i64 C1.sets, .int .i64 C1.ways, .int .i64 C1.clock, .slice p2 n2 c2] 24) := ⟨_, rfl⟩
                have HB7 : Hid (Below w6.heap.size w6 w7) := Lib.hid (by rw [hw7]; exact (Below.refl _ _).alloc (Nat.le_refl _) _)
                have HG7 : Hid (Blk w7 w6.heap.size #[.int .i64 C1.sets, .int .i64 C1.ways, .int .i64 C1.clock, .slice p2 n2 c2]) := Lib.hid (by rw [hw7]; exact Blk.new _ _ _)
                have HSM7 := Lib.hid (HSM6.out.below HB7.out)
                have HO7 := Lib.hid (HO6.out.below HB7.out)
                have HGN : Hid (b3 < w6.heap.size) := Lib.hid HSM6.out.l.lt
                obtain ⟨g1, hg1⟩ : ∃ z, z = w6.heap.size := ⟨_, rfl⟩
                rw [← hw7]
                rw [← hg1] at HG7 HGN ⊢
                clear hw7 hg1 HB7 HSM6 HO6
                have hct := (HSM7.out.t.c a).trans (arrB_at th a ha)
                have haI0 : (0 : Int) ≤ (a : Int) := by omega
                have haI1 : (a : Int) < 256 := by omega
                rw [hta2] at hct
                clear hta2
                have ks := (HSM7.out.t.c a).trans (arrB_at th a ha)
                have kf := HSM7.out.t.f a
                have kl := HSM7.out.t.lt
                go_upto_region 20 with fail
                have HSM11 := Lib.hid (HSM7.out.setT a ha false)
                have HG11 := Lib.hid (HG7.out.other (B' := b1) (n := a) (.bool false) (by have := HGN.out; have g2 := HSM7.out.g2; have g3 := HSM7.out.g3; omega))
                have HO11 := Lib.hid (HO7.out.set (R := b1) (.inr (.inl rfl)) a (.bool false))
                obtain ⟨w11, hw11⟩ : ∃ z, z = w7.setCell ⟨b1, a, none⟩ (.bool false) := ⟨_, rfl⟩
                rw [← hw11] at HSM11 HG11 HO11 ⊢
                clear hw11 HSM7 HG7 HO7 ks kf kl hct
                obtain ⟨_, _, _, _, hkb, _⟩ := HSM11.out.c
                have kcb := hkb.c
                have kfb := hkb.f
                have klb := hkb.lt
                have kg := HG11.out.c
                go_upto_region 52 with fail
                clear hkb kcb kfb klb kg
                have HSM12 := Lib.hid (HSM11.out.cache HO11.out)
                obtain ⟨w12, hw12⟩ : ∃ z, z = (((w11.setCell ⟨b, 0, none⟩ (.int .i64 C1.sets)).setCell ⟨b, 1, none⟩ (.int .i64 C1.ways)).setCell ⟨b, 2, none⟩ (.int .i64 C1.clock)).setCell ⟨b, 3, none⟩ (.slice p2 n2 c2) := ⟨_, rfl⟩
                rw [← hw12] at HSM12 ⊢
                clear hw12 HSM11 HG11 HO11
                obtain ⟨p3, n3, c3, xs3, hk3, hcc3, hoff3⟩ := HSM12.out.c
                have kc3 := hk3.c
                have hright := right_any (S4 b b1 b2 b3) _ C1 w12 ⟨_, _, _, _, rfl, hcc3, hoff3⟩
                rw [HMD1.out.rt.b] at hright
                have HRIGHT := Lib.hid hright
                clear hright hk3 hcc3 hoff3
                go_wp2_with fail
                refine HRIGHT.out.mono ?_
                clear HRIGHT kc3
                rintro e wz ⟨rfl, hbz⟩
                have HSMZ := Lib.hid (HSM12.out.below hbz)
                clear hbz
                go_wp2_with fail
                go_roundw
                case rel => exact ⟨k + 1, by omega, by omega, by go_num, C1, _, _, _, HMD1.out, HSMZ.out⟩
                case measure => simp [intOf]; omega
      · as_aux_lemma =>
          rw [decide_eq_false hgo]
          go_wp2_with fail
          obtain ⟨W2, hW2⟩ : ∃ W, W = wr := ⟨_, rfl⟩
          rw [← hW2] at HSM ⊢
          clear hW2
          go_loopw [28, 29] (fun s28 s29 wr => ∃ j : Nat, j ≤ 256 ∧ s28 = .int .i64 (cntA th j) ∧ s29 = .int .i64 j ∧ Sm w wr b b1 b2 b3 C th va la) (fun _ s29 _ => 256 - (intOf s29).toNat)
          case atStart => exact ⟨0, by decide, rfl, rfl, HSM.out⟩
          case round =>
            clear HSM
            obtain ⟨j, hj, rfl, rfl, hsm⟩ := hrel
            have HSM := Lib.hid hsm
            clear hsm
            have hcu := cntA_le th j
            have hstep := cntA_succ th j
            obtain ⟨u, hu⟩ : ∃ u, u = cntA th j := ⟨_, rfl⟩
            rw [← hu] at hcu hstep ⊢
            have HU := Lib.hid hu
            clear hu
            by_cases hj256 : j < 256
            · as_aux_lemma =>
                have hjI : decide ((j : Int) < 256) = true := decide_eq_true (by omega)
                have hjI0 : (0 : Int) ≤ (j : Int) := by omega
                have hjI1 : (j : Int) < 256 := by omega
                have hwu : IntKind.i64.wrap ((u : Int) + 1) = (u : Int) + 1 := by rw [IntKind.wrap_i64]; omega
                have hhas := HMD.out.has j hj256
                cases htj : th j with
                | true =>
                  as_aux_lemma =>
                    rw [htj] at hstep
                    have HST := Lib.hid hstep
                    clear hstep
                    obtain ⟨p1, n1, c1, xs1, hk1, hcc1, hoff1⟩ := HSM.out.c
                    have kc1 := hk1.c
                    have hl := look_any (S4 b b1 b2 b3) _ C j wr ⟨_, _, _, _, rfl, hcc1, hoff1⟩
                    rw [hhas, htj] at hl
                    have hlk := HMD.out.look j hj256 htj
                    obtain ⟨⟨ya, ys, yv, yu⟩, hy⟩ : ∃ y, lookC C j = y := ⟨_, rfl⟩
                    rw [hy] at hl
                    dsimp only at hl
                    rw [hy] at hlk
                    dsimp only at hlk
                    subst hlk
                    have HL := Lib.hid hl
                    clear hk1 hcc1 hoff1 hl hhas hy
                    go_wp2_with fail
                    refine HL.out.mono ?_
                    clear HL kc1
                    rintro e w6 ⟨rfl, hb6⟩
                    have HSM6 := Lib.hid (HSM.out.below hb6)
                    clear hb6 HSM
                    go_upto_region 59 with fail
                    obtain ⟨w7, hw7⟩ : ∃ z, z = w6.alloc (.cells #[.int .i64 ya, .int .i64 ys, .int .u32 (va j : Int), .int .i64 yu] 30) := ⟨_, rfl⟩
                    have HB7 : Hid (Below w6.heap.size w6 w7) := Lib.hid (by rw [hw7]; exact (Below.refl _ _).alloc (Nat.le_refl _) _)
                    have HL7 : Hid (Blk w7 w6.heap.size #[.int .i64 ya, .int .i64 ys, .int .u32 (va j : Int), .int .i64 yu]) := Lib.hid (by rw [hw7]; exact Blk.new _ _ _)
                    have HSM7 := Lib.hid (HSM6.out.below HB7.out)
                    rw [← hw7]
                    obtain ⟨G, hG⟩ : ∃ G, G = w6.heap.size := ⟨_, rfl⟩
                    rw [← hG] at HL7 ⊢
                    clear hw7 HB7 HSM6 hG
                    have hct := (HSM7.out.t.c j).trans (arrB_at th j hj256)
                    have hcv := (HSM7.out.v.c j).trans (arrU_at va j hj256)
                    rw [htj] at hct
                    have kL := HL7.out.c
                    refine region_plan (fun W : World => W = w7.drew) 15 [(0, true), (1, true), (2, true), (3, true), (4, true), (5, true), (6, true), (7, true), (8, true), (9, true), (10, true), (11, true), (12, true), (13, true), (14, true)] (by kernel_rfl) (by kernel_rfl) rfl ?_
                    iterate 15
                      refine plan_read (v := ?_) rfl (by rfl) ?_ ?_
                      rotate_left
                      · intro w' hS
                        try dsimp only at hS
                        go_simp
                        try with_reducible rfl
                      try simp only [Act.put, List.setIfInBounds_toArray, List.set_cons_zero, List.set_cons_succ, List.getElem_toArray, List.getElem_cons_zero, List.getElem_cons_succ]
                    refine plan_nil ?_
                    simp only [List.drop_succ_cons, List.drop_zero]
                    go_wp2_with fail
                    obtain ⟨w8, hw8⟩ : ∃ z, z = w7.drew := ⟨_, rfl⟩
                    have HSM8 : Hid (Sm w w8 b b1 b2 b3 C th va la) := Lib.hid (by rw [hw8]; exact HSM7.out.below (Below.refl _ _).drew)
                    rw [← hw8]
                    clear hw8 HSM7 HL7 hct hcv kL
                    go_roundw
                    case rel => exact ⟨j + 1, by omega, by rw [HST.out]; go_num, by go_num, HSM8.out⟩
                    case measure => simp [intOf]; omega
                | false =>
                  as_aux_lemma =>
                    rw [htj] at hstep
                    have HST := Lib.hid hstep
                    clear hstep
                    obtain ⟨p1, n1, c1, xs1, hk1, hcc1, hoff1⟩ := HSM.out.c
                    have kc1 := hk1.c
                    have hl := look_any (S4 b b1 b2 b3) _ C j wr ⟨_, _, _, _, rfl, hcc1, hoff1⟩
                    rw [hhas, htj] at hl
                    obtain ⟨⟨ya, ys, yv, yu⟩, hy⟩ : ∃ y, lookC C j = y := ⟨_, rfl⟩
                    rw [hy] at hl
                    dsimp only at hl
                    have HL := Lib.hid hl
                    clear hk1 hcc1 hoff1 hl hhas hy
                    go_wp2_with fail
                    refine HL.out.mono ?_
                    clear HL kc1
                    rintro e w6 ⟨rfl, hb6⟩
                    have HSM6 := Lib.hid (HSM.out.below hb6)
                    clear hb6 HSM
                    go_upto_region 59 with fail
                    obtain ⟨w7, hw7⟩ : ∃ z, z = w6.alloc (.cells #[.int .i64 ya, .int .i64 ys, .int .u32 (yv : Int), .int .i64 yu] 30) := ⟨_, rfl⟩
                    have HB7 : Hid (Below w6.heap.size w6 w7) := Lib.hid (by rw [hw7]; exact (Below.refl _ _).alloc (Nat.le_refl _) _)
                    have HL7 : Hid (Blk w7 w6.heap.size #[.int .i64 ya, .int .i64 ys, .int .u32 (yv : Int), .int .i64 yu]) := Lib.hid (by rw [hw7]; exact Blk.new _ _ _)
                    have HSM7 := Lib.hid (HSM6.out.below HB7.out)
                    rw [← hw7]
                    obtain ⟨G, hG⟩ : ∃ G, G = w6.heap.size := ⟨_, rfl⟩
                    rw [← hG] at HL7 ⊢
                    clear hw7 HB7 HSM6 hG
                    have hct := (HSM7.out.t.c j).trans (arrB_at th j hj256)
                    have hcv := (HSM7.out.v.c j).trans (arrU_at va j hj256)
                    rw [htj] at hct
                    have kL := HL7.out.c
                    refine region_plan (fun W : World => W = w7.drew) 15 [(0, true), (1, true), (2, true), (3, true), (4, true), (5, true), (6, true), (7, true), (8, true), (9, true), (10, true), (11, true), (12, true), (13, true), (14, true)] (by kernel_rfl) (by kernel_rfl) rfl ?_
                    iterate 8
                      refine plan_read (v := ?_) rfl (by rfl) ?_ ?_
                      rotate_left
                      · intro w' hS
                        try dsimp only at hS
                        go_simp
                        try with_reducible rfl
                      try simp only [Act.put, List.setIfInBounds_toArray, List.set_cons_zero, List.set_cons_succ, List.getElem_toArray, List.getElem_cons_zero, List.getElem_cons_succ]
                    refine plan_skip rfl (by rfl) ?_
                    try simp only [Act.put, List.setIfInBounds_toArray, List.set_cons_zero, List.set_cons_succ, List.getElem_toArray, List.getElem_cons_zero, List.getElem_cons_succ]
                    refine plan_skip rfl (by rfl) ?_
                    try simp only [Act.put, List.setIfInBounds_toArray, List.set_cons_zero, List.set_cons_succ, List.getElem_toArray, List.getElem_cons_zero, List.getElem_cons_succ]
                    refine plan_skip rfl (by rfl) ?_
                    try simp only [Act.put, List.setIfInBounds_toArray, List.set_cons_zero, List.set_cons_succ, List.getElem_toArray, List.getElem_cons_zero, List.getElem_cons_succ]
                    refine plan_skip rfl (by rfl) ?_
                    try simp only [Act.put, List.setIfInBounds_toArray, List.set_cons_zero, List.set_cons_succ, List.getElem_toArray, List.getElem_cons_zero, List.getElem_cons_succ]
                    refine plan_skip rfl (by rfl) ?_
                    try simp only [Act.put, List.setIfInBounds_toArray, List.set_cons_zero, List.set_cons_succ, List.getElem_toArray, List.getElem_cons_zero, List.getElem_cons_succ]
                    refine plan_skip rfl (by rfl) ?_
                    try simp only [Act.put, List.setIfInBounds_toArray, List.set_cons_zero, List.set_cons_succ, List.getElem_toArray, List.getElem_cons_zero, List.getElem_cons_succ]
                    iterate 1
                      refine plan_read (v := ?_) rfl (by rfl) ?_ ?_
                      rotate_left
                      · intro w' hS
                        try dsimp only at hS
                        go_simp
                        try with_reducible rfl
                      try simp only [Act.put, List.setIfInBounds_toArray, List.set_cons_zero, List.set_cons_succ, List.getElem_toArray, List.getElem_cons_zero, List.getElem_cons_succ]
                    refine plan_nil ?_
                    simp only [List.drop_succ_cons, List.drop_zero]
                    go_wp2_with fail
                    obtain ⟨w8, hw8⟩ : ∃ z, z = w7.drew := ⟨_, rfl⟩
                    have HSM8 : Hid (Sm w w8 b b1 b2 b3 C th va la) := Lib.hid (by rw [hw8]; exact HSM7.out.below (Below.refl _ _).drew)
                    rw [← hw8]
                    clear hw8 HSM7 HL7 hct hcv kL
                    go_roundw
                    case rel => exact ⟨j + 1, by omega, by rw [HST.out]; go_num, by go_num, HSM8.out⟩
                    case measure => simp [intOf]; omega
            · as_aux_lemma =>
                have hjI : decide ((j : Int) < 256) = false := decide_eq_false (by omega)
                obtain rfl : j = 256 := by omega
                have hall := HMD.out.all
                rw [← HU.out] at hall
                obtain ⟨p1, n1, c1, xs1, hk1, hcc1, hoff1⟩ := HSM.out.c
                have kc1 := hk1.c
                have hl := all_any (S4 b b1 b2 b3) _ C wr ⟨_, _, _, _, rfl, hcc1, hoff1⟩
                rw [hall] at hl
                have HL := Lib.hid hl
                clear hk1 hcc1 hoff1 hl hall hstep
                go_wp2_with fail
                refine HL.out.mono ?_
                clear HL kc1
                rintro e w6 ⟨p6, c6, rfl, hc6, -, -, hb6⟩
                have HB6 : Hid (Below w.heap.size w w6) := Lib.hid (HSM.out.bel.trans (hb6.mono HSM.out.bel.size))
                clear hb6
                go_wp2_with fail
                go_ret
                exact ⟨by simp, HB6.out⟩
end Go.Proofs.Ytoddmgaihggkjaa
