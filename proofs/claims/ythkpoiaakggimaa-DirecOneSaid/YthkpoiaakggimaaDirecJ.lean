/- DirecOne: the walk of the statement's function; no condition but that the bytes read. -/
import Derived.Test.YthkpoiaakggimaaDirecJn
import Derived.Test.YthkpoiaakggimaaPlan3
namespace Go.Proofs.Ythkpoiaakggimaa
set_option linter.unusedVariables false
open Go.ChangeShapes Go.WideShapes Go.ChangeAt Go.RowKit

set_option maxHeartbeats 60000000 in
set_option maxRecDepth 100000 in
theorem one_main (A : Nat) (p0 : Option Addr) (len cap : Nat) (q0 : List Nat) (w : World) (hA : A < 256) (hz : q0.length = len) (hmx : len ≤ maxLen) (hq : Nb w p0 q0) :
    Calls Try.prog 4 #[.int .u8 A, .slice p0 len cap] w fun e w' => e = .returned (.bool true) ∧ Below w.heap.size w w' := by
  have HQ := Lib.hid hq
  have HZ := Lib.hid hz
  unfold maxLen at hmx
  clear hq hz
  go_enter Try.func4, Try.ntmps4
  go_wp2_with fail
  refine (awake_any _).mono ?_
  rintro e w1 ⟨rfl, hb1⟩
  have HB1 : Hid (Below w.heap.size w w1) := Lib.hid hb1
  clear hb1
  go_upto_region 4 with fail
  obtain ⟨n, hn⟩ : ∃ n : Nat, n = A % 4 + 1 := ⟨_, rfl⟩
  have en : (A : Int) % 4 + 1 = (n : Int) := by omega
  rw [en]
  have hn1 : 1 ≤ n := by omega
  have hn4 : n ≤ 4 := by omega
  clear hn en
  have hnew := new_any (n : Int) w1
  have hmn : mayN (n : Int) = true := mayN_iff.2 (by omega)
  have hC : newC (n : Int) = ⟨0, List.replicate n false⟩ := by unfold newC; rw [if_pos hmn]; rfl
  have hX : newX (n : Int) = 0 := by unfold newX; rw [if_pos hmn]
  rw [hC, hX] at hnew
  have hal : mayE ⟨0, List.replicate n false⟩ (n : Int) = true := mayE_iff.2 ⟨by omega, by simp, Int.le_refl _, by show (0 : Int) ≤ n; omega, ownB_iff.2 (.inl rfl)⟩
  obtain ⟨E0, hE0⟩ : ∃ E, E = (⟨0, List.replicate n false⟩ : En) := ⟨_, rfl⟩
  rw [← hE0] at hnew hal
  have HAL := Lib.hid hal
  clear hC hX hmn hE0 hal
  go_wp2_with fail
  refine hnew.mono ?_
  clear hnew
  rintro e w2 ⟨v, rfl, ⟨p, n', c, rfl, hcc, hoff⟩, hb⟩
  have HB2 : Hid (Below w.heap.size w w2) := Lib.hid (HB1.out.trans (hb.mono HB1.out.size))
  have HC := Lib.hid hcc
  clear hoff hb hcc HB1
  go_upto_region 5 with fail
  obtain ⟨b, hbe⟩ : ∃ b, b = w2.heap.size := ⟨_, rfl⟩
  obtain ⟨w3, hw3⟩ : ∃ w3, w3 = w2.alloc (.cells #[.int .i64 E0.owner, .slice p n' c] 24) := ⟨_, rfl⟩
  have HV3 : Hid (Var (fun R => R = b) w3 b E0) := Lib.hid (by
    rw [hw3, hbe]
    exact Var.new ⟨_, _, _, rfl, HC.out, fun R hR => HC.out.off (by rw [hR]; exact Nat.le_refl _)⟩)
  have HB3 : Hid (Below w.heap.size w w3) := Lib.hid (by rw [hw3]; exact HB2.out.alloc HB2.out.size _)
  have HBG : Hid (w.heap.size ≤ b) := Lib.hid (by rw [hbe]; exact HB2.out.size)
  rw [← hw3, ← hbe]
  clear hw3 hbe HC HB2
  go_upto_region 7 with fail
  go_wp2_with fail
  go_loopw [8] (fun s8 wr => ∃ i : Nat, i ≤ len ∧ s8 = .int .i64 i ∧ ∃ E, mayE E (n : Int) = true ∧ Var (fun R => R = b) wr b E ∧ Below w.heap.size w wr) (fun s _ => len - (intOf s).toNat)
  case atStart => exact ⟨0, Nat.zero_le _, rfl, E0, HAL.out, HV3.out, HB3.out⟩
  case round =>
    clear HAL HV3 HB3
    obtain ⟨i, hi, rfl, E, hal, hv, hb⟩ := hrel
    have HAL := Lib.hid hal
    have HV := Lib.hid hv
    have HB := Lib.hid hb
    clear hal hv hb
    by_cases hlt : i < len
    · have hltI : decide ((i : Int) < len) = true := decide_eq_true (by omega)
      by_cases h100 : i < 100
      · have h1I : decide ((i : Int) < 100) = true := decide_eq_true (by omega)
        have h1N : decide (i < 100) = true := decide_eq_true h100
        obtain ⟨bq, off, x, hbq, rfl, hcq, hx⟩ := HQ.out.at_ i (by rw [HZ.out]; omega)
        have hcx := (HB.out.cell (p := ⟨bq, off + i, none⟩) hbq).trans hcq
        obtain ⟨k, hk⟩ : ∃ k : Nat, k = x / 3 % n := ⟨_, rfl⟩
        have hkn : k < n := by rw [hk]; exact Nat.mod_lt _ (by omega)
        have hn0 : ¬ n = 0 := by omega
        have htd : IntKind.u8.wrap ((x : Int).tdiv 3) = ((x / 3 : Nat) : Int) := by
          rw [Int.tdiv_eq_ediv_of_nonneg (by omega), IntKind.wrap_u8]; omega
        have htd2 : IntKind.u8.wrap ((x : Int) / 3) = ((x / 3 : Nat) : Int) := by rw [IntKind.wrap_u8]; omega
        clear hcq hbq
        go_upto_region 11 with fail
        have hkI0 : (x : Int) / 3 % (n : Int) = (k : Int) := by rw [hk, Int.natCast_emod, Int.natCast_ediv]; rfl
        rw [hkI0]
        clear hk hkI0 htd htd2 hn0 h1I h1N
        obtain ⟨r, hr⟩ : ∃ r, r = x % 3 := ⟨_, rfl⟩
        have er : (x : Int) % 3 = (r : Int) := by rw [hr]; exact (Int.natCast_emod x 3).symm
        have hr3 : r < 3 := by omega
        clear hr
        obtain rfl | rfl | rfl : r = 0 ∨ r = 1 ∨ r = 2 := by omega
        · as_aux_lemma =>
            obtain ⟨pe, ne, ce, hke, heo, hec⟩ := HV.out.eo
            have hne : n = ne := by
              have h1 := hec.len
              have h2 := (mayE_iff.1 HAL.out).2.1
              omega
            subst hne
            have HKE := Lib.hid hke
            have HEO := Lib.hid heo
            have HEC := Lib.hid hec
            have HVB : Hid (b < wr.heap.size) := Lib.hid hke.lt
            clear hke heo hec HV
            obtain ⟨W6, hW6⟩ : ∃ z, z = wr := ⟨_, rfl⟩
            rw [← hW6] at HKE HEO HEC HVB HB hcx ⊢
            clear hW6
            have kE := HKE.out.c
            have hk1 : wrap64 ((k : Int) + 1) = (k : Int) + 1 := by unfold wrap64; omega
            obtain ⟨f1, f2, f3, f4, f5, f6⟩ := one_read HAL.out hkn
            have hq := read_any (fun R => R = b) _ E (k : Int) W6 HEO.out (fun R hR => by rw [hR]; exact HVB.out)
            rw [f5, f6] at hq
            obtain ⟨E2, hE2⟩ : ∃ z, z = readC E (k : Int) := ⟨_, rfl⟩
            rw [← hE2] at hq f1 f2 f3 f4
            have HF1 := Lib.hid f1
            have HF2 := Lib.hid f2
            have HF3 := Lib.hid f3
            have HMA2 := Lib.hid f4
            have HQ2 := Lib.hid hq
            clear f1 f2 f3 f4 f5 f6 hE2 hq HAL
            go_upto_region 17 with fail
            go_wp2_with fail
            refine HQ2.out.mono ?_
            clear HQ2 kE
            rintro e w5 ⟨v, rfl, ⟨p2, n2, c2, rfl, hcc, hoff⟩, hb⟩
            have hn2 : n = n2 := by
              have h1 := hcc.len
              have h2 := (mayE_iff.1 HMA2.out).2.1
              omega
            subst hn2
            have HB5 : Hid (Below w.heap.size w w5) := Lib.hid (HB.out.trans (hb.mono HB.out.size))
            have HE5 : Hid (Eo (fun R => R = b) w5 (.agg #[.int .i64 E2.owner, .slice p2 n c2]) E2) := Lib.hid ⟨_, _, _, rfl, hcc, hoff⟩
            have HC5 := Lib.hid hcc
            have HK5 := Lib.hid (HKE.out.below hb)
            have HEC5 := Lib.hid (HEC.out.below hb)
            clear hcc hoff hb HKE HEO HEC HB hcx
            go_upto_region 18 with fail
            obtain ⟨ba, hba⟩ : ∃ z, z = w5.heap.size := ⟨_, rfl⟩
            obtain ⟨w6, hw6⟩ : ∃ z, z = w5.alloc (.cells #[.int .i64 E2.owner, .slice p2 n c2] 24) := ⟨_, rfl⟩
            have HBA : Hid (Below w5.heap.size w5 w6) := Lib.hid (by rw [hw6]; exact (Below.refl _ _).alloc (Nat.le_refl _) _)
            have HD6 : Hid (Blk w6 ba #[.int .i64 E2.owner, .slice p2 n c2]) := Lib.hid (by rw [hw6, hba]; exact Blk.new _ _ _)
            have HE6 := Lib.hid (HE5.out.below HBA.out)
            have HC6 := Lib.hid (HC5.out.below HBA.out)
            have HK6 := Lib.hid (HK5.out.below HBA.out)
            have HEC6 := Lib.hid (HEC5.out.below HBA.out)
            have HB6 : Hid (Below w.heap.size w w6) := Lib.hid (HB5.out.trans (HBA.out.mono HB5.out.size))
            have HNE : Hid (b < ba) := Lib.hid (by have h1 := HK5.out.lt; omega)
            rw [← hw6, ← hba]
            clear hw6 hba HE5 HC5 HK5 HEC5 HB5 HBA
            obtain ⟨O, hO⟩ : ∃ z, z = E.owner := ⟨_, rfl⟩
            have HOE := Lib.hid hO
            rw [← hO] at HK6 ⊢
            obtain ⟨O2, hO2⟩ : ∃ z, z = E2.owner := ⟨_, rfl⟩
            have HO2 := Lib.hid hO2
            rw [← hO2] at HD6 HE6
            clear hO hO2
            have kd := HD6.out.c
            have kb := HK6.out.c
            have eO : (O != O) = false := by simp
            rw [← HOE.out, ← HO2.out] at HF2
            rw [← HO2.out] at HF1 HF3
            go_cut [126] (fun s126 wd => s126 = .bool false ∧ w6 = wd)
            case first =>
              as_aux_lemma =>
                by_cases h1 : O2 = (k : Int) + 1
                · as_aux_lemma =>
                    have d1 : (O2 != (k : Int) + 1) = false := by simp [h1]
                    have HH1 := Lib.hid h1
                    clear h1
                    by_cases h2 : 0 < O
                    · as_aux_lemma =>
                        have d2 : decide (0 < O) = true := decide_eq_true h2
                        have d3 : (O2 != O) = false := by rw [HF2.out h2]; simp
                        clear h2
                        go_wp2_with fail
                        go_meet
                        case rel => exact ⟨rfl, rfl⟩
                    · as_aux_lemma =>
                        have d2 : decide (0 < O) = false := decide_eq_false h2
                        clear h2
                        go_wp2_with fail
                        go_meet
                        case rel => exact ⟨rfl, rfl⟩
                · as_aux_lemma =>
                    have d1 : (O2 != (k : Int) + 1) = true := by simpa using h1
                    have hs : E2.share.getD k false = true := (HF1.out.resolve_left h1)
                    obtain ⟨b2, off2, rfl, hb2, hcell⟩ := HC6.out.at_ k hkn
                    rw [hs] at hcell
                    have hkI : (k : Int) < (n : Int) := by omega
                    clear h1 hs hb2
                    by_cases h2 : 0 < O
                    · as_aux_lemma =>
                        have d2 : decide (0 < O) = true := decide_eq_true h2
                        have d3 : (O2 != O) = false := by rw [HF2.out h2]; simp
                        clear h2
                        go_wp2_with fail
                        go_meet
                        case rel => exact ⟨rfl, rfl⟩
                    · as_aux_lemma =>
                        have d2 : decide (0 < O) = false := decide_eq_false h2
                        clear h2
                        go_wp2_with fail
                        go_meet
                        case rel => exact ⟨rfl, rfl⟩
            case rest =>
              obtain ⟨rfl, rfl⟩ := hcut
              clear HF1 HF2 eO kd kb hk1
              go_wp2_with fail
              go_loopw [13] (fun s13 wz => w6 = wz ∧ ∃ c : Nat, c ≤ n ∧ s13 = .int .i64 c) (fun s _ => n - (intOf s).toNat)
              case atStart => exact ⟨rfl, 0, Nat.zero_le _, rfl⟩
              case round =>
                obtain ⟨hwz, c, hc, rfl⟩ := hrel
                subst hwz
                have kd := HD6.out.c
                have kb := HK6.out.c
                by_cases hcn : c < n
                · have hcI : (c : Int) < (n : Int) := by omega
                  obtain ⟨be, offe, rfl, _, hcell⟩ := HEC6.out.at_ c hcn
                  obtain ⟨x1, hx1⟩ : ∃ z, z = E.share.getD c false := ⟨_, rfl⟩
                  rw [← hx1] at hcell
                  have HX1 := Lib.hid hx1
                  clear hx1
                  cases x1 with
                  | false =>
                    as_aux_lemma =>
                      clear HX1 HF3
                      go_wp2_with fail
                      go_roundw
                      case rel => exact ⟨trivial, c + 1, by omega, by go_num⟩
                      case measure => simp [intOf]; omega
                  | true =>
                    as_aux_lemma =>
                      have hf := HF3.out c hcn HX1.out.symm
                      obtain ⟨b2, off2, rfl, _, hcell2⟩ := HC6.out.at_ c hcn
                      obtain ⟨y1, hy1⟩ : ∃ z, z = E2.share.getD c false := ⟨_, rfl⟩
                      rw [← hy1] at hcell2 hf
                      clear hy1 HX1 HF3
                      cases y1 with
                      | true =>
                        as_aux_lemma =>
                          clear hf
                          go_wp2_with fail
                          go_roundw
                          case rel => exact ⟨trivial, c + 1, by omega, by go_num⟩
                          case measure => simp [intOf]; omega
                      | false =>
                        as_aux_lemma =>
                          have hf2 : O2 = (c : Int) + 1 := hf.resolve_left (by decide)
                          clear hf
                          subst hf2
                          go_wp2_with fail
                          go_roundw
                          case rel => exact ⟨trivial, c + 1, by omega, by go_num⟩
                          case measure => simp [intOf]; omega
                · as_aux_lemma =>
                    have hcI : decide ((c : Int) < (n : Int)) = false := decide_eq_false (by omega)
                    go_upto_region 25 with fail
                    clear hcn HF3 hcI
                    have fb := HK6.out.f
                    have lb := HK6.out.lt
                    go_upto_region 44 with fail
                    obtain ⟨w8, hw8⟩ : ∃ z, z = (w6.setCell ⟨b, 0, none⟩ (.int .i64 O2)).setCell ⟨b, 1, none⟩ (.slice p2 n c2) := ⟨_, rfl⟩
                    have HV8 : Hid (Var (fun R => R = b) w8 b E2) := Lib.hid (by rw [hw8]; exact Var.put HK6.out (by rw [HO2.out] at HE6 ⊢; exact HE6.out) rfl)
                    have HB8 : Hid (Below w.heap.size w w8) := Lib.hid (by rw [hw8]; exact set2_below HB6.out HBG.out _ _)
                    rw [← hw8]
                    clear hw8 kb kd fb lb HK6 HD6 HE6 HC6 HEC6 HB6
                    obtain ⟨pf, nf, cf, hkf, hef, -⟩ := HV8.out.eo
                    have HEF := Lib.hid hef
                    have HKF := Lib.hid hkf
                    clear hkf hef
                    have kf := HKF.out.c
                    have hmf := may_any (fun R => R = b) _ E2 (n : Int) w8 HEF.out
                    rw [HMA2.out] at hmf
                    have HMF := Lib.hid hmf
                    clear hmf HEF HKF
                    go_wp2_with fail
                    refine HMF.out.mono ?_
                    clear HMF kf
                    rintro e w9 ⟨rfl, hb⟩
                    have HV9 := Lib.hid (HV8.out.below hb)
                    have HB9 : Hid (Below w.heap.size w w9) := Lib.hid (HB8.out.trans (hb.mono HB8.out.size))
                    clear hb HV8 HB8
                    go_wp2_with fail
                    go_roundw
                    case rel => exact ⟨i + 1, by omega, by go_num, E2, HMA2.out, HV9.out, HB9.out⟩
                    case measure => simp [intOf]; omega
        · as_aux_lemma =>
            obtain ⟨pe, ne, ce, hke, heo, hec⟩ := HV.out.eo
            have hne : n = ne := by
              have h1 := hec.len
              have h2 := (mayE_iff.1 HAL.out).2.1
              omega
            subst hne
            have HKE := Lib.hid hke
            have HEO := Lib.hid heo
            have HEC := Lib.hid hec
            have HVB : Hid (b < wr.heap.size) := Lib.hid hke.lt
            clear hke heo hec HV
            obtain ⟨W6, hW6⟩ : ∃ z, z = wr := ⟨_, rfl⟩
            rw [← hW6] at HKE HEO HEC HVB HB hcx ⊢
            clear hW6
            have kE := HKE.out.c
            have hk1 : wrap64 ((k : Int) + 1) = (k : Int) + 1 := by unfold wrap64; omega
            obtain ⟨f1, f2, f3, f4, f5, f6⟩ := one_write HAL.out hkn
            have hq := write_any (fun R => R = b) _ E (k : Int) W6 HEO.out (fun R hR => by rw [hR]; exact HVB.out)
            rw [f4, f5, f6] at hq
            obtain ⟨E2, hE2⟩ : ∃ z, z = writeC E (k : Int) := ⟨_, rfl⟩
            rw [← hE2] at hq f1 f2 f3
            have HF1 := Lib.hid f1
            have HF2 := Lib.hid f2
            have HMA2 := Lib.hid f3
            obtain ⟨L, hL⟩ : ∃ L, L = E.share := ⟨_, rfl⟩
            have HLE := Lib.hid hL
            rw [← hL] at hq
            obtain ⟨Tn, hTn⟩ : ∃ z, z = oth L (k : Int) n := ⟨_, rfl⟩
            rw [← hTn] at hq
            have HTN := Lib.hid hTn
            have HQ2 := Lib.hid hq
            clear f1 f2 f3 f4 f5 f6 hE2 hq HAL hL hTn
            go_upto_region 27 with fail
            go_wp2_with fail
            refine HQ2.out.mono ?_
            clear HQ2 kE
            rintro e w5 ⟨v, q, d, rfl, ⟨p2, n2, c2, rfl, hcc, hoff⟩, hsq, -, hm100, hb⟩
            have hn2 : n = n2 := by
              have h1 := hcc.len
              have h2 := (mayE_iff.1 HMA2.out).2.1
              omega
            subst hn2
            have HB5 : Hid (Below w.heap.size w w5) := Lib.hid (HB.out.trans (hb.mono HB.out.size))
            have HE5 : Hid (Eo (fun R => R = b) w5 (.agg #[.int .i64 E2.owner, .slice p2 n c2]) E2) := Lib.hid ⟨_, _, _, rfl, hcc, hoff⟩
            have HC5 := Lib.hid hcc
            have HK5 := Lib.hid (HKE.out.below hb)
            have HEC5 := Lib.hid (HEC.out.below hb)
            have HSQ5 := Lib.hid hsq
            clear hcc hoff hb HKE HEO HEC HB hcx hsq
            go_upto_region 28 with fail
            obtain ⟨ba, hba⟩ : ∃ z, z = w5.heap.size := ⟨_, rfl⟩
            obtain ⟨w6, hw6⟩ : ∃ z, z = w5.alloc (.cells #[.int .i64 E2.owner, .slice p2 n c2] 24) := ⟨_, rfl⟩
            have HBA : Hid (Below w5.heap.size w5 w6) := Lib.hid (by rw [hw6]; exact (Below.refl _ _).alloc (Nat.le_refl _) _)
            have HD6 : Hid (Blk w6 ba #[.int .i64 E2.owner, .slice p2 n c2]) := Lib.hid (by rw [hw6, hba]; exact Blk.new _ _ _)
            have HE6 := Lib.hid (HE5.out.below HBA.out)
            have HC6 := Lib.hid (HC5.out.below HBA.out)
            have HK6 := Lib.hid (HK5.out.below HBA.out)
            have HEC6 := Lib.hid (HEC5.out.below HBA.out)
            have HB6 : Hid (Below w.heap.size w w6) := Lib.hid (HB5.out.trans (HBA.out.mono HB5.out.size))
            have HNE : Hid (b < ba) := Lib.hid (by have h1 := HK5.out.lt; omega)
            have HSQ6 := Lib.hid (HSQ5.out.below HBA.out)
            clear HSQ5
            rw [← hw6, ← hba]
            clear hw6 hba HE5 HC5 HK5 HEC5 HB5 HBA
            obtain ⟨O, hO⟩ : ∃ z, z = E.owner := ⟨_, rfl⟩
            have HOE := Lib.hid hO
            rw [← hO] at HK6 ⊢
            obtain ⟨O2, hO2⟩ : ∃ z, z = E2.owner := ⟨_, rfl⟩
            have HO2 := Lib.hid hO2
            rw [← hO2] at HD6 HE6
            clear hO hO2
            have kd := HD6.out.c
            have kb := HK6.out.c
            have eO : (O != O) = false := by simp
            rw [← HO2.out] at HF1
            have eK : (O2 != (k : Int) + 1) = false := by simp [HF1.out]
            have ha := alone_any (fun R => R = b) _ E2 w6 (by rw [HO2.out] at HE6; exact HE6.out)
            rw [HF2.out, ← HO2.out] at ha
            have HAO := Lib.hid ha
            clear ha HF2
            go_wp2_with fail
            refine HAO.out.mono ?_
            clear HAO
            rintro e w7 ⟨rfl, hb⟩
            have HD7 := Lib.hid (HD6.out.below hb)
            have HE7 := Lib.hid (HE6.out.below hb)
            have HK7 := Lib.hid (HK6.out.below hb)
            have HEC7 := Lib.hid (HEC6.out.below hb)
            have HSQ7 := Lib.hid (HSQ6.out.below hb)
            have HB7 : Hid (Below w.heap.size w w7) := Lib.hid (HB6.out.trans (hb.mono HB6.out.size))
            clear hb eO eK kd kb HD6 HE6 HK6 HEC6 HSQ6 HB6 HC6 hk1 HF1
            go_wp2_with fail
            go_loopw [18, 19] (fun s18 s19 wz => w7 = wz ∧ ∃ c : Nat, c ≤ n ∧ s19 = .int .i64 c ∧ s18 = .int .i64 ((oth L (k : Int) c).length : Nat)) (fun _ s _ => n - (intOf s).toNat)
            case atStart => exact ⟨rfl, 0, Nat.zero_le _, rfl, rfl⟩
            case round =>
              obtain ⟨hwz, c, hc, rfl, rfl⟩ := hrel
              subst hwz
              have kb := HK7.out.c
              by_cases hcn : c < n
              · have hcI : (c : Int) < (n : Int) := by omega
                obtain ⟨be, offe, rfl, _, hcell⟩ := HEC7.out.at_ c hcn
                rw [← HLE.out] at hcell
                have hs := oth_succ L (k : Int) c
                have hle := oth_le L (k : Int) c
                have hob : othB L (k : Int) c = (L.getD c false && decide ((c : Int) ≠ (k : Int))) := rfl
                rw [hob] at hs
                obtain ⟨x1, hx1⟩ : ∃ z, z = L.getD c false := ⟨_, rfl⟩
                rw [← hx1] at hcell hs
                obtain ⟨m, hmm⟩ : ∃ m, m = (oth L (k : Int) c).length := ⟨_, rfl⟩
                have HS : Hid ((oth L (k : Int) (c + 1)).length = m + (if (x1 && decide ((c : Int) ≠ (k : Int))) then 1 else 0)) := Lib.hid (by
                  rw [hs, List.length_append, ← hmm]
                  congr 1
                  split <;> rfl)
                rw [← hmm] at hle ⊢
                clear hs hx1 hmm hob
                cases x1 with
                | false =>
                  as_aux_lemma =>
                    have HS2 : Hid ((oth L (k : Int) (c + 1)).length = m) := Lib.hid (by rw [HS.out]; rfl)
                    go_wp2_with fail
                    go_roundw
                    case rel => exact ⟨trivial, c + 1, by omega, by go_num, by rw [HS2.out]⟩
                    case measure => simp [intOf]; omega
                | true =>
                  as_aux_lemma =>
                    by_cases h1 : (c : Int) = (k : Int)
                    · as_aux_lemma =>
                        have d1 : ((c : Int) != (k : Int)) = false := by simp [h1]
                        have HS2 : Hid ((oth L (k : Int) (c + 1)).length = m) := Lib.hid (by rw [HS.out, decide_eq_false (fun h => h h1)]; rfl)
                        clear h1
                        go_wp2_with fail
                        go_roundw
                        case rel => exact ⟨trivial, c + 1, by omega, by go_num, by rw [HS2.out]⟩
                        case measure => simp [intOf]; omega
                    · as_aux_lemma =>
                        have d1 : ((c : Int) != (k : Int)) = true := by simpa using h1
                        have HS2 : Hid ((oth L (k : Int) (c + 1)).length = m + 1) := Lib.hid (by rw [HS.out, decide_eq_true (p := (c : Int) ≠ (k : Int)) h1]; rfl)
                        clear h1
                        go_wp2_with fail
                        go_roundw
                        case rel => exact ⟨trivial, c + 1, by omega, by go_num, by rw [HS2.out]; go_num⟩
                        case measure => simp [intOf]; omega
              · obtain rfl : c = n := by omega
                rw [← HTN.out]
                clear kb hc hcn
                have HGT : Hid (∀ j, j < Tn.length → Tn.getD j 0 < c ∧ L.getD (Tn.getD j 0) false = true ∧ ((Tn.getD j 0 : Nat) : Int) ≠ (k : Int)) := Lib.hid (fun j hj => by rw [HTN.out] at hj ⊢; exact oth_range j hj)
                have HUP : Hid (∀ j, j + 1 < Tn.length → Tn.getD j 0 < Tn.getD (j + 1) 0) := Lib.hid (fun j hj => by rw [HTN.out] at hj ⊢; exact oth_rises j hj)
                have HIN := Lib.hid (fun j hj => sl_int HSQ7.out j hj)
                obtain ⟨m, hmm⟩ : ∃ m, m = Tn.length := ⟨_, rfl⟩
                rw [← hmm] at HGT HUP HIN hm100 ⊢
                clear hmm HSQ7 HTN
                go_wp2_with fail
                go_loopw [20] (fun s20 wz => ∃ j : Nat, j ≤ m ∧ s20 = .int .i64 j ∧ Below w7.heap.size w7 wz) (fun s _ => m - (intOf s).toNat)
                case atStart => exact ⟨0, Nat.zero_le _, rfl, Below.refl _ _⟩
                case round =>
                  obtain ⟨j, hj, rfl, hbz⟩ := hrel
                  have HBZ := Lib.hid hbz
                  clear hbz
                  by_cases hjm : j < m
                  · have hjI : (j : Int) < (m : Int) := by omega
                    obtain ⟨g1, g2, g3⟩ := HGT.out j hjm
                    obtain ⟨bq2, offq, rfl, hbq, hcq⟩ := HIN.out j hjm
                    have HCQ := Lib.hid ((HBZ.out.cell (p := ⟨bq2, offq + j, none⟩) hbq).trans hcq)
                    obtain ⟨t, ht⟩ : ∃ t, t = Tn.getD j 0 := ⟨_, rfl⟩
                    rw [← ht] at g1 g2 g3 HCQ
                    obtain ⟨be, offe, rfl, hbe, hce⟩ := HEC7.out.at_ t g1
                    rw [← HLE.out, g2] at hce
                    have HCE := Lib.hid ((HBZ.out.cell (p := ⟨be, offe + t, none⟩) hbe).trans hce)
                    have HKZ := Lib.hid ((HK7.out.below HBZ.out).c)
                    have d1 : ((t : Int) == (k : Int)) = false := by simpa using g3
                    have htI : (t : Int) < (c : Int) := by omega
                    clear hcq hce g1 g2 g3
                    by_cases hj0 : 0 < j
                    · as_aux_lemma =>
                        have d2 : decide (0 < (j : Int)) = true := decide_eq_true (by omega)
                        have d2N : decide (0 < j) = true := decide_eq_true hj0
                        obtain ⟨j1, hj1⟩ : ∃ j1, j = j1 + 1 := ⟨j - 1, by omega⟩
                        have hup := HUP.out j1 (by omega)
                        rw [← hj1] at hup
                        obtain ⟨bq3, offq3, eq3, hbq3, hcq3⟩ := HIN.out j1 (by omega)
                        injection eq3 with eq3
                        injection eq3 with e1 e2 _
                        subst e1 e2
                        have HCQ3 := Lib.hid ((HBZ.out.cell (p := ⟨bq2, offq + j1, none⟩) hbq3).trans hcq3)
                        rw [← ht] at hup
                        obtain ⟨t1, ht1⟩ : ∃ t, t = Tn.getD j1 0 := ⟨_, rfl⟩
                        rw [← ht1] at hup HCQ3
                        have d3 : decide ((t : Int) ≤ (t1 : Int)) = false := decide_eq_false (by omega)
                        have d3N : decide (t ≤ t1) = false := decide_eq_false (by omega)
                        have hw1 : wrap64 ((j : Int) - 1) = (j1 : Int) := by unfold wrap64; omega
                        have hw2 : IntKind.i64.wrap ((j : Int) - 1) = (j1 : Int) := by rw [IntKind.wrap_i64]; omega
                        have hj1I : (j1 : Int) < (m : Int) := by omega
                        have hj1Z : (0 : Int) ≤ (j1 : Int) := by omega
                        clear hcq3 hbq3 hbq hbe hup ht ht1 hj1
                        have k1 := HCQ.out
                        have k2 := HCQ3.out
                        have k3 := HCE.out
                        have k4 := HKZ.out
                        go_upto_region 39 with fail
                        refine region_plan (fun V : World => V = wr.drew) 30 [(0, true), (1, true), (2, true), (3, true), (4, true), (5, true), (6, true), (7, true), (8, true), (9, true), (10, true), (11, true), (12, true), (13, true), (14, true), (15, true), (16, true), (17, true), (18, true), (19, true), (20, true), (21, true), (22, true), (23, true), (24, true), (25, true), (26, true), (27, true), (28, true), (29, true)] (by kernel_rfl) (by kernel_rfl) rfl ?_
                        iterate 30
                          refine plan_read (v := ?_) rfl (by rfl) ?_ ?_
                          rotate_left
                          · intro w' hS
                            try dsimp only at hS
                            go_simp
                            try with_reducible rfl
                          try simp only [Act.put, List.setIfInBounds_toArray, List.set_cons_zero, List.set_cons_succ, List.getElem_toArray, List.getElem_cons_zero, List.getElem_cons_succ, d1, d2, d3, d2N, d3N]
                        refine plan_nil ?_
                        simp only [List.drop_succ_cons, List.drop_zero]
                        go_wp2_with fail
                        go_roundw
                        case rel => exact ⟨j + 1, by omega, by go_num, drewN_below HBZ.out 1⟩
                        case measure => simp [intOf]; omega
                    · as_aux_lemma =>
                        have d2 : decide (0 < (j : Int)) = false := decide_eq_false (by omega)
                        have d2N : decide (0 < j) = false := decide_eq_false hj0
                        clear hbq hbe ht
                        have k1 := HCQ.out
                        have k3 := HCE.out
                        have k4 := HKZ.out
                        go_upto_region 39 with fail
                        refine region_plan (fun V : World => V = wr.drew) 30 [(0, true), (1, true), (2, true), (3, true), (4, true), (5, true), (6, true), (7, true), (8, true), (9, true), (10, true), (11, true), (12, true), (13, true), (14, true), (15, true), (16, true), (17, true), (18, true), (19, true), (20, true), (21, true), (22, true), (23, true), (24, true), (25, true), (26, true), (27, true), (28, true), (29, true)] (by kernel_rfl) (by kernel_rfl) rfl ?_
                        iterate 21
                          refine plan_read (v := ?_) rfl (by rfl) ?_ ?_
                          rotate_left
                          · intro w' hS
                            try dsimp only at hS
                            go_simp
                            try with_reducible rfl
                          try simp only [Act.put, List.setIfInBounds_toArray, List.set_cons_zero, List.set_cons_succ, List.getElem_toArray, List.getElem_cons_zero, List.getElem_cons_succ, d1, d2, d2N]
                        refine plan_skip rfl (by rfl) ?_
                        try simp only [Act.put, List.setIfInBounds_toArray, List.set_cons_zero, List.set_cons_succ, List.getElem_toArray, List.getElem_cons_zero, List.getElem_cons_succ]
                        refine plan_skip rfl (by rfl) ?_
                        try simp only [Act.put, List.setIfInBounds_toArray, List.set_cons_zero, List.set_cons_succ, List.getElem_toArray, List.getElem_cons_zero, List.getElem_cons_succ]
                        refine plan_skip rfl (by rfl) ?_
                        try simp only [Act.put, List.setIfInBounds_toArray, List.set_cons_zero, List.set_cons_succ, List.getElem_toArray, List.getElem_cons_zero, List.getElem_cons_succ]
                        refine plan_skip rfl (by rfl) ?_
                        try simp only [Act.put, List.setIfInBounds_toArray, List.set_cons_zero, List.set_cons_succ, List.getElem_toArray, List.getElem_cons_zero, List.getElem_cons_succ]
                        refine plan_skip rfl (by rfl) ?_
                        try simp only [Act.put, List.setIfInBounds_toArray, List.set_cons_zero, List.set_cons_succ, List.getElem_toArray, List.getElem_cons_zero, List.getElem_cons_succ]
                        refine plan_skip rfl (by rfl) ?_
                        try simp only [Act.put, List.setIfInBounds_toArray, List.set_cons_zero, List.set_cons_succ, List.getElem_toArray, List.getElem_cons_zero, List.getElem_cons_succ]
                        refine plan_skip rfl (by rfl) ?_
                        try simp only [Act.put, List.setIfInBounds_toArray, List.set_cons_zero, List.set_cons_succ, List.getElem_toArray, List.getElem_cons_zero, List.getElem_cons_succ]
                        refine plan_skip rfl (by rfl) ?_
                        try simp only [Act.put, List.setIfInBounds_toArray, List.set_cons_zero, List.set_cons_succ, List.getElem_toArray, List.getElem_cons_zero, List.getElem_cons_succ]
                        refine plan_skip rfl (by rfl) ?_
                        try simp only [Act.put, List.setIfInBounds_toArray, List.set_cons_zero, List.set_cons_succ, List.getElem_toArray, List.getElem_cons_zero, List.getElem_cons_succ]
                        refine plan_nil ?_
                        simp only [List.drop_succ_cons, List.drop_zero]
                        go_wp2_with fail
                        go_roundw
                        case rel => exact ⟨j + 1, by omega, by go_num, drewN_below HBZ.out 1⟩
                        case measure => simp [intOf]; omega
                  · as_aux_lemma =>
                      obtain rfl : j = m := by omega
                      have HD6 := Lib.hid (HD7.out.below HBZ.out)
                      have HE6 := Lib.hid (HE7.out.below HBZ.out)
                      have HK6 := Lib.hid (HK7.out.below HBZ.out)
                      have HB6 : Hid (Below w.heap.size w wr) := Lib.hid (HB7.out.trans (HBZ.out.mono HB7.out.size))
                      obtain ⟨w6, hw6⟩ : ∃ z, z = wr := ⟨_, rfl⟩
                      rw [← hw6] at HD6 HE6 HK6 HB6 ⊢
                      clear hw6 HD7 HE7 HK7 HB7 HBZ HEC7 HGT HUP HIN hjm hj
                      have kd := HD6.out.c
                      have kb := HK6.out.c
                      have eM : ((j : Int) != (j : Int)) = false := by simp
                      have fb := HK6.out.f
                      have lb := HK6.out.lt
                      go_upto_region 44 with fail
                      obtain ⟨w8, hw8⟩ : ∃ z, z = (w6.setCell ⟨b, 0, none⟩ (.int .i64 O2)).setCell ⟨b, 1, none⟩ (.slice p2 c c2) := ⟨_, rfl⟩
                      have HV8 : Hid (Var (fun R => R = b) w8 b E2) := Lib.hid (by rw [hw8]; exact Var.put HK6.out (by rw [HO2.out] at HE6 ⊢; exact HE6.out) rfl)
                      have HB8 : Hid (Below w.heap.size w w8) := Lib.hid (by rw [hw8]; exact set2_below HB6.out HBG.out _ _)
                      rw [← hw8]
                      clear hw8 kb kd fb lb HK6 HD6 HE6 HB6
                      obtain ⟨pf, nf, cf, hkf, hef, -⟩ := HV8.out.eo
                      have HEF := Lib.hid hef
                      have HKF := Lib.hid hkf
                      clear hkf hef
                      have kf := HKF.out.c
                      have hmf := may_any (fun R => R = b) _ E2 (c : Int) w8 HEF.out
                      rw [HMA2.out] at hmf
                      have HMF := Lib.hid hmf
                      clear hmf HEF HKF
                      go_wp2_with fail
                      refine HMF.out.mono ?_
                      clear HMF kf
                      rintro e w9 ⟨rfl, hb⟩
                      have HV9 := Lib.hid (HV8.out.below hb)
                      have HB9 : Hid (Below w.heap.size w w9) := Lib.hid (HB8.out.trans (hb.mono HB8.out.size))
                      clear hb HV8 HB8
                      go_wp2_with fail
                      go_roundw
                      case rel => exact ⟨i + 1, by omega, by go_num, E2, HMA2.out, HV9.out, HB9.out⟩
                      case measure => simp [intOf]; omega
        · as_aux_lemma =>
            obtain ⟨pe, ne, ce, hke, heo, hec⟩ := HV.out.eo
            have hne : n = ne := by
              have h1 := hec.len
              have h2 := (mayE_iff.1 HAL.out).2.1
              omega
            subst hne
            have HKE := Lib.hid hke
            have HEO := Lib.hid heo
            have HEC := Lib.hid hec
            have HVB : Hid (b < wr.heap.size) := Lib.hid hke.lt
            clear hke heo hec HV
            obtain ⟨W6, hW6⟩ : ∃ z, z = wr := ⟨_, rfl⟩
            rw [← hW6] at HKE HEO HEC HVB HB hcx ⊢
            clear hW6
            have kE := HKE.out.c
            have hk1 : wrap64 ((k : Int) + 1) = (k : Int) + 1 := by unfold wrap64; omega
            obtain ⟨f1, f2⟩ := one_back HAL.out hkn
            have hq := back_any (fun R => R = b) _ E (k : Int) W6 HEO.out (fun R hR => by rw [hR]; exact HVB.out)
            obtain ⟨E2, hE2⟩ : ∃ z, z = backC E (k : Int) := ⟨_, rfl⟩
            obtain ⟨G, hG⟩ : ∃ z, z = backX E (k : Int) := ⟨_, rfl⟩
            rw [← hE2, ← hG] at hq f1
            rw [← hE2] at f2
            have HF1 := Lib.hid f1
            have HMA2 := Lib.hid f2
            have HQ2 := Lib.hid hq
            clear f1 f2 hE2 hG hq HAL
            go_upto_region 12 with fail
            go_wp2_with fail
            refine HQ2.out.mono ?_
            clear HQ2 kE
            rintro e w5 ⟨v, rfl, ⟨p2, n2, c2, rfl, hcc, hoff⟩, hb⟩
            have hn2 : n = n2 := by
              have h1 := hcc.len
              have h2 := (mayE_iff.1 HMA2.out).2.1
              omega
            subst hn2
            have HB5 : Hid (Below w.heap.size w w5) := Lib.hid (HB.out.trans (hb.mono HB.out.size))
            have HE5 : Hid (Eo (fun R => R = b) w5 (.agg #[.int .i64 E2.owner, .slice p2 n c2]) E2) := Lib.hid ⟨_, _, _, rfl, hcc, hoff⟩
            have HC5 := Lib.hid hcc
            have HK5 := Lib.hid (HKE.out.below hb)
            have HEC5 := Lib.hid (HEC.out.below hb)
            clear hcc hoff hb HKE HEO HEC HB hcx
            go_upto_region 13 with fail
            obtain ⟨ba, hba⟩ : ∃ z, z = w5.heap.size := ⟨_, rfl⟩
            obtain ⟨w6, hw6⟩ : ∃ z, z = w5.alloc (.cells #[.int .i64 E2.owner, .slice p2 n c2] 24) := ⟨_, rfl⟩
            have HBA : Hid (Below w5.heap.size w5 w6) := Lib.hid (by rw [hw6]; exact (Below.refl _ _).alloc (Nat.le_refl _) _)
            have HD6 : Hid (Blk w6 ba #[.int .i64 E2.owner, .slice p2 n c2]) := Lib.hid (by rw [hw6, hba]; exact Blk.new _ _ _)
            have HE6 := Lib.hid (HE5.out.below HBA.out)
            have HC6 := Lib.hid (HC5.out.below HBA.out)
            have HK6 := Lib.hid (HK5.out.below HBA.out)
            have HEC6 := Lib.hid (HEC5.out.below HBA.out)
            have HB6 : Hid (Below w.heap.size w w6) := Lib.hid (HB5.out.trans (HBA.out.mono HB5.out.size))
            have HNE : Hid (b < ba) := Lib.hid (by have h1 := HK5.out.lt; omega)
            rw [← hw6, ← hba]
            clear hw6 hba HE5 HC5 HK5 HEC5 HB5 HBA
            obtain ⟨O, hO⟩ : ∃ z, z = E.owner := ⟨_, rfl⟩
            have HOE := Lib.hid hO
            rw [← hO] at HK6 ⊢
            obtain ⟨O2, hO2⟩ : ∃ z, z = E2.owner := ⟨_, rfl⟩
            have HO2 := Lib.hid hO2
            rw [← hO2] at HD6 HE6
            clear hO hO2
            have kd := HD6.out.c
            have kb := HK6.out.c
            have eO : (O != O) = false := by simp
            rw [← HOE.out, ← HO2.out] at HF1
            go_cut [81] (fun s81 wd => s81 = .bool false ∧ w6 = wd)
            case first =>
              as_aux_lemma =>
                rcases HF1.out with ⟨h1, h2, h3⟩ | ⟨h1, h2, h3⟩
                · as_aux_lemma =>
                    have d1 : (O == (k : Int) + 1) = true := by simp [h1]
                    subst h2
                    have d3 : (O2 != 0) = false := by simp [h3]
                    clear h1 h3 HF1
                    go_wp2_with fail
                    go_meet
                    case rel => exact ⟨rfl, rfl⟩
                · as_aux_lemma =>
                    have d1 : (O == (k : Int) + 1) = false := by simpa using h1
                    subst h2
                    clear h1 h3 HF1
                    go_wp2_with fail
                    go_meet
                    case rel => exact ⟨rfl, rfl⟩
            case rest =>
              obtain ⟨rfl, rfl⟩ := hcut
              clear HF1 eO
              have fb := HK6.out.f
              have lb := HK6.out.lt
              go_upto_region 44 with fail
              obtain ⟨w8, hw8⟩ : ∃ z, z = (w6.setCell ⟨b, 0, none⟩ (.int .i64 O2)).setCell ⟨b, 1, none⟩ (.slice p2 n c2) := ⟨_, rfl⟩
              have HV8 : Hid (Var (fun R => R = b) w8 b E2) := Lib.hid (by rw [hw8]; exact Var.put HK6.out (by rw [HO2.out] at HE6 ⊢; exact HE6.out) rfl)
              have HB8 : Hid (Below w.heap.size w w8) := Lib.hid (by rw [hw8]; exact set2_below HB6.out HBG.out _ _)
              rw [← hw8]
              clear hw8 kb kd fb lb HK6 HD6 HE6 HC6 HEC6 HB6
              obtain ⟨pf, nf, cf, hkf, hef, -⟩ := HV8.out.eo
              have HEF := Lib.hid hef
              have HKF := Lib.hid hkf
              clear hkf hef
              have kf := HKF.out.c
              have hmf := may_any (fun R => R = b) _ E2 (n : Int) w8 HEF.out
              rw [HMA2.out] at hmf
              have HMF := Lib.hid hmf
              clear hmf HEF HKF
              go_wp2_with fail
              refine HMF.out.mono ?_
              clear HMF kf
              rintro e w9 ⟨rfl, hb⟩
              have HV9 := Lib.hid (HV8.out.below hb)
              have HB9 : Hid (Below w.heap.size w w9) := Lib.hid (HB8.out.trans (hb.mono HB8.out.size))
              clear hb HV8 HB8
              go_wp2_with fail
              go_roundw
              case rel => exact ⟨i + 1, by omega, by go_num, E2, HMA2.out, HV9.out, HB9.out⟩
              case measure => simp [intOf]; omega
      · have h1I : decide ((i : Int) < 100) = false := decide_eq_false (by omega)
        have h1N : decide (i < 100) = false := decide_eq_false h100
        go_wp2_with fail
        go_ret
        exact ⟨rfl, HB.out⟩
    · have hltI : decide ((i : Int) < len) = false := decide_eq_false (by omega)
      go_wp2_with fail
      go_ret
      exact ⟨rfl, HB.out⟩
end Go.Proofs.Ythkpoiaakggimaa
