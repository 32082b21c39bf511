/- ClockKeeps' walk: what Keep leaves is sure just as before; no condition but that the clock reads. -/
import Derived.Test.YtbogkloemmddcaaCkN
import Derived.Test.YtbogkloemmddcaaCkQ
namespace Go.Proofs.Ytbogkloemmddcaa
set_option linter.unusedVariables false
open Go.ChangeShapes Go.WideShapes Go.ChangeAt Go.RowKit

set_option maxHeartbeats 8000000 in
set_option maxRecDepth 100000 in
theorem keeps_main (p : Option Addr) (n c : Nat) (wt : Int) (xs : List Mv) (now later : Int) (w : World) (hx : KcX w p n c xs) (h0 : 0 ≤ later) (h1 : later ≤ 65535) :
    Calls Try.prog 4 #[.agg #[.slice p n c, .int .i64 wt], .int .i64 now, .int .u16 later] w fun e w' => e = .returned (.bool true) ∧ Below w.heap.size w w' := by
  have HSH : Hid (∀ W, Below w.heap.size w W → Calls Try.prog 13 #[.agg #[.slice p n c, .int .i64 wt]] W fun e w' => e = .returned (.bool (shortB xs)) ∧ Below W.heap.size W w') := Lib.hid (fun W hW => short_any p n c wt xs W ⟨hx.xl, hx.nc, hx.nb, hx.sl.below hW, fun x hh => ⟨(hx.rd x hh).ml, (hx.rd x hh).mc, (hx.rd x hh).mb, (hx.rd x hh).sl.below hW⟩⟩)
  have HKC : Hid (shortB xs = true → Ko (fun _ => False) w (.agg #[.slice p n c, .int .i64 wt]) ⟨mksOf xs, wt⟩ ∧ Kc w p n c xs) := Lib.hid (fun h => ⟨⟨p, n, c, xs, rfl, rfl, hx.kc h, fun R h => h.elim⟩, hx.kc h⟩)
  obtain ⟨sh, hsh⟩ : ∃ r, r = shortB xs := ⟨_, rfl⟩
  rw [← hsh] at HSH HKC
  clear hsh hx
  obtain ⟨w0, hw0⟩ : ∃ w0, w0 = w.alloc (.cells #[.slice p n c, .int .i64 wt] 26) := ⟨_, rfl⟩
  have HA0 : Hid (Blk w0 w.heap.size #[.slice p n c, .int .i64 wt]) := Lib.hid (by rw [hw0]; exact Blk.new _ _ _)
  have HB0 : Hid (Below w.heap.size w w0) := Lib.hid (by rw [hw0]; exact (Below.refl _ _).alloc (Nat.le_refl _) _)
  have HW0 := Lib.hid hw0
  clear hw0
  go_enter Try.func4, Try.ntmps4
  have kA := HA0.out.c
  go_upto_region 1 with fail
  rw [← HW0.out]
  clear HW0
  go_wp2_with fail
  refine (awake_any w0).mono ?_
  rintro e w1 ⟨rfl, hb⟩
  have HA1 := Lib.hid (HA0.out.below hb)
  have HB1 : Hid (Below w.heap.size w w1) := Lib.hid (HB0.out.trans (hb.mono HB0.out.size))
  clear hb kA HA0 HB0
  have kA := HA1.out.c
  go_wp2_with fail
  refine (HSH.out w1 HB1.out).mono ?_
  rintro e w2 ⟨rfl, hb⟩
  have HA2 := Lib.hid (HA1.out.below hb)
  have HB2 : Hid (Below w.heap.size w w2) := Lib.hid (HB1.out.trans (hb.mono HB1.out.size))
  clear hb kA HA1 HB1 HSH
  cases sh with
  | false =>
    go_wp2_with fail
    go_ret
    exact ⟨rfl, HB2.out⟩
  | true =>
  obtain ⟨hk, hkc⟩ := HKC.out (by first | rfl | trivial)
  have HK := Lib.hid hk
  have HKD := Lib.hid hkc
  clear hk hkc HKC
  by_cases hbig : 549755813888 < now
  · have d1 : decide (549755813888 < now) = true := decide_eq_true hbig
    go_wp2_with fail
    go_ret
    exact ⟨rfl, HB2.out⟩
  have d1 : decide (549755813888 < now) = false := decide_eq_false hbig
  have HBIG := Lib.hid hbig
  clear hbig
  have HK2 := Lib.hid (HK.out.below HB2.out)
  have HKD2 := Lib.hid (HKD.out.below HB2.out)
  clear HK HKD
  obtain ⟨C, hC⟩ : ∃ C, C = (⟨mksOf xs, wt⟩ : Ck) := ⟨_, rfl⟩
  rw [← hC] at HK2
  have HC := Lib.hid hC
  clear hC
  have HKP := Lib.hid (keep_any _ C now w2 HK2.out)
  have HNO : Hid (okC C now = false → errC C now = 1 ∧ keepC C now = C) := Lib.hid (fun e => by unfold errC keepC; rw [e]; exact ⟨rfl, rfl⟩)
  have HYES : Hid (okC C now = true → errC C now = 0 ∧ keepC C now = ⟨C.marks.drop (sureC C now), C.wait⟩ ∧ sureC C now < C.marks.length ∧ KeepF C now (now + later) ∧ keepC (keepC C now) now = keepC C now ∧ errC (keepC C now) now = 0 ∧ errC C (now + later) = 0 ∧ errC (keepC C now) (now + later) = 0) := Lib.hid (fun e => by
    have hf := keep_fact (t := now + later) e (by omega) (by have := HBIG.out; omega)
    have ht := keep_twice e
    refine ⟨by unfold errC; rw [e]; rfl, by unfold keepC; rw [e]; rfl, sureC_lt e, hf, ht.1, ht.2, by unfold errC; rw [hf.ok]; rfl, by unfold errC; rw [hf.okD]; rfl⟩)
  have HT : Hid (okC C now = true → 0 ≤ now) := Lib.hid (fun e => (time_iff.1 (ok_iff.1 e).2).1)
  obtain ⟨D, hD⟩ : ∃ D, D = keepC C now := ⟨_, rfl⟩
  obtain ⟨E, hE⟩ : ∃ E, E = errC C now := ⟨_, rfl⟩
  rw [← hD, ← hE] at HKP HNO HYES
  have HDD := Lib.hid hD
  clear hD hE
  obtain ⟨r, hr⟩ : ∃ r, r = okC C now := ⟨_, rfl⟩
  rw [← hr] at HNO HYES HT
  clear hr
  have kA := HA2.out.c
  go_wp2_with fail
  refine HKP.out.mono ?_
  rintro e w3 ⟨p1, n1, c1, ys, rfl, ho, hm, hb⟩
  have HA3 := Lib.hid (HA2.out.below hb)
  have HB3 : Hid (Below w.heap.size w w3) := Lib.hid (HB2.out.trans (hb.mono HB2.out.size))
  have HK3 := Lib.hid (HK2.out.below hb)
  have HKD3 := Lib.hid (HKD2.out.below hb)
  obtain ⟨dm, dw⟩ := D
  dsimp only at hm ⊢
  subst hm
  have HY3 := Lib.hid ho.kc
  clear hb ho kA HA2 HB2 HK2 HKD2 HKP
  go_upto_region 6 with fail
  have HA4 := Lib.hid (HA3.out.alloc (.cells #[.slice p1 n1 c1, .int .i64 dw] 26))
  have HB4 : Hid (Below w.heap.size w (w3.alloc (.cells #[.slice p1 n1 c1, .int .i64 dw] 26))) := Lib.hid (HB3.out.alloc HB3.out.size _)
  have HK4 := Lib.hid (HK3.out.below ((Below.refl _ _).alloc (Nat.le_refl _) (.cells #[.slice p1 n1 c1, .int .i64 dw] 26)))
  have HKD4 := Lib.hid (HKD3.out.below ((Below.refl _ _).alloc (Nat.le_refl _) (.cells #[.slice p1 n1 c1, .int .i64 dw] 26)))
  have HY4 := Lib.hid (HY3.out.below ((Below.refl _ _).alloc (Nat.le_refl _) (.cells #[.slice p1 n1 c1, .int .i64 dw] 26)))
  have HG4 : Hid (Blk (w3.alloc (.cells #[.slice p1 n1 c1, .int .i64 dw] 26)) w3.heap.size #[.slice p1 n1 c1, .int .i64 dw]) := Lib.hid (Blk.new _ _ _)
  obtain ⟨bk, hbk⟩ : ∃ z, z = w3.heap.size := ⟨_, rfl⟩
  obtain ⟨w4, hw4⟩ : ∃ z, z = w3.alloc (.cells #[.slice p1 n1 c1, .int .i64 dw] 26) := ⟨_, rfl⟩
  rw [← hw4] at HA4 HB4 HK4 HKD4 HY4 HG4 ⊢
  rw [← hbk] at HG4 ⊢
  clear hw4 hbk HA3 HB3 HK3 HKD3 HY3
  have HL4 : Hid (Ko (fun _ => False) w4 (.agg #[.slice p1 n1 c1, .int .i64 dw]) ⟨mksOf ys, dw⟩) := Lib.hid ⟨p1, n1, c1, ys, rfl, rfl, HY4.out, fun R h => h.elim⟩
  have kA := HA4.out.c
  have kG := HG4.out.c
  cases r with
  | false =>
    have HN := Lib.hid (HNO.out (by first | rfl | trivial))
    have hE : E = 1 := HN.out.1
    subst hE
    have HSM := Lib.hid (same_any _ _ _ w4 HL4.out (by rw [HN.out.2]; exact HK4.out))
    clear HNO HYES HN
    go_wp2_with fail
    refine HSM.out.mono ?_
    rintro e w5 ⟨rfl, hb⟩
    have HBE : Hid (Below w.heap.size w w5) := Lib.hid (HB4.out.trans (hb.mono HB4.out.size))
    clear hb
    go_wp2_with fail
    go_ret
    exact ⟨rfl, HBE.out⟩
  | true =>
    have HN := Lib.hid (HYES.out (by first | rfl | trivial))
    have hn0 := HT.out (by first | rfl | trivial)
    have hE : E = 0 := HN.out.1
    subst hE
    clear HNO HYES HT
    have f3 : IntKind.i64.wrap later = later := by rw [IntKind.wrap_i64]; omega
    have f4 : wrap64 later = later := by unfold wrap64; omega
    have HSA := Lib.hid (fun W hW => sure_any _ C (now + later) W (HK4.out.below (w := w4) (w' := W) hW))
    have HSB := Lib.hid (fun W hW => sure_any _ _ (now + later) W (HL4.out.below (w := w4) (w' := W) hW))
    have HKL := Lib.hid (fun W hW => keep_any _ _ now W (HL4.out.below (w := w4) (w' := W) hW))
    have hF := HN.out.2.2.2
    have hFE := hF.1.eq
    rw [← HDD.out] at hFE
    rw [hF.2.2.2.1] at HSA
    rw [hF.2.2.2.2, hFE] at HSB
    rw [hF.2.1, hF.2.2.1] at HKL
    obtain ⟨SM, hSM⟩ : ∃ z, z = sureM C (now + later) := ⟨_, rfl⟩
    rw [← hSM] at HSA HSB
    have f1 : IntKind.i64.wrap (now + later) = now + later := by rw [IntKind.wrap_i64]; have := HBIG.out; omega
    have f2 : wrap64 (now + later) = now + later := by have := HBIG.out; unfold wrap64; omega
    clear hF hFE hSM
    go_upto_region 8 with fail
    go_wp2_with fail
    refine (HSA.out w4 (Below.refl _ _)).mono ?_
    rintro e w5 ⟨a, rfl, har, -, ham, hb⟩
    obtain ⟨asp, at_, aq, am, ac, acs⟩ := a
    dsimp only
    have HB5 : Hid (Below w4.heap.size w4 w5) := Lib.hid hb
    have HAR5 := Lib.hid har
    have HAM := Lib.hid ham
    clear hb har ham HSA kA kG
    go_upto_region 9 with fail
    have HB6 : Hid (Below w4.heap.size w4 (w5.alloc (.cells #[.int .i64 asp, .int .i64 at_, .slice aq am ac] 32))) := Lib.hid (HB5.out.alloc HB5.out.size _)
    have HAR6 := Lib.hid (HAR5.out.below ((Below.refl _ _).alloc (Nat.le_refl _) (.cells #[.int .i64 asp, .int .i64 at_, .slice aq am ac] 32)))
    have HAV6 : Hid (Blk (w5.alloc (.cells #[.int .i64 asp, .int .i64 at_, .slice aq am ac] 32)) w5.heap.size #[.int .i64 asp, .int .i64 at_, .slice aq am ac]) := Lib.hid (Blk.new _ _ _)
    obtain ⟨ba, hba⟩ : ∃ z, z = w5.heap.size := ⟨_, rfl⟩
    obtain ⟨w6, hw6⟩ : ∃ z, z = w5.alloc (.cells #[.int .i64 asp, .int .i64 at_, .slice aq am ac] 32) := ⟨_, rfl⟩
    rw [← hw6] at HB6 HAR6 HAV6 ⊢
    rw [← hba] at HAV6 ⊢
    clear hw6 hba HB5 HAR5
    have kA := (HA4.out.below HB6.out).c
    have kG := (HG4.out.below HB6.out).c
    go_wp2_with fail
    refine (HSB.out w6 HB6.out).mono ?_
    rintro e w7 ⟨z, rfl, hzr, -, hzm, hb⟩
    obtain ⟨zsp, zt, zq, zm, zc, zcs⟩ := z
    dsimp only
    have HB7 : Hid (Below w4.heap.size w4 w7) := Lib.hid (HB6.out.trans (hb.mono HB6.out.size))
    have HAR7 := Lib.hid (HAR6.out.below hb)
    have HAV7 := Lib.hid (HAV6.out.below hb)
    have HZR7 := Lib.hid hzr
    have HZM := Lib.hid hzm
    clear hb hzr hzm HSB kA kG HB6 HAR6 HAV6
    go_upto_region 10 with fail
    have HB8 : Hid (Below w4.heap.size w4 (w7.alloc (.cells #[.int .i64 zsp, .int .i64 zt, .slice zq zm zc] 32))) := Lib.hid (HB7.out.alloc HB7.out.size _)
    have HAR8 := Lib.hid (HAR7.out.below ((Below.refl _ _).alloc (Nat.le_refl _) (.cells #[.int .i64 zsp, .int .i64 zt, .slice zq zm zc] 32)))
    have HAV8 := Lib.hid (HAV7.out.below ((Below.refl _ _).alloc (Nat.le_refl _) (.cells #[.int .i64 zsp, .int .i64 zt, .slice zq zm zc] 32)))
    have HZR8 := Lib.hid (HZR7.out.below ((Below.refl _ _).alloc (Nat.le_refl _) (.cells #[.int .i64 zsp, .int .i64 zt, .slice zq zm zc] 32)))
    have HZV8 : Hid (Blk (w7.alloc (.cells #[.int .i64 zsp, .int .i64 zt, .slice zq zm zc] 32)) w7.heap.size #[.int .i64 zsp, .int .i64 zt, .slice zq zm zc]) := Lib.hid (Blk.new _ _ _)
    obtain ⟨bz, hbz⟩ : ∃ z, z = w7.heap.size := ⟨_, rfl⟩
    obtain ⟨w8, hw8⟩ : ∃ z, z = w7.alloc (.cells #[.int .i64 zsp, .int .i64 zt, .slice zq zm zc] 32) := ⟨_, rfl⟩
    rw [← hw8] at HB8 HAR8 HAV8 HZR8 HZV8 ⊢
    rw [← hbz] at HZV8 ⊢
    clear hw8 hbz HB7 HAR7 HAV7 HZR7
    have kA := (HA4.out.below HB8.out).c
    have kG := (HG4.out.below HB8.out).c
    go_wp2_with fail
    refine (HKL.out w8 HB8.out).mono ?_
    rintro e w9 ⟨p2, n2, c2, zs, rfl, ho, hm2, hb⟩
    have HB9 : Hid (Below w4.heap.size w4 w9) := Lib.hid (HB8.out.trans (hb.mono HB8.out.size))
    have HAR9 := Lib.hid (HAR8.out.below hb)
    have HAV9 := Lib.hid (HAV8.out.below hb)
    have HZR9 := Lib.hid (HZR8.out.below hb)
    have HZV9 := Lib.hid (HZV8.out.below hb)
    dsimp only at hm2 ⊢
    have HLZ : Hid (Ko (fun _ => False) w9 (.agg #[.slice p2 n2 c2, .int .i64 dw]) ⟨mksOf ys, dw⟩) := Lib.hid ⟨p2, n2, c2, zs, rfl, hm2, ho.kc, fun R h => h.elim⟩
    clear hb ho hm2 HKL kA kG HB8 HAR8 HAV8 HZR8 HZV8
    go_upto_region 11 with fail
    have HB10 : Hid (Below w4.heap.size w4 (w9.alloc (.cells #[.slice p2 n2 c2, .int .i64 dw] 26))) := Lib.hid (HB9.out.alloc HB9.out.size _)
    have HAR10 := Lib.hid (HAR9.out.below ((Below.refl _ _).alloc (Nat.le_refl _) (.cells #[.slice p2 n2 c2, .int .i64 dw] 26)))
    have HAV10 := Lib.hid (HAV9.out.below ((Below.refl _ _).alloc (Nat.le_refl _) (.cells #[.slice p2 n2 c2, .int .i64 dw] 26)))
    have HZR10 := Lib.hid (HZR9.out.below ((Below.refl _ _).alloc (Nat.le_refl _) (.cells #[.slice p2 n2 c2, .int .i64 dw] 26)))
    have HZV10 := Lib.hid (HZV9.out.below ((Below.refl _ _).alloc (Nat.le_refl _) (.cells #[.slice p2 n2 c2, .int .i64 dw] 26)))
    have HLZ10 := Lib.hid (HLZ.out.below ((Below.refl _ _).alloc (Nat.le_refl _) (.cells #[.slice p2 n2 c2, .int .i64 dw] 26)))
    have HLV10 : Hid (Blk (w9.alloc (.cells #[.slice p2 n2 c2, .int .i64 dw] 26)) w9.heap.size #[.slice p2 n2 c2, .int .i64 dw]) := Lib.hid (Blk.new _ _ _)
    obtain ⟨bl, hbl⟩ : ∃ z, z = w9.heap.size := ⟨_, rfl⟩
    obtain ⟨w10, hw10⟩ : ∃ z, z = w9.alloc (.cells #[.slice p2 n2 c2, .int .i64 dw] 26) := ⟨_, rfl⟩
    rw [← hw10] at HB10 HAR10 HAV10 HZR10 HZV10 HLZ10 HLV10 ⊢
    rw [← hbl] at HLV10 ⊢
    clear hw10 hbl HB9 HAR9 HAV9 HZR9 HZV9 HLZ
    have HMS := Lib.hid (mark_same ⟨asp, at_, aq, am, ac, acs⟩ ⟨zsp, zt, zq, zm, zc, zcs⟩ w10 HAR10.out HZR10.out (by rw [← HAM.out, ← HZM.out]))
    have kA := (HA4.out.below HB10.out).c
    have kG := (HG4.out.below HB10.out).c
    have kAV := HAV10.out.c
    have kZV := HZV10.out.c
    have kLV := HLV10.out.c
    go_wp2_with fail
    refine HMS.out.mono ?_
    rintro e w11 ⟨rfl, hb⟩
    have HB11 : Hid (Below w4.heap.size w4 w11) := Lib.hid (HB10.out.trans (hb.mono HB10.out.size))
    have HLZ11 := Lib.hid (HLZ10.out.below hb)
    have HLV11 := Lib.hid (HLV10.out.below hb)
    clear hb kA kG kAV kZV kLV HMS HB10 HAR10 HAV10 HZR10 HZV10 HLZ10 HLV10 HAM HZM
    have HSM := Lib.hid (same_any _ _ _ w11 (HL4.out.below HB11.out) HLZ11.out)
    have kA := (HA4.out.below HB11.out).c
    have kG := (HG4.out.below HB11.out).c
    have kLV := HLV11.out.c
    go_wp2_with fail
    refine HSM.out.mono ?_
    rintro e w12 ⟨rfl, hb⟩
    have HB12 : Hid (Below w4.heap.size w4 w12) := Lib.hid (HB11.out.trans (hb.mono HB11.out.size))
    clear hb kA kG kLV HSM HB11 HLZ11 HLV11
    obtain ⟨s, hs⟩ : ∃ z, z = sureC C now := ⟨_, rfl⟩
    have HDR : Hid (mksOf ys = (mksOf xs).drop s ∧ s < n ∧ s + n1 = n) := Lib.hid (by
      have h2 := HN.out.2.1
      have h3 := HN.out.2.2.1
      rw [← hs] at h2 h3
      rw [HC.out] at h2 h3
      injection h2 with h2 h4
      dsimp only at h2 h3
      rw [mksOf_len, HKD4.out.xl] at h3
      refine ⟨h2, h3, ?_⟩
      have h5 := congrArg List.length h2
      rw [List.length_drop, mksOf_len, mksOf_len, HY4.out.xl, HKD4.out.xl] at h5
      omega)
    clear hs HN
    have d2 : decide ((n : Int) < (n1 : Int)) = false := decide_eq_false (by have := HDR.out.2; omega)
    have d2n : decide (n < n1) = false := decide_eq_false (by have := HDR.out.2; omega)
    have hnb := HKD4.out.nb
    have kA := (HA4.out.below HB12.out).c
    have kG := (HG4.out.below HB12.out).c
    go_wp2_with fail
    clear kA kG
    go_loopw [15] (fun i wr => ∃ k : Nat, k ≤ n1 ∧ i = .int .i64 k ∧ Below w12.heap.size w12 wr) (fun i _ => n1 - (intOf i).toNat)
    case atStart => exact ⟨0, Nat.zero_le _, rfl, Below.refl _ _⟩
    case round =>
      obtain ⟨k, hk, rfl, hb⟩ := hrel
      have HBR := Lib.hid hb
      have HBK : Hid (Below w4.heap.size w4 wr) := Lib.hid (HB12.out.trans (hb.mono HB12.out.size))
      have HBW : Hid (Below w.heap.size w wr) := Lib.hid (HB4.out.trans (HBK.out.mono HB4.out.size))
      clear hb
      have HA := Lib.hid (HA4.out.below HBK.out)
      have HG := Lib.hid (HG4.out.below HBK.out)
      have kA := HA.out.c
      have kG := HG.out.c
      by_cases hlt : k < n1
      · have hn1 : n1 ≤ 10000 := HY4.out.nb
        have hsn := HDR.out.2
        obtain ⟨b, off, rfl, hat, hmr⟩ := (HY4.out.below HBK.out).at_ k hlt
        obtain ⟨b', off', rfl, hat', hmr'⟩ := (HKD4.out.below HBK.out).at_ (s + k) (by omega)
        have HATT := Lib.hid hat
        have HATT' := Lib.hid hat'
        have hkI : (k : Int) < (n1 : Int) := by omega
        have hsI : ((s + k : Nat) : Int) < (n : Int) := by omega
        have g1 : IntKind.i64.wrap ((n : Int) - (n1 : Int)) = (s : Int) := by rw [IntKind.wrap_i64]; omega
        have g2 : wrap64 ((n : Int) - (n1 : Int)) = (s : Int) := by unfold wrap64; omega
        have g3 : IntKind.i64.wrap ((s : Int) + (k : Int)) = ((s + k : Nat) : Int) := by rw [IntKind.wrap_i64]; omega
        have g4 : wrap64 ((s : Int) + (k : Int)) = ((s + k : Nat) : Int) := by unfold wrap64; omega
        have HMM : Hid (∀ W, Below wr.heap.size wr W → Calls Try.prog 10 #[.agg #[.int .i64 (ys.getD k zV).span, .int .i64 (ys.getD k zV).when, .slice (ys.getD k zV).q (ys.getD k zV).m (ys.getD k zV).c], .agg #[.int .i64 (xs.getD (s + k) zV).span, .int .i64 (xs.getD (s + k) zV).when, .slice (xs.getD (s + k) zV).q (xs.getD (s + k) zV).m (xs.getD (s + k) zV).c]] W fun e w' => e = .returned (.bool true) ∧ Below W.heap.size W w') := Lib.hid (fun W hW =>
          mark_same _ _ W (hmr.below hW) (hmr'.below hW) (by rw [← mksOf_at, ← mksOf_at, HDR.out.1, getD_drop]))
        obtain ⟨x, hx⟩ : ∃ x, x = ys.getD k zV := ⟨_, rfl⟩
        obtain ⟨y, hy⟩ : ∃ y, y = xs.getD (s + k) zV := ⟨_, rfl⟩
        rw [← hx, ← hy] at HMM
        rw [← hx] at HATT
        rw [← hy] at HATT'
        obtain ⟨xsp, xt, xq, xm, xc, xcs⟩ := x
        obtain ⟨ysp, yt, yq, ym, yc, ycs⟩ := y
        obtain ⟨sk, hsk⟩ : ∃ z, z = s + k := ⟨_, rfl⟩
        rw [← hsk] at HATT' g3 g4 hsI
        dsimp only at HMM
        clear hat hat' hx hy hmr hmr'
        have HS : Hid (∀ W, Below wr.heap.size wr W → ((∀ t, W.cell? ⟨w.heap.size, t, none⟩ = (#[.slice (some ⟨b', off', none⟩) n c, .int .i64 wt] : Array Value)[t]?) ∧ ∀ t, W.cell? ⟨bk, t, none⟩ = (#[.slice (some ⟨b, off, none⟩) n1 c1, .int .i64 dw] : Array Value)[t]?) ∧ (W.cell? ⟨b, off + k * 3, none⟩ = some (.int .i64 xsp) ∧ W.cell? ⟨b, off + k * 3 + 1, none⟩ = some (.int .i64 xt) ∧ W.cell? ⟨b, off + k * 3 + 2, none⟩ = some (.slice xq xm xc)) ∧ W.cell? ⟨b', off' + sk * 3, none⟩ = some (.int .i64 ysp) ∧ W.cell? ⟨b', off' + sk * 3 + 1, none⟩ = some (.int .i64 yt) ∧ W.cell? ⟨b', off' + sk * 3 + 2, none⟩ = some (.slice yq ym yc)) :=
          Lib.hid (fun W hW => ⟨⟨(HA.out.below hW).c, (HG.out.below hW).c⟩, ⟨(HATT.out.below hW).c0, (HATT.out.below hW).c1, (HATT.out.below hW).c2⟩, (HATT'.out.below hW).c0, (HATT'.out.below hW).c1, (HATT'.out.below hW).c2⟩)
        have HSN := Lib.hid hsn
        have HSK := Lib.hid hsk
        clear hsn hsk
        go_upto_region 16 with fail
        clear kA kG
        refine region_plan (fun W : World => ((∀ t, W.cell? ⟨w.heap.size, t, none⟩ = (#[.slice (some ⟨b', off', none⟩) n c, .int .i64 wt] : Array Value)[t]?) ∧ ∀ t, W.cell? ⟨bk, t, none⟩ = (#[.slice (some ⟨b, off, none⟩) n1 c1, .int .i64 dw] : Array Value)[t]?) ∧ (W.cell? ⟨b, off + k * 3, none⟩ = some (.int .i64 xsp) ∧ W.cell? ⟨b, off + k * 3 + 1, none⟩ = some (.int .i64 xt) ∧ W.cell? ⟨b, off + k * 3 + 2, none⟩ = some (.slice xq xm xc)) ∧ W.cell? ⟨b', off' + sk * 3, none⟩ = some (.int .i64 ysp) ∧ W.cell? ⟨b', off' + sk * 3 + 1, none⟩ = some (.int .i64 yt) ∧ W.cell? ⟨b', off' + sk * 3 + 2, none⟩ = some (.slice yq ym yc)) 19 [(0, true), (1, true), (2, true), (3, true), (4, true), (5, true), (6, true), (7, true), (8, true), (9, true), (10, true), (11, true), (12, true), (13, true), (14, true), (15, true), (16, true), (17, true), (18, false)] (by kernel_rfl) (by kernel_rfl) (HS.out _ (Below.refl _ _).drew) ?_
        iterate 18
          refine plan_read (v := ?_) rfl (by rfl) ?_ ?_
          rotate_left
          · intro w' hS
            obtain ⟨⟨hS1, hS2⟩, ⟨hS3, hS4, hS5⟩, hS6, hS7, hS8⟩ := hS
            go_simp
            try with_reducible rfl
          try simp only [Act.put, List.setIfInBounds_toArray, List.set_cons_zero, List.set_cons_succ, List.getElem_toArray, List.getElem_cons_zero, List.getElem_cons_succ]
        refine plan_call (F := 10) (args := ?_) rfl (by rfl) ?_ ?_
        rotate_left
        · go_simp
          rfl
        refine (HMM.out wr.drew (Below.refl _ _).drew).mono ?_
        rintro e w13 ⟨rfl, hb⟩
        have HB13 : Hid (Below wr.heap.size wr w13) := Lib.hid ((Below.refl _ _).drew.trans hb)
        clear hb
        refine ⟨_, rfl, HS.out _ HB13.out, ?_⟩
        try simp only [Act.put, List.setIfInBounds_toArray, List.set_cons_zero, List.set_cons_succ, List.getElem_toArray, List.getElem_cons_zero, List.getElem_cons_succ]
        refine plan_nil ?_
        simp only [List.drop_succ_cons, List.drop_zero]
        have HBZ : Hid (Below w12.heap.size w12 w13) := Lib.hid (HBR.out.trans (HB13.out.mono HBR.out.size))
        clear HS HATT HATT' HMM HA HG HB13
        go_wp2_with fail
        go_roundw
        case rel => exact ⟨k + 1, by omega, by go_num, HBZ.out⟩
        case measure => simp [intOf]; omega
      · go_wp2_with fail
        go_ret
        exact ⟨rfl, HBW.out⟩
end Go.Proofs.Ytbogkloemmddcaa
