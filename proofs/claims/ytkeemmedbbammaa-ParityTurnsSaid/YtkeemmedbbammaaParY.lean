/- ParityTurns: the walk of the statement's function. -/
import Derived.Test.YtkeemmedbbammaaParW
import Derived.Test.YtkeemmedbbammaaParX
import Derived.Deep.CutBlock
import Derived.Deep.DeepCutAuto
namespace Go.Proofs.Ytkeemmedbbammaa
set_option linter.unusedVariables false
open Go.ChangeShapes Go.WideShapes Go.ChangeAt Go.RowKit

set_option maxHeartbeats 16000000 in
set_option maxRecDepth 100000 in
theorem turns_main (A C pb pa pw qb qa qw : Nat) (w : World) (hA : A < 256) (hC : C < 256) (hpb : pb < 256) (hpa : pa < 256) (hpw : pw < 4294967296) (hqb : qb < 256) (hqa : qa < 256) (hqw : qw < 4294967296) :
    Calls Try.prog 5 #[.int .u8 A, .int .u8 C, .agg #[.int .u8 pb, .int .u8 pa, .int .u32 pw], .agg #[.int .u8 qb, .int .u8 qa, .int .u32 qw]] w fun e w' => e = .returned (.bool true) ∧ Below w.heap.size w w' := by
  go_enter Try.func5, Try.ntmps5
  go_wp2_with fail
  refine (awake_any _).mono ?_
  rintro e w1 ⟨rfl, hb1⟩
  have HB1 : Hid (Below w.heap.size w w1) := Lib.hid ((((Below.refl _ _).alloc (Nat.le_refl _) _).alloc (by simp) _).trans (hb1.mono (by simp; omega)))
  have HP1 : Hid (Blk w1 w.heap.size #[.int .u8 pb, .int .u8 pa, .int .u32 pw]) := Lib.hid (Blk.track2 hb1)
  have HQ1 : Hid (Blk w1 (w.heap.size + 1) #[.int .u8 qb, .int .u8 qa, .int .u32 qw]) := Lib.hid (by have := Blk.track1 hb1; rwa [size_new] at this)
  clear hb1
  go_upto_region 4 with fail
  obtain ⟨n, hn⟩ : ∃ n : Nat, n = A % 8 + 1 := ⟨_, rfl⟩
  obtain ⟨m, hm⟩ : ∃ m : Nat, m = C % 16 + 1 := ⟨_, rfl⟩
  have en : (A : Int) % 8 + 1 = (n : Int) := by omega
  have em : (C : Int) % 16 + 1 = (m : Int) := by omega
  rw [en, em]
  have hn1 : 1 ≤ n := by omega
  have hn8 : n ≤ 8 := by omega
  have hm1 : 1 ≤ m := by omega
  have hm16 : m ≤ 16 := by omega
  clear hn hm en em
  obtain ⟨hgood, hE, hzero⟩ := new_good (n := n) (m := m) ⟨hn1, hn8, hm1, by omega⟩
  have hnew := new_any (n : Int) (m : Int) w1
  rw [hE] at hnew
  obtain ⟨B, hB⟩ : ∃ B, B = newB (n : Int) (m : Int) := ⟨_, rfl⟩
  rw [← hB] at hgood hnew hzero
  have HG := Lib.hid hgood
  have HZERO := Lib.hid hzero
  clear hB hE hgood hzero
  go_wp2_with fail
  refine hnew.mono ?_
  clear hnew
  rintro e w2 ⟨p, n', c, xs, pp, m', cc, rfl, ho, hb⟩
  have hnn : n' = n := by rw [← ho.zn]; exact HG.out.zn
  have hmm : m' = m := by rw [← ho.zm]; exact HG.out.zm
  subst hnn hmm
  have HO2 := Lib.hid ho.bn
  have HP2 := Lib.hid (HP1.out.below hb)
  have HQ2 := Lib.hid (HQ1.out.below hb)
  have HB2 : Hid (Below w.heap.size w w2) := Lib.hid (HB1.out.trans (hb.mono HB1.out.size))
  clear ho hb HP1 HQ1 HB1
  go_upto_region 5 with fail
  have HA2 : Hid (Below w2.heap.size w2 (w2.alloc (.cells #[.slice p n' c, .slice pp m' cc, .int .i64 B.lost] 25))) := Lib.hid ((Below.refl _ _).alloc (Nat.le_refl _) _)
  have HKB : Hid (Blk (w2.alloc (.cells #[.slice p n' c, .slice pp m' cc, .int .i64 B.lost] 25)) w2.heap.size #[.slice p n' c, .slice pp m' cc, .int .i64 B.lost]) := Lib.hid (Blk.new _ _ _)
  have HO3 := Lib.hid (HO2.out.below HA2.out)
  have HP3 := Lib.hid (HP2.out.below HA2.out)
  have HQ3 := Lib.hid (HQ2.out.below HA2.out)
  have HB3 : Hid (Below w.heap.size w (w2.alloc (.cells #[.slice p n' c, .slice pp m' cc, .int .i64 B.lost] 25))) := Lib.hid (HB2.out.trans (HA2.out.mono HB2.out.size))
  have HGE : Hid (w.heap.size ≤ w2.heap.size) := Lib.hid HB2.out.size
  obtain ⟨b1, hb1⟩ : ∃ b, b = w2.heap.size := ⟨_, rfl⟩
  obtain ⟨w3, hw3⟩ : ∃ w3, w3 = w2.alloc (.cells #[.slice p n' c, .slice pp m' cc, .int .i64 B.lost] 25) := ⟨_, rfl⟩
  rw [← hw3] at HKB HO3 HP3 HQ3 HB3 ⊢
  rw [← hb1] at HKB HGE ⊢
  clear hw3 hb1 HO2 HP2 HQ2 HB2 HA2
  have kP := HP3.out.c
  have kQ := HQ3.out.c
  have hn0 : (n' : Int) ≠ 0 := by omega
  have hm0 : (m' : Int) ≠ 0 := by omega
  go_upto_region 7 with fail
  go_quiet (fail)
  go_upto_region 8 with fail
  obtain ⟨i, hi⟩ : ∃ i, i = pb % n' := ⟨_, rfl⟩
  obtain ⟨k, hk⟩ : ∃ k, k = qb % n' := ⟨_, rfl⟩
  obtain ⟨x, hx⟩ : ∃ x, x = pa % m' := ⟨_, rfl⟩
  obtain ⟨y, hy⟩ : ∃ y, y = qa % m' := ⟨_, rfl⟩
  have ei : (pb : Int) % (n' : Int) = (i : Int) := by rw [hi]; exact (Int.natCast_emod pb n').symm
  have ek : (qb : Int) % (n' : Int) = (k : Int) := by rw [hk]; exact (Int.natCast_emod qb n').symm
  have ex : (pa : Int) % (m' : Int) = (x : Int) := by rw [hx]; exact (Int.natCast_emod pa m').symm
  have ey : (qa : Int) % (m' : Int) = (y : Int) := by rw [hy]; exact (Int.natCast_emod qa m').symm
  rw [ei, ek, ex, ey]
  have hin : i < n' := by rw [hi]; exact Nat.mod_lt _ hn1
  have hkn : k < n' := by rw [hk]; exact Nat.mod_lt _ hn1
  have hxm : x < m' := by rw [hx]; exact Nat.mod_lt _ hm1
  have hym : y < m' := by rw [hy]; exact Nat.mod_lt _ hm1
  clear ei ek ex ey hi hk hx hy hn0 hm0 kP kQ
  have HBN4 : Hid (Below w3.heap.size w3 (w3.drewN nq)) := Lib.hid (below_drewN (Below.refl _ _) _)
  obtain ⟨w4, hw4⟩ : ∃ w4, w4 = w3.drewN nq := ⟨_, rfl⟩
  rw [← hw4] at HBN4 ⊢
  have HP4 := Lib.hid (HP3.out.below HBN4.out)
  have HQ4 := Lib.hid (HQ3.out.below HBN4.out)
  have HOB4 := Lib.hid (HO3.out.below HBN4.out)
  have HKB4 := Lib.hid (HKB.out.below HBN4.out)
  have HB4 : Hid (Below w.heap.size w w4) := Lib.hid (HB3.out.trans (HBN4.out.mono HB3.out.size))
  clear hw4 HBN4 HP3 HQ3 HO3 HKB HB3
  have kP := HP4.out.c
  have kB := HKB4.out.c
  obtain ⟨C1, hC1⟩ : ∃ C, C = put B i x pw := ⟨_, rfl⟩
  have HGC1 : Hid (Good C1 n' m') := Lib.hid (by rw [hC1]; exact put_good HG.out pw hin hxm)
  have h8 := write_any p n' c xs pp m' cc B i x pw w4 HOB4.out hpw
  rw [(write_good HG.out pw hin hxm).1, (write_good HG.out pw hin hxm).2, ← hC1] at h8
  have HC1 := Lib.hid hC1
  clear hC1
  go_wp2_with fail
  refine h8.mono ?_
  clear h8
  rintro e w5 ⟨p5, c5, ys5, pp5, cc5, rfl, ho, hb⟩
  have HOC5 := Lib.hid ho.bn
  have HP5 := Lib.hid (HP4.out.below hb)
  have HQ5 := Lib.hid (HQ4.out.below hb)
  have HOB5 := Lib.hid (HOB4.out.below hb)
  have HKB5 := Lib.hid (HKB4.out.below hb)
  have HB5 : Hid (Below w.heap.size w w5) := Lib.hid (HB4.out.trans (hb.mono HB4.out.size))
  clear ho hb HP4 HQ4 HOB4 HKB4 HB4 kP kB
  go_upto_region 9 with fail
  have HA5 : Hid (Below w5.heap.size w5 (w5.alloc (.cells #[.slice p5 n' c5, .slice pp5 m' cc5, .int .i64 C1.lost] 25))) := Lib.hid ((Below.refl _ _).alloc (Nat.le_refl _) _)
  have HKC6 : Hid (Blk (w5.alloc (.cells #[.slice p5 n' c5, .slice pp5 m' cc5, .int .i64 C1.lost] 25)) w5.heap.size #[.slice p5 n' c5, .slice pp5 m' cc5, .int .i64 C1.lost]) := Lib.hid (Blk.new _ _ _)
  have HFB : Hid (Off w5.heap.size p xs B.rows pp B.par) := Lib.hid (HOB5.out.off (Nat.le_refl _))
  have HLP : Hid (w.heap.size < w5.heap.size) := Lib.hid HP5.out.lt
  have HLQ : Hid (w.heap.size + 1 < w5.heap.size) := Lib.hid HQ5.out.lt
  have HLB : Hid (b1 < w5.heap.size) := Lib.hid HKB5.out.lt
  obtain ⟨b2, hb2⟩ : ∃ b, b = w5.heap.size := ⟨_, rfl⟩
  obtain ⟨w6, hw6⟩ : ∃ w6, w6 = w5.alloc (.cells #[.slice p5 n' c5, .slice pp5 m' cc5, .int .i64 C1.lost] 25) := ⟨_, rfl⟩
  rw [← hw6] at HA5 HKC6 ⊢
  have HOC6 := Lib.hid (HOC5.out.below HA5.out)
  have HP6 := Lib.hid (HP5.out.below HA5.out)
  have HQ6 := Lib.hid (HQ5.out.below HA5.out)
  have HOB6 := Lib.hid (HOB5.out.below HA5.out)
  have HKB6 := Lib.hid (HKB5.out.below HA5.out)
  have HB6 : Hid (Below w.heap.size w w6) := Lib.hid (HB5.out.trans (HA5.out.mono HB5.out.size))
  rw [← hb2] at HKC6 HFB HLP HLQ HLB ⊢
  clear hw6 hb2 HOC5 HP5 HQ5 HOB5 HKB5 HB5 HA5
  have kQ := HQ6.out.c
  have kC := HKC6.out.c
  obtain ⟨C2, hC2⟩ : ∃ C, C = put C1 k y qw := ⟨_, rfl⟩
  have HGC2 : Hid (Good C2 n' m') := Lib.hid (by rw [hC2]; exact put_good HGC1.out qw hkn hym)
  have h9 := write_any p5 n' c5 ys5 pp5 m' cc5 C1 k y qw w6 HOC6.out hqw
  rw [(write_good HGC1.out qw hkn hym).1, (write_good HGC1.out qw hkn hym).2, ← hC2] at h9
  have HC2 := Lib.hid hC2
  clear hC2
  go_wp2_with fail
  refine h9.mono ?_
  clear h9
  rintro e w7 ⟨p7, c7, ys7, pp7, cc7, rfl, ho, hb⟩
  have HOC7 := Lib.hid ho.bn
  have HFC7 : Hid (Off b2 p7 ys7 C2.rows pp7 C2.par) := Lib.hid (ho.off HKC6.out.lt)
  have HKC7 := Lib.hid (HKC6.out.below hb)
  have HP7 := Lib.hid (HP6.out.below hb)
  have HQ7 := Lib.hid (HQ6.out.below hb)
  have HOB7 := Lib.hid (HOB6.out.below hb)
  have HKB7 := Lib.hid (HKB6.out.below hb)
  have HB7 : Hid (Below w.heap.size w w7) := Lib.hid (HB6.out.trans (hb.mono HB6.out.size))
  clear ho hb HKC6 HP6 HQ6 HOB6 HKB6 HB6 HOC6 kQ kC
  have kC := HKC7.out.c
  have fC := HKC7.out.f
  have lC := HKC7.out.lt
  go_upto_region 10 with fail
  obtain ⟨w8, hw8⟩ : ∃ w8, w8 = ((w7.setCell ⟨b2, 0, none⟩ (.slice p7 n' c7)).setCell ⟨b2, 1, none⟩ (.slice pp7 m' cc7)).setCell ⟨b2, 2, none⟩ (.int .i64 C2.lost) := ⟨_, rfl⟩
  have HOC8 : Hid (Bn w8 p7 n' c7 ys7 pp7 m' cc7 C2) := Lib.hid (by rw [hw8]; exact HOC7.out.set3 HFC7.out _ _ _)
  have HKC8 : Hid (Blk w8 b2 #[.slice p7 n' c7, .slice pp7 m' cc7, .int .i64 C2.lost]) := Lib.hid (by rw [hw8]; exact set3_same HKC7.out _ _ _)
  have HP8 : Hid (Blk w8 w.heap.size #[.int .u8 pb, .int .u8 pa, .int .u32 pw]) := Lib.hid (by rw [hw8]; exact set3_other HP7.out (by have := HLP.out; omega) _ _ _)
  have HQ8 : Hid (Blk w8 (w.heap.size + 1) #[.int .u8 qb, .int .u8 qa, .int .u32 qw]) := Lib.hid (by rw [hw8]; exact set3_other HQ7.out (by have := HLQ.out; omega) _ _ _)
  have HKB8 : Hid (Blk w8 b1 #[.slice p n' c, .slice pp m' cc, .int .i64 B.lost]) := Lib.hid (by rw [hw8]; exact set3_other HKB7.out (by have := HLB.out; omega) _ _ _)
  have HOB8 : Hid (Bn w8 p n' c xs pp m' cc B) := Lib.hid (by rw [hw8]; exact HOB7.out.set3 HFB.out _ _ _)
  have HB8 : Hid (Below w.heap.size w w8) := Lib.hid (by rw [hw8]; exact set3_below HB7.out (by have := HLP.out; omega) _ _ _)
  rw [← hw8]
  clear hw8 kC fC lC HOC7 HFC7 HKC7 HP7 HQ7 HKB7 HOB7 HB7 HFB HLB
  have kB := HKB8.out.c
  have kQ := HQ8.out.c
  obtain ⟨D1, hD1⟩ : ∃ C, C = put B k y qw := ⟨_, rfl⟩
  have HGD1 : Hid (Good D1 n' m') := Lib.hid (by rw [hD1]; exact put_good HG.out qw hkn hym)
  have h10 := write_any p n' c xs pp m' cc B k y qw w8 HOB8.out hqw
  rw [(write_good HG.out qw hkn hym).1, (write_good HG.out qw hkn hym).2, ← hD1] at h10
  have HD1 := Lib.hid hD1
  clear hD1
  go_wp2_with fail
  refine h10.mono ?_
  clear h10
  rintro e w9 ⟨p9, c9, ys9, pp9, cc9, rfl, ho, hb⟩
  have HOD9 := Lib.hid ho.bn
  have HP9 := Lib.hid (HP8.out.below hb)
  have HQ9 := Lib.hid (HQ8.out.below hb)
  have HOC9 := Lib.hid (HOC8.out.below hb)
  have HKC9 := Lib.hid (HKC8.out.below hb)
  have HB9 : Hid (Below w.heap.size w w9) := Lib.hid (HB8.out.trans (hb.mono HB8.out.size))
  clear ho hb HP8 HQ8 HOB8 HKB8 HB8 HOC8 HKC8 kB kQ
  go_upto_region 11 with fail
  have HA9 : Hid (Below w9.heap.size w9 (w9.alloc (.cells #[.slice p9 n' c9, .slice pp9 m' cc9, .int .i64 D1.lost] 25))) := Lib.hid ((Below.refl _ _).alloc (Nat.le_refl _) _)
  have HKD10 : Hid (Blk (w9.alloc (.cells #[.slice p9 n' c9, .slice pp9 m' cc9, .int .i64 D1.lost] 25)) w9.heap.size #[.slice p9 n' c9, .slice pp9 m' cc9, .int .i64 D1.lost]) := Lib.hid (Blk.new _ _ _)
  have HFC : Hid (Off w9.heap.size p7 ys7 C2.rows pp7 C2.par) := Lib.hid (HOC9.out.off (Nat.le_refl _))
  have HLP3 : Hid (w.heap.size < w9.heap.size) := Lib.hid HP9.out.lt
  have HLQ3 : Hid (w.heap.size + 1 < w9.heap.size) := Lib.hid HQ9.out.lt
  have HLC3 : Hid (b2 < w9.heap.size) := Lib.hid HKC9.out.lt
  obtain ⟨b3, hb3⟩ : ∃ b, b = w9.heap.size := ⟨_, rfl⟩
  obtain ⟨w10, hw10⟩ : ∃ w10, w10 = w9.alloc (.cells #[.slice p9 n' c9, .slice pp9 m' cc9, .int .i64 D1.lost] 25) := ⟨_, rfl⟩
  rw [← hw10] at HA9 HKD10 ⊢
  have HOD10 := Lib.hid (HOD9.out.below HA9.out)
  have HP10 := Lib.hid (HP9.out.below HA9.out)
  have HQ10 := Lib.hid (HQ9.out.below HA9.out)
  have HOC10 := Lib.hid (HOC9.out.below HA9.out)
  have HKC10 := Lib.hid (HKC9.out.below HA9.out)
  have HB10 : Hid (Below w.heap.size w w10) := Lib.hid (HB9.out.trans (HA9.out.mono HB9.out.size))
  rw [← hb3] at HKD10 HFC HLP3 HLQ3 HLC3 ⊢
  clear hw10 hb3 HOD9 HP9 HQ9 HOC9 HKC9 HB9 HA9
  have kP := HP10.out.c
  have kD := HKD10.out.c
  obtain ⟨D2, hD2⟩ : ∃ C, C = put D1 i x pw := ⟨_, rfl⟩
  have h11 := write_any p9 n' c9 ys9 pp9 m' cc9 D1 i x pw w10 HOD10.out hpw
  rw [(write_good HGD1.out pw hin hxm).1, (write_good HGD1.out pw hin hxm).2, ← hD2] at h11
  have HD2 := Lib.hid hD2
  clear hD2
  go_wp2_with fail
  refine h11.mono ?_
  clear h11
  rintro e w11 ⟨p11, c11, ys11, pp11, cc11, rfl, ho, hb⟩
  have HOD11 := Lib.hid ho.bn
  have HFD11 : Hid (Off b3 p11 ys11 D2.rows pp11 D2.par) := Lib.hid (ho.off HKD10.out.lt)
  have HKD11 := Lib.hid (HKD10.out.below hb)
  have HQ11 := Lib.hid (HQ10.out.below hb)
  have HOC11 := Lib.hid (HOC10.out.below hb)
  have HKC11 := Lib.hid (HKC10.out.below hb)
  have HB11 : Hid (Below w.heap.size w w11) := Lib.hid (HB10.out.trans (hb.mono HB10.out.size))
  clear ho hb HKD10 HP10 HQ10 HOC10 HKC10 HB10 HOD10 kP kD
  have kD := HKD11.out.c
  have fD := HKD11.out.f
  have lD := HKD11.out.lt
  go_upto_region 12 with fail
  obtain ⟨w12, hw12⟩ : ∃ w12, w12 = ((w11.setCell ⟨b3, 0, none⟩ (.slice p11 n' c11)).setCell ⟨b3, 1, none⟩ (.slice pp11 m' cc11)).setCell ⟨b3, 2, none⟩ (.int .i64 D2.lost) := ⟨_, rfl⟩
  have HOD12 : Hid (Bn w12 p11 n' c11 ys11 pp11 m' cc11 D2) := Lib.hid (by rw [hw12]; exact HOD11.out.set3 HFD11.out _ _ _)
  have HKD12 : Hid (Blk w12 b3 #[.slice p11 n' c11, .slice pp11 m' cc11, .int .i64 D2.lost]) := Lib.hid (by rw [hw12]; exact set3_same HKD11.out _ _ _)
  have HQ12 : Hid (Blk w12 (w.heap.size + 1) #[.int .u8 qb, .int .u8 qa, .int .u32 qw]) := Lib.hid (by rw [hw12]; exact set3_other HQ11.out (by have := HLQ3.out; omega) _ _ _)
  have HKC12 : Hid (Blk w12 b2 #[.slice p7 n' c7, .slice pp7 m' cc7, .int .i64 C2.lost]) := Lib.hid (by rw [hw12]; exact set3_other HKC11.out (by have := HLC3.out; omega) _ _ _)
  have HOC12 : Hid (Bn w12 p7 n' c7 ys7 pp7 m' cc7 C2) := Lib.hid (by rw [hw12]; exact HOC11.out.set3 HFC.out _ _ _)
  have HB12 : Hid (Below w.heap.size w w12) := Lib.hid (by rw [hw12]; exact set3_below HB11.out (by have := HLP3.out; omega) _ _ _)
  rw [← hw12]
  clear hw12 kD fD lD HOD11 HFD11 HKD11 HQ11 HKC11 HOC11 HB11 HFC HLQ3 HLC3 HLP3
  go_cut [115] (fun s wd => s = .bool false ∧ Below w12.heap.size w12 wd)
  case first =>
    as_aux_lemma =>
      have kC := HKC12.out.c
      have kD := HKD12.out.c
      by_cases hne : i ≠ k ∨ x ≠ y
      · have heq : D2 = C2 := by rw [HD2.out, HC2.out, HC1.out, HD1.out]; exact (put_turn HG.out hin hxm hkn hym hne).symm
        have HS := Lib.hid (same_any p7 n' c7 ys7 pp7 m' cc7 p11 n' c11 ys11 pp11 m' cc11 C2 w12 HOC12.out (by rw [← heq]; exact HOD12.out))
        rw [heq] at kD ⊢
        clear heq
        by_cases hik : i = k
        · have e1 : ((i : Int) != (k : Int)) = false := by simp; omega
          have e2 : ((x : Int) != (y : Int)) = true := by simp; omega
          clear hne hik
          go_wp2_with (first | (go_at_call 12; refine HS.out.mono ?_; rintro e w13 ⟨rfl, hb⟩; have HB13 := Lib.hid hb; clear hb))
          go_meet
          case rel => exact ⟨rfl, HB13.out⟩
        · have e1 : ((i : Int) != (k : Int)) = true := by simp; omega
          clear hne hik
          go_wp2_with (first | (go_at_call 12; refine HS.out.mono ?_; rintro e w13 ⟨rfl, hb⟩; have HB13 := Lib.hid hb; clear hb))
          go_meet
          case rel => exact ⟨rfl, HB13.out⟩
      · have e1 : ((i : Int) != (k : Int)) = false := by simp; omega
        have e2 : ((x : Int) != (y : Int)) = false := by simp; omega
        clear hne
        go_wp2_with fail
        go_meet
        case rel => exact ⟨rfl, Below.refl _ _⟩
  case rest =>
   as_aux_lemma =>
    obtain ⟨rfl, hbel⟩ := hcut
    have HQ13 := Lib.hid (HQ12.out.below hbel)
    have HKC13 := Lib.hid (HKC12.out.below hbel)
    have HOC13 := Lib.hid (HOC12.out.below hbel)
    have HB13 : Hid (Below w.heap.size w wc) := Lib.hid (HB12.out.trans (hbel.mono HB12.out.size))
    clear hbel HQ12 HKC12 HOC12 HB12 HOD12 HKD12 HD1 HD2 HGD1
    have kC := HKC13.out.c
    have h14 := read_any p7 n' c7 ys7 pp7 m' cc7 C2 k y wc HOC13.out
    have hwd2 : wd C2 k y = qw := by rw [HC2.out, wd_put HGC1.out hkn hym, if_pos ⟨rfl, rfl⟩]
    rw [(read_good HGC2.out hkn hym).1, (read_good HGC2.out hkn hym).2, hwd2] at h14
    have h15 := fun W hb => write_any p7 n' c7 ys7 pp7 m' cc7 C2 k y qw W (HOC13.out.below hb) hqw
    have hps := put_same HGC2.out hkn hym
    rw [hwd2] at hps
    rw [(write_good HGC2.out qw hkn hym).1, (write_good HGC2.out qw hkn hym).2, hps] at h15
    have H15 := Lib.hid h15
    clear h15 hps hwd2
    go_upto_region 14 with fail
    go_wp2_with fail
    refine h14.mono ?_
    clear h14
    rintro e w14 ⟨rfl, hb14⟩
    have HW14 := Lib.hid hb14
    have HQ14 := Lib.hid (HQ13.out.below hb14)
    have HKC14 := Lib.hid (HKC13.out.below hb14)
    have HOC14 := Lib.hid (HOC13.out.below hb14)
    have HB14 : Hid (Below w.heap.size w w14) := Lib.hid (HB13.out.trans (hb14.mono HB13.out.size))
    clear hb14 HQ13 HKC13 HOC13 HB13 kC
    have kC := HKC14.out.c
    go_upto_region 15 with fail
    go_wp2_with fail
    refine (H15.out w14 HW14.out).mono ?_
    rintro e w15 ⟨p15, c15, ys15, pp15, cc15, rfl, ho, hb⟩
    have HG15 := Lib.hid ho.bn
    have HQ15 := Lib.hid (HQ14.out.below hb)
    have HKC15 := Lib.hid (HKC14.out.below hb)
    have HOC15 := Lib.hid (HOC14.out.below hb)
    have HB15 : Hid (Below w.heap.size w w15) := Lib.hid (HB14.out.trans (hb.mono HB14.out.size))
    clear ho hb HQ14 HKC14 HOC14 HB14 kC H15 HW14
    go_upto_region 16 with fail
    have HA15 : Hid (Below w15.heap.size w15 (w15.alloc (.cells #[.slice p15 n' c15, .slice pp15 m' cc15, .int .i64 C2.lost] 25))) := Lib.hid ((Below.refl _ _).alloc (Nat.le_refl _) _)
    have HKG16 : Hid (Blk (w15.alloc (.cells #[.slice p15 n' c15, .slice pp15 m' cc15, .int .i64 C2.lost] 25)) w15.heap.size #[.slice p15 n' c15, .slice pp15 m' cc15, .int .i64 C2.lost]) := Lib.hid (Blk.new _ _ _)
    obtain ⟨b4, hb4⟩ : ∃ b, b = w15.heap.size := ⟨_, rfl⟩
    obtain ⟨w16, hw16⟩ : ∃ w16, w16 = w15.alloc (.cells #[.slice p15 n' c15, .slice pp15 m' cc15, .int .i64 C2.lost] 25) := ⟨_, rfl⟩
    rw [← hw16] at HA15 HKG16 ⊢
    have HQ16 := Lib.hid (HQ15.out.below HA15.out)
    have HKC16 := Lib.hid (HKC15.out.below HA15.out)
    have HOC16 := Lib.hid (HOC15.out.below HA15.out)
    have HOG16 := Lib.hid (HG15.out.below HA15.out)
    have HB16 : Hid (Below w.heap.size w w16) := Lib.hid (HB15.out.trans (HA15.out.mono HB15.out.size))
    rw [← hb4] at HKG16 ⊢
    clear hw16 hb4 HQ15 HKC15 HOC15 HG15 HB15 HA15
    have kC := HKC16.out.c
    have kG := HKG16.out.c
    have kQ := HQ16.out.c
    have HS := Lib.hid (same_any p7 n' c7 ys7 pp7 m' cc7 p15 n' c15 ys15 pp15 m' cc15 C2 w16 HOC16.out HOG16.out)
    have hqq : ((qw : Int) != (qw : Int)) = false := by simp
    go_upto_region 18 with (first | (go_at_call 12; refine HS.out.mono ?_; rintro e w17 ⟨rfl, hb⟩; have HB17 := Lib.hid hb; clear hb))
    have HKC17 := Lib.hid (HKC16.out.below HB17.out)
    have HOC17 := Lib.hid (HOC16.out.below HB17.out)
    have HBW : Hid (Below w.heap.size w w17) := Lib.hid (HB16.out.trans (HB17.out.mono HB16.out.size))
    clear HQ16 HKC16 HOC16 HOG16 HB16 HKG16 HS kC kG kQ hqq HB17
    go_wp2_with fail
    go_loopw [25] (fun s wr => ∃ j : Nat, j ≤ m' ∧ s = .int .i64 j ∧ Below w17.heap.size w17 wr) (fun s _ => m' - (intOf s).toNat)
    case atStart => exact ⟨0, Nat.zero_le _, rfl, Below.refl _ _⟩
    case round =>
      obtain ⟨j, hj, rfl, hb⟩ := hrel
      have HKC := Lib.hid (HKC17.out.below hb)
      have HOC := Lib.hid (HOC17.out.below hb)
      have HB := Lib.hid hb
      clear hb
      have kC := HKC.out.c
      by_cases hlt : j < m'
      · have hltI : decide ((j : Int) < m') = true := decide_eq_true (by omega)
        by_cases h1 : n' = 1
        · have h1I : ((n' : Int) == 1) = true := by simp; omega
          have hrd := read_any p7 n' c7 ys7 pp7 m' cc7 C2 ((0 : Nat) : Int) j wr HOC.out
          have hrg := read_good HGC2.out (j := 0) (i := j) (by omega) hlt
          rw [hrg.1, hrg.2] at hrd
          have hpo : C2.par.getD j 0 = wd C2 0 j := by
            have hg := HGC2.out
            rw [h1] at hg
            exact par_one hg hlt
          clear h1
          obtain ⟨b5, o5, hb5, hq5, hc5⟩ := HOC.out.nm.cellAt j (by rw [HOC.out.zm]; exact hlt)
          rw [hpo] at hc5
          obtain ⟨u, hu⟩ : ∃ u, u = wd C2 0 j := ⟨_, rfl⟩
          rw [← hu] at hrd hc5
          have HC5 := Lib.hid hc5
          have HB5 := Lib.hid hb5
          have HRD := Lib.hid hrd
          subst hq5
          have huu : ((u : Int) != (u : Int)) = false := by simp
          clear hrd hrg hpo hc5 hb5 hu
          go_upto_region 22 with (first | (go_at_call 8; refine HRD.out.mono ?_; rintro e w18 ⟨rfl, hb⟩; have HB18 := Lib.hid hb; clear hb))
          have HKC18 := Lib.hid (HKC.out.below HB18.out)
          have k5 := (HB18.out.cell (p := ⟨b5, o5 + j, none⟩) HB5.out).trans HC5.out
          have HBJ := Lib.hid (HB.out.trans (HB18.out.mono HB.out.size))
          clear kC
          have kC := HKC18.out.c
          have hjI : (0 : Int) ≤ (j : Int) := by omega
          go_wp2_with fail
          go_roundw
          case rel => exact ⟨j + 1, by omega, by go_num, HBJ.out⟩
          case measure => simp [intOf]; omega
        · have h1I : ((n' : Int) == 1) = false := by simp; omega
          clear h1
          go_wp2_with fail
          go_ret
          exact ⟨rfl, HBW.out.trans (HB.out.mono HBW.out.size)⟩
      · have hltI : decide ((j : Int) < m') = false := decide_eq_false (by omega)
        go_wp2_with fail
        go_ret
        exact ⟨rfl, HBW.out.trans (HB.out.mono HBW.out.size)⟩
end Go.Proofs.Ytkeemmedbbammaa
