/- ClockSure: the walk of the statement's function; no condition but that the list reads. -/
import Derived.Test.YtbogkloemmddcaaCkS
namespace Go.Proofs.Ytbogkloemmddcaa
set_option linter.unusedVariables false
open Go.ChangeShapes Go.WideShapes Go.ChangeAt Go.RowKit

set_option maxHeartbeats 16000000 in
set_option maxRecDepth 100000 in
theorem sure_main (wait : Nat) (p0 : Option Addr) (len cap : Nat) (ds : List Dt) (w : World) (hwt : wait < 256) (hz : ds.length = len) (hmx : len ≤ maxLen) (hf : ∀ d ∈ ds, d.Fits) (hq : Els w p0 2 len (fun k => (ds.getD k dt0).row)) :
    Calls Try.prog 3 #[.int .u8 wait, .slice p0 len cap] w fun e w' => e = .returned (.bool true) ∧ Below w.heap.size w w' := by
  have HQ := Lib.hid hq
  have HZ := Lib.hid hz
  have HF := Lib.hid hf
  unfold maxLen at hmx
  clear hq hz hf
  have HN : Hid (∀ W, Calls Try.prog 6 #[.int .i64 ((wait : Int) + 1), .slice none 0 0] W fun e w' => OutW W w' e (newK ((wait : Int) + 1) []) 0) := Lib.hid (fun W => by
    have := new_any ((wait : Int) + 1) none 0 0 [] W rfl (Nat.le_refl _) (Nat.zero_le _) (Sl.empty _ _ _)
    rw [(Inv.new wait hwt).2.1, (Inv.new wait hwt).2.2.1] at this; exact this)
  have HI0 : Hid (Inv wait (newK ((wait : Int) + 1) []) 0 0 ∧ sureM (newK ((wait : Int) + 1) []) 0 = zM) := Lib.hid (by
    have := Inv.new wait hwt
    rw [this.2.2.1] at this; exact ⟨this.1, this.2.2.2⟩)
  obtain ⟨C0, hC0⟩ : ∃ z, z = newK ((wait : Int) + 1) [] := ⟨_, rfl⟩
  have HCW : Hid (C0.wait = (wait : Int) + 1) := Lib.hid (by rw [hC0]; rfl)
  rw [← hC0] at HN HI0
  clear hC0
  obtain ⟨wt, hwe⟩ : ∃ z : Int, z = (wait : Int) + 1 := ⟨_, rfl⟩
  rw [← hwe] at HN HCW
  have f1 : IntKind.i64.wrap ((wait : Int) + 1) = wt := by rw [IntKind.wrap_i64]; omega
  have f2 : wrap64 ((wait : Int) + 1) = wt := by unfold wrap64; omega
  have f3 : IntKind.i64.wrap (wait : Int) = (wait : Int) := by rw [IntKind.wrap_i64]; omega
  have f4 : wrap64 (wait : Int) = (wait : Int) := by unfold wrap64; omega
  have HF34 := Lib.hid (And.intro f3 f4)
  have HWE := Lib.hid hwe
  clear hwe
  go_enter Try.func3, Try.ntmps3
  go_wp2_with fail
  refine (awake_any _).mono ?_
  rintro e w1 ⟨rfl, hb1⟩
  have HB1 : Hid (Below w.heap.size w w1) := Lib.hid hb1
  clear hb1
  go_wp2_with fail
  refine (HN.out w1).mono ?_
  rintro e w2 ⟨p, n, c, xs, rfl, ho, hm, hb⟩
  have HB2 : Hid (Below w.heap.size w w2) := Lib.hid (HB1.out.trans (hb.mono HB1.out.size))
  have HO2 := Lib.hid ho
  have HM2 : Hid (isC C0 wt xs) := Lib.hid (by
    obtain ⟨a, b⟩ := C0
    have h1 := HCW.out
    dsimp only at h1 hm
    subst h1 hm; rfl)
  rw [HCW.out]
  clear hb ho hm HN HB1 HCW f1 f2 f3 f4
  go_upto_region 8 with fail
  have HCS : Hid (Cs w ((w2.alloc (.cells #[.slice p n c, .int .i64 wt] 26)).alloc (.cells #[.int .i64 0, .int .i64 0, .slice none 0 0] 32)) w2.heap.size (w2.heap.size + 1) p n c wt xs 0 0 none 0 0) := Lib.hid (by
    have hb2 := HB2.out.size
    have k1 := Blk.new w2 #[.slice p n c, .int .i64 wt] 26
    have k2 := Blk.new (w2.alloc (.cells #[.slice p n c, .int .i64 wt] 26)) #[.int .i64 0, .int .i64 0, .slice none 0 0] 32
    rw [World.size_alloc] at k2
    have hA : Below w2.heap.size w2 ((w2.alloc (.cells #[.slice p n c, .int .i64 wt] 26)).alloc (.cells #[.int .i64 0, .int .i64 0, .slice none 0 0] 32)) := ((Below.refl _ _).alloc (Nat.le_refl _) _).alloc (by simp) _
    refine ⟨k1.alloc _, k2, ⟨(HO2.out.below hA).kc, ⟨HO2.out.kc.sl.off (Nat.le_refl _), fun x hx => (HO2.out.rd x hx).sl.off (Nat.le_refl _)⟩, ⟨HO2.out.kc.sl.off (Nat.le_succ _), fun x hx => (HO2.out.rd x hx).sl.off (Nat.le_succ _)⟩⟩, HB2.out.trans (hA.mono hb2), hb2, by omega, by omega⟩)
  have HBB : Hid (w2.heap.size < ((w2.alloc (.cells #[.slice p n c, .int .i64 wt] 26)).alloc (.cells #[.int .i64 0, .int .i64 0, .slice none 0 0] 32)).heap.size) := Lib.hid (by simp; omega)
  obtain ⟨bl, hbl⟩ : ∃ z, z = w2.heap.size + 1 := ⟨_, rfl⟩
  obtain ⟨w3, hw3⟩ : ∃ z, z = (w2.alloc (.cells #[.slice p n c, .int .i64 wt] 26)).alloc (.cells #[.int .i64 0, .int .i64 0, .slice none 0 0] 32) := ⟨_, rfl⟩
  rw [← hw3, ← hbl] at HCS
  rw [← hw3, ← hbl]
  obtain ⟨bc, hbc⟩ : ∃ z, z = w2.heap.size := ⟨_, rfl⟩
  rw [← hbc] at HCS
  rw [← hbc]
  clear hbl hw3 hbc HB2 HO2 HBB
  go_wp2_with fail
  go_loopw [7, 8, 10] (fun s7 s8 s10 wr => ∃ (k : Nat) (now span : Int) (C : Ck) (p : Option Addr) (n c : Nat) (xs : List Mv) (lsp lt : Int) (lq : Option Addr) (lm lc : Nat), k ≤ len ∧ k ≤ 100 ∧ s10 = .int .i64 k ∧ s7 = .int .i64 now ∧ s8 = .int .i64 span ∧ now ≤ 255 * k ∧ span ≤ k ∧ Inv wait C now span ∧ isC C wt xs ∧ lsp = (sureM C now).span ∧ lt = (sureM C now).when ∧ Cs w wr bc bl p n c wt xs lsp lt lq lm lc) (fun _ _ s10 _ => len - (intOf s10).toNat)
  case atStart => exact ⟨0, 0, 0, C0, p, n, c, xs, 0, 0, none, 0, 0, Nat.zero_le _, Nat.zero_le _, rfl, rfl, rfl, by omega, by omega, HI0.out.1, HM2.out, by rw [HI0.out.2]; rfl, by rw [HI0.out.2]; rfl, HCS.out⟩
  case round =>
    clear HCS HM2 HI0
    obtain ⟨k, now, span, C, p, n, c, xs, lsp, lt, lq, lm, lc, hk, hk100, rfl, rfl, rfl, hnk, hsk, hinv, his, hlsp, hlt, hcs⟩ := hrel
    have HCS := Lib.hid hcs
    have HINV := Lib.hid hinv
    have HIS := Lib.hid his
    have HLS := Lib.hid (And.intro hlsp hlt)
    clear hcs hinv his hlsp hlt
    go_upto_region 9 with fail
    go_cut [45] (fun s45 wd => s45 = .bool (decide (k < len ∧ k < 100)) ∧ wr = wd)
    case first =>
      by_cases h1 : k < len
      · have h1I : decide ((k : Int) < len) = true := decide_eq_true (by omega)
        by_cases h2 : k < 100
        · have h2I : decide ((k : Int) < 100) = true := decide_eq_true (by omega)
          have HGO : Hid (decide (k < len ∧ k < 100) = true) := Lib.hid (decide_eq_true ⟨h1, h2⟩)
          go_wp2_with fail
          go_meet
          case rel => exact ⟨by rw [HGO.out], rfl⟩
        · have h2I : decide ((k : Int) < 100) = false := decide_eq_false (by omega)
          have HGO : Hid (decide (k < len ∧ k < 100) = false) := Lib.hid (decide_eq_false (by omega))
          go_wp2_with fail
          go_meet
          case rel => exact ⟨by rw [HGO.out], rfl⟩
      · have h1I : decide ((k : Int) < len) = false := decide_eq_false (by omega)
        have HGO : Hid (decide (k < len ∧ k < 100) = false) := Lib.hid (decide_eq_false (by omega))
        go_wp2_with fail
        go_meet
        case rel => exact ⟨by rw [HGO.out], rfl⟩
    case rest =>
      obtain ⟨rfl, rfl⟩ := hcut
      by_cases hgo : k < len ∧ k < 100
      · rw [decide_eq_true hgo]
        obtain ⟨hkl, hk1⟩ := hgo
        obtain ⟨bq, off, hbl, rfl, hc⟩ := HQ.out (by omega)
        have hfit := HF.out (ds.getD k dt0) (by
          rw [List.getD_eq_getElem?_getD, List.getElem?_eq_getElem (by rw [HZ.out]; exact hkl)]; exact List.getElem_mem _)
        obtain ⟨⟨kd, more⟩, hyy⟩ : ∃ y, ds.getD k dt0 = y := ⟨_, rfl⟩
        have hc0 : wr.cell? ⟨bq, off + k * 2 + 0, none⟩ = (ds.getD k dt0).row[0]? := (HCS.out.hb.cell (p := ⟨bq, off + k * 2 + 0, none⟩) hbl).trans (hc k hkl 0 (by decide))
        have hc1 : wr.cell? ⟨bq, off + k * 2 + 1, none⟩ = (ds.getD k dt0).row[1]? := (HCS.out.hb.cell (p := ⟨bq, off + k * 2 + 1, none⟩) hbl).trans (hc k hkl 1 (by decide))
        rw [hyy] at hc0 hc1 hfit
        have hd0 : wr.cell? ⟨bq, off + k * 2, none⟩ = some (.int .u8 (kd : Int)) := hc0
        have hd1 : wr.cell? ⟨bq, off + k * 2 + 1, none⟩ = some (.int .u8 (more : Int)) := hc1
        have hkd : kd < 256 := hfit.1
        have hmo : more < 256 := hfit.2
        have hkI : (0 : Int) ≤ (k : Int) := by omega
        have hkI2 : (k : Int) < (len : Int) := by omega
        clear hc hc0 hc1 hyy hfit
        have hn0 := HINV.out.n0
        have hs0 := HINV.out.s0
        obtain ⟨T, ⟨hwm, hwm2⟩, ⟨hwn, hwn2⟩, hnT, hT0, hTk, hTm⟩ := time_facts hn0 hnk hk1 hmo
        have HWF := Lib.hid (And.intro (And.intro hwm hwm2) (And.intro hwn hwn2))
        clear hwm hwm2 hwn hwn2
        have HIT := Lib.hid (HINV.out.later hnT)
        have HMO := Lib.hid (HINV.out.mono hnT hTm)
        have HTF : Hid (0 ≤ T ∧ T ≤ 255 * (k + 1 : Nat) ∧ T ≤ 1099511627776) := Lib.hid ⟨hT0, hTk, hTm⟩
        have HSF : Hid (0 ≤ span ∧ span ≤ k ∧ k < 100) := Lib.hid ⟨hs0, hsk, hk1⟩
        obtain ⟨r, hr⟩ : ∃ r, r = kd % 3 := ⟨_, rfl⟩
        have er : (kd : Int) % 3 = (r : Int) := by rw [hr]; exact (Int.natCast_emod kd 3).symm
        have hr3 : r < 3 := by omega
        clear hr HINV hnT hT0 hTk hTm hn0 hs0 hnk hsk hk1
        obtain ⟨⟨hwm, hwm2⟩, hwn, hwn2⟩ := HWF.out
        go_upto_region 12 with fail
        clear hwn hwn2 hwm hwm2 hd1 HWF
        go_upto_block 2 with fail
        clear hd0 hkI hkI2
        go_cut [8] (fun s8 wd => ∃ (sp : Int) (C2 : Ck) (p : Option Addr) (n c : Nat) (xs : List Mv), s8 = .int .i64 sp ∧ sp ≤ (k + 1 : Nat) ∧ Inv wait C2 T sp ∧ isC C2 wt xs ∧ sureM C2 T = sureM C T ∧ Cs w wd bc bl p n c wt xs lsp lt lq lm lc)
        case first =>
          have hnx : xs.length = n := HCS.out.nk.kc.xl
          have hnb := HCS.out.nk.kc.nb
          have HNX := Lib.hid hnx
          have hCe : C = ⟨mksOf xs, wt⟩ := HIS.out
          have HKO : Hid (∀ W, Below wr.heap.size wr W → Ko (fun _ => False) W (.agg #[.slice p n c, .int .i64 wt]) C) := Lib.hid (fun W hW => by rw [hCe]; exact (HCS.out.nk.below hW).ko wt)
          have HLT : Hid (bc < wr.heap.size ∧ bl < wr.heap.size) := Lib.hid ⟨HCS.out.hc.lt, HCS.out.hl.lt⟩
          have HCE := Lib.hid hCe
          clear hnx hCe
          obtain rfl | rfl | rfl : r = 0 ∨ r = 1 ∨ r = 2 := by omega
          · as_aux_lemma =>
              have HWS : Hid (IntKind.i64.wrap (span + 1) = span + 1 ∧ wrap64 (span + 1) = span + 1) := Lib.hid ⟨wrapA rfl (by have := HSF.out; omega), wrapB rfl (by have := HSF.out; omega)⟩
              have kC := HCS.out.hc.c
              have HTI := Lib.hid (fun W hW => tick_any _ C (span + 1) T none 0 0 [] W (HKO.out W hW) rfl (Nat.le_refl _) (Nat.zero_le _) (Sl.empty _ _ _))
              have HROOM : Hid (roomB C T = (decide (n < 8) && decide ((lastM C.marks).when < T))) := Lib.hid (room_len (by rw [HCE.out]; show (mksOf xs).length = n; rw [mksOf_len, HNX.out]))
              have HLAST : Hid ((lastM C.marks).when = (xs.getD (n - 1) zV).when) := Lib.hid (HIS.out.last HNX.out)
              have HN1 : Hid (1 ≤ n) := Lib.hid (by have := HIT.out.rt.l1; rw [HCE.out] at this; dsimp only at this; rw [mksOf_len, HNX.out] at this; exact this)
              have HYES := Lib.hid (fun h => HIT.out.tick HTF.out.2.2 (by have := HSF.out; omega) h)
              have HNO := Lib.hid (fun h => HIT.out.full HTF.out.2.2 h)
              obtain ⟨b, off, hp, hat⟩ := mk_at HCS.out.nk.kc.sl HNX.out (n - 1) (by have := HN1.out; omega)
              subst hp
              have HAT := Lib.hid hat
              obtain ⟨x, hx⟩ : ∃ x, x = xs.getD (n - 1) zV := ⟨_, rfl⟩
              rw [← hx] at HLAST HAT
              obtain ⟨xsp, xt, xq, xm, xc, xcs⟩ := x
              dsimp only at HLAST
              rw [HLAST.out] at HROOM
              obtain ⟨n1, hn1⟩ : ∃ z, n = z + 1 := ⟨n - 1, by have := HN1.out; omega⟩
              have en1 : n - 1 = n1 := by omega
              rw [en1] at HAT
              have HG : Hid ((IntKind.i64.wrap ((n : Int) - 1) = (n1 : Int) ∧ wrap64 ((n : Int) - 1) = (n1 : Int)) ∧ IntKind.i64.wrap ((n : Int) + 1) = (n : Int) + 1 ∧ wrap64 ((n : Int) + 1) = (n : Int) + 1) := Lib.hid ⟨⟨wrapA (by omega) (by omega), wrapB (by omega) (by omega)⟩, wrapA rfl (by omega), wrapB rfl (by omega)⟩
              have hn1I : (n1 : Int) < (n : Int) := by omega
              have HNN := Lib.hid hn1
              clear hx hat en1 hn1
              obtain ⟨hw1, hw2⟩ := HWS.out
              go_upto_region 19 with fail
              clear er
              go_wp2_with fail
              clear hw1 hw2
              cases hro : roomB C T with
              | true =>
                have HRT := Lib.hid (HYES.out hro)
                have HRO : Hid (decide (n < 8) = true ∧ decide (xt < T) = true) := Lib.hid (by rw [hro] at HROOM; have := HROOM.out.symm; simpa only [Bool.and_eq_true] using this)
                clear hro HYES HNO HROOM
                have h0 := HTI.out wr (Below.refl _ _)
                rw [HRT.out.1, HRT.out.2.1] at h0
                refine h0.mono ?_
                rintro e w4 ⟨q, m, d, ys, rfl, ho, hm, hb⟩
                have HNK4 : Hid (Nk w4 bc bl q m d ys) := Lib.hid (ho.nk HLT.out.1 HLT.out.2)
                have HMK : Hid (isC ⟨C.marks ++ [⟨span + 1, T, []⟩], C.wait⟩ wt ys ∧ (m : Int) = (n : Int) + 1) := Lib.hid (by
                  refine ⟨?_, ?_⟩
                  · show (_ : Ck) = _; dsimp only at hm; rw [hm, HCE.out]
                  · have := congrArg List.length hm
                    dsimp only at this
                    rw [mksOf_len, ho.xl, List.length_append, HCE.out] at this
                    dsimp only at this
                    rw [mksOf_len, HNX.out] at this
                    have e1 : [(⟨span + 1, T, []⟩ : Mk)].length = 1 := rfl
                    omega)
                have HCS4 := Lib.hid (HCS.out.below hb)
                have HAT4 := Lib.hid (HAT.out.below hb)
                have hcw : C.wait = wt := by rw [HCE.out]
                dsimp only
                rw [hcw]
                clear h0 ho hm hb hcw HTI kC
                go_upto_region 20 with fail
                have HNK5 := Lib.hid (HNK4.out.below ((Below.refl _ _).alloc (Nat.le_refl _) (.cells #[.slice q m d, .int .i64 wt] 26)))
                have HCS5 := Lib.hid (HCS4.out.below ((Below.refl _ _).alloc (Nat.le_refl _) (.cells #[.slice q m d, .int .i64 wt] 26)))
                have HAT5 := Lib.hid (HAT4.out.below ((Below.refl _ _).alloc (Nat.le_refl _) (.cells #[.slice q m d, .int .i64 wt] 26)))
                have HD5 : Hid (Blk (w4.alloc (.cells #[.slice q m d, .int .i64 wt] 26)) w4.heap.size #[.slice q m d, .int .i64 wt]) := Lib.hid (Blk.new _ _ _)
                obtain ⟨bd, hbd⟩ : ∃ z, z = w4.heap.size := ⟨_, rfl⟩
                obtain ⟨w5, hw5⟩ : ∃ z, z = w4.alloc (.cells #[.slice q m d, .int .i64 wt] 26) := ⟨_, rfl⟩
                rw [← hw5] at HNK5 HCS5 HAT5 HD5 ⊢
                rw [← hbd] at HD5 ⊢
                clear hw5 hbd HNK4 HCS4 HAT4
                obtain ⟨l0, c0, c1, c2⟩ := HAT5.out
                dsimp only at c0 c1 c2
                have d1 : decide ((n : Int) < 8) = true := decide_eq_true (by have := of_decide_eq_true HRO.out.1; omega)
                have d1n : decide (n < 8) = true := HRO.out.1
                have d2 : decide (xt < T) = true := HRO.out.2
                have d3 : ((m : Int) != (n : Int) + 1) = false := by rw [HMK.out.2]; simp
                obtain ⟨hw1, hw2⟩ := HWS.out
                obtain ⟨⟨g1, g2⟩, g3, g4⟩ := HG.out
                have kC := HCS5.out.hc.c
                have fC := HCS5.out.hc.f
                have lC := HCS5.out.hc.lt
                have kD := HD5.out.c
                go_wp2_with fail
                go_meet
                case rel => exact ⟨span + 1, _, q, m, d, ys, rfl, by have := HSF.out; omega, HRT.out.2.2.1, HMK.out.1, HRT.out.2.2.2, HCS5.out.put HNK5.out wt⟩
              | false =>
                have HRF := Lib.hid (HNO.out hro)
                have HRO : Hid (¬ (n < 8 ∧ xt < T)) := Lib.hid (fun h => by
                  have := HROOM.out
                  rw [hro, decide_eq_true h.1, decide_eq_true h.2] at this
                  cases this)
                clear hro HYES HNO HROOM
                obtain ⟨E, hE⟩ : ∃ z, z = tickE C (span + 1) T [] := ⟨_, rfl⟩
                have hE0 : (E == 0) = false := by
                  have := HRF.out.2
                  rw [← hE] at this
                  rcases this with h | h <;> rw [h] <;> rfl
                have h0 := HTI.out wr (Below.refl _ _)
                rw [HRF.out.1, ← hE] at h0
                refine h0.mono ?_
                rintro e w4 ⟨q, m, d, ys, rfl, ho, hm, hb⟩
                have HNK4 : Hid (Nk w4 bc bl q m d ys) := Lib.hid (ho.nk HLT.out.1 HLT.out.2)
                have HMK : Hid (isC C wt ys) := Lib.hid (by
                  show C = _
                  rw [HCE.out] at hm ⊢
                  dsimp only at hm
                  rw [hm])
                have HCS4 := Lib.hid (HCS.out.below hb)
                have HAT4 := Lib.hid (HAT.out.below hb)
                have hcw : C.wait = wt := by rw [HCE.out]
                rw [hcw]
                clear h0 ho hm hb hcw HTI kC hE
                go_upto_region 20 with fail
                have HNK5 := Lib.hid (HNK4.out.below ((Below.refl _ _).alloc (Nat.le_refl _) (.cells #[.slice q m d, .int .i64 wt] 26)))
                have HCS5 := Lib.hid (HCS4.out.below ((Below.refl _ _).alloc (Nat.le_refl _) (.cells #[.slice q m d, .int .i64 wt] 26)))
                have HAT5 := Lib.hid (HAT4.out.below ((Below.refl _ _).alloc (Nat.le_refl _) (.cells #[.slice q m d, .int .i64 wt] 26)))
                have HD5 : Hid (Blk (w4.alloc (.cells #[.slice q m d, .int .i64 wt] 26)) w4.heap.size #[.slice q m d, .int .i64 wt]) := Lib.hid (Blk.new _ _ _)
                obtain ⟨bd, hbd⟩ : ∃ z, z = w4.heap.size := ⟨_, rfl⟩
                obtain ⟨w5, hw5⟩ : ∃ z, z = w4.alloc (.cells #[.slice q m d, .int .i64 wt] 26) := ⟨_, rfl⟩
                rw [← hw5] at HNK5 HCS5 HAT5 HD5 ⊢
                rw [← hbd] at HD5 ⊢
                clear hw5 hbd HNK4 HCS4 HAT4
                obtain ⟨l0, c0, c1, c2⟩ := HAT5.out
                dsimp only at c0 c1 c2
                have kC := HCS5.out.hc.c
                have fC := HCS5.out.hc.f
                have lC := HCS5.out.hc.lt
                have kD := HD5.out.c
                by_cases h8 : n < 8
                · have d1 : decide ((n : Int) < 8) = true := decide_eq_true (by omega)
                  have d1n : decide (n < 8) = true := decide_eq_true h8
                  have d2 : decide (xt < T) = false := decide_eq_false (fun h => HRO.out ⟨h8, h⟩)
                  clear h8
                  obtain ⟨⟨g1, g2⟩, g3, g4⟩ := HG.out
                  go_wp2_with fail
                  go_meet
                  case rel => exact ⟨span, C, q, m, d, ys, rfl, by have := HSF.out; omega, HIT.out, HMK.out, rfl, HCS5.out.put HNK5.out wt⟩
                · have d1 : decide ((n : Int) < 8) = false := decide_eq_false (by omega)
                  have d1n : decide (n < 8) = false := decide_eq_false h8
                  clear h8
                  obtain ⟨⟨g1, g2⟩, g3, g4⟩ := HG.out
                  go_wp2_with fail
                  go_meet
                  case rel => exact ⟨span, C, q, m, d, ys, rfl, by have := HSF.out; omega, HIT.out, HMK.out, rfl, HCS5.out.put HNK5.out wt⟩
          · as_aux_lemma =>
              have HKE := Lib.hid (HIT.out.keep HTF.out.2.2)
              have HKP := Lib.hid (fun W hW => keep_any _ C T W (HKO.out W hW))
              have HSU := Lib.hid (fun W hW => sure_any _ C T W (HKO.out W hW))
              rw [HKE.out.1] at HKP HSU
              obtain ⟨D, hD⟩ : ∃ z, z = keepC C T := ⟨_, rfl⟩
              have HDW : Hid (D.wait = wt) := Lib.hid (by rw [hD]; unfold keepC; rw [HCE.out]; split <;> rfl)
              rw [← hD] at HKE HKP
              clear hD
              have kC := HCS.out.hc.c
              go_upto_region 27 with fail
              clear er
              go_wp2_with fail
              refine (HKP.out wr (Below.refl _ _)).mono ?_
              rintro e w4 ⟨q, m, d, ys, rfl, ho, hm, hb⟩
              have HNK4 : Hid (Nk w4 bc bl q m d ys) := Lib.hid (ho.nk HLT.out.1 HLT.out.2)
              have HMK : Hid (isC D wt ys ∧ 1 ≤ m ∧ (ys.getD 0 zV).mk' = sureM C T) := Lib.hid (by
                obtain ⟨dm, dw⟩ := D
                have h1 := HDW.out
                dsimp only at h1 hm
                subst h1 hm
                refine ⟨rfl, ?_, ?_⟩
                · have := HKE.out.2.2.2.2
                  dsimp only at this
                  rw [mksOf_len, ho.xl] at this; exact this
                · rw [← mksOf_at]; exact HKE.out.2.2.2.1)
              have HB4 := Lib.hid hb
              have HCS4 := Lib.hid (HCS.out.below hb)
              rw [HDW.out]
              clear ho hm hb HKP kC HDW
              go_upto_region 28 with fail
              have HB5 : Hid (Below wr.heap.size wr (w4.alloc (.cells #[.slice q m d, .int .i64 wt] 26))) := Lib.hid (HB4.out.alloc HB4.out.size _)
              have HNK5 := Lib.hid (HNK4.out.below ((Below.refl _ _).alloc (Nat.le_refl _) (.cells #[.slice q m d, .int .i64 wt] 26)))
              have HCS5 := Lib.hid (HCS4.out.below ((Below.refl _ _).alloc (Nat.le_refl _) (.cells #[.slice q m d, .int .i64 wt] 26)))
              have HD5 : Hid (Blk (w4.alloc (.cells #[.slice q m d, .int .i64 wt] 26)) w4.heap.size #[.slice q m d, .int .i64 wt]) := Lib.hid (Blk.new _ _ _)
              obtain ⟨bd, hbd⟩ : ∃ z, z = w4.heap.size := ⟨_, rfl⟩
              obtain ⟨w5, hw5⟩ : ∃ z, z = w4.alloc (.cells #[.slice q m d, .int .i64 wt] 26) := ⟨_, rfl⟩
              rw [← hw5] at HNK5 HCS5 HB5 HD5 ⊢
              rw [← hbd] at HD5 ⊢
              clear hw5 hbd HNK4 HCS4 HB4
              have hm0 : ((m : Int) == 0) = false := by have := HMK.out.2.1; simp; omega
              have hm0n : (m == 0) = false := by have := HMK.out.2.1; simp; omega
              have kC := HCS5.out.hc.c
              have kD := HD5.out.c
              go_wp2_with fail
              refine (HSU.out w5 HB5.out).mono ?_
              rintro e w6 ⟨y, rfl, hr, -, hym, hb⟩
              have HNK6 := Lib.hid (HNK5.out.below hb)
              have HCS6 := Lib.hid (HCS5.out.below hb)
              have HD6 := Lib.hid (HD5.out.below hb)
              have HR6 := Lib.hid hr
              have HYM := Lib.hid hym
              obtain ⟨ysp, yt, yq, ym, yc, ycs⟩ := y
              dsimp only
              clear hb hr hym kC kD HSU HNK5 HCS5 HD5
              go_upto_region 31 with fail
              have HNK7 := Lib.hid (HNK6.out.below ((Below.refl _ _).alloc (Nat.le_refl _) (.cells #[.int .i64 ysp, .int .i64 yt, .slice yq ym yc] 32)))
              have HCS7 := Lib.hid (HCS6.out.below ((Below.refl _ _).alloc (Nat.le_refl _) (.cells #[.int .i64 ysp, .int .i64 yt, .slice yq ym yc] 32)))
              have HD7 := Lib.hid (HD6.out.below ((Below.refl _ _).alloc (Nat.le_refl _) (.cells #[.int .i64 ysp, .int .i64 yt, .slice yq ym yc] 32)))
              have HR7 := Lib.hid (HR6.out.below ((Below.refl _ _).alloc (Nat.le_refl _) (.cells #[.int .i64 ysp, .int .i64 yt, .slice yq ym yc] 32)))
              have HY7 : Hid (Blk (w6.alloc (.cells #[.int .i64 ysp, .int .i64 yt, .slice yq ym yc] 32)) w6.heap.size #[.int .i64 ysp, .int .i64 yt, .slice yq ym yc]) := Lib.hid (Blk.new _ _ _)
              obtain ⟨by_, hby⟩ : ∃ z, z = w6.heap.size := ⟨_, rfl⟩
              obtain ⟨w7, hw7⟩ : ∃ z, z = w6.alloc (.cells #[.int .i64 ysp, .int .i64 yt, .slice yq ym yc] 32) := ⟨_, rfl⟩
              rw [← hw7] at HNK7 HCS7 HD7 HR7 HY7 ⊢
              rw [← hby] at HY7 ⊢
              clear hw7 hby HNK6 HCS6 HD6 HR6
              obtain ⟨b, off, hp, hat, hmr⟩ := HNK7.out.kc.at_ 0 (by have := HMK.out.2.1; omega)
              subst hp
              have HMM : Hid (∀ W, Below w7.heap.size w7 W → Calls Try.prog 10 #[.agg #[.int .i64 (ys.getD 0 zV).span, .int .i64 (ys.getD 0 zV).when, .slice (ys.getD 0 zV).q (ys.getD 0 zV).m (ys.getD 0 zV).c], .agg #[.int .i64 ysp, .int .i64 yt, .slice yq ym yc]] W fun e w' => e = .returned (.bool true) ∧ Below W.heap.size W w') := Lib.hid (fun W hW =>
                mark_same _ ⟨ysp, yt, yq, ym, yc, ycs⟩ W (hmr.below hW) (HR7.out.below hW) (by rw [HMK.out.2.2, HYM.out]))
              have HAT := Lib.hid hat
              obtain ⟨x, hx⟩ : ∃ x, x = ys.getD 0 zV := ⟨_, rfl⟩
              rw [← hx] at HAT HMM
              obtain ⟨xsp, xt, xq, xm, xc, xcs⟩ := x
              dsimp only at HMM
              clear hat hmr hx
              have hmI : (0 : Int) < (m : Int) := by have := HMK.out.2.1; omega
              have hmN : 0 < m := HMK.out.2.1
              have HS : Hid (∀ W, Below w7.heap.size w7 W → ((∀ t, W.cell? ⟨bd, t, none⟩ = (#[.slice (some ⟨b, off, none⟩) m d, .int .i64 wt] : Array Value)[t]?) ∧ ∀ t, W.cell? ⟨by_, t, none⟩ = (#[.int .i64 ysp, .int .i64 yt, .slice yq ym yc] : Array Value)[t]?) ∧ W.cell? ⟨b, off, none⟩ = some (.int .i64 xsp) ∧ W.cell? ⟨b, off + 1, none⟩ = some (.int .i64 xt) ∧ W.cell? ⟨b, off + 2, none⟩ = some (.slice xq xm xc)) := Lib.hid (fun W hW => ⟨⟨(HD7.out.below hW).c, (HY7.out.below hW).c⟩, by
                have h3 := HAT.out.below hW
                have k0 := h3.c0
                have k1 := h3.c1
                have k2 := h3.c2
                simp only [Nat.zero_mul, Nat.add_zero] at k0 k1 k2
                exact ⟨k0, k1, k2⟩⟩)
              refine region_plan (fun W : World => ((∀ t, W.cell? ⟨bd, t, none⟩ = (#[.slice (some ⟨b, off, none⟩) m d, .int .i64 wt] : Array Value)[t]?) ∧ ∀ t, W.cell? ⟨by_, t, none⟩ = (#[.int .i64 ysp, .int .i64 yt, .slice yq ym yc] : Array Value)[t]?) ∧ W.cell? ⟨b, off, none⟩ = some (.int .i64 xsp) ∧ W.cell? ⟨b, off + 1, none⟩ = some (.int .i64 xt) ∧ W.cell? ⟨b, off + 2, none⟩ = some (.slice xq xm xc)) 9 [(0, true), (1, true), (2, true), (3, true), (4, true), (5, true), (6, true), (7, true), (8, false)] (by kernel_rfl) (by kernel_rfl) (HS.out _ (Below.refl _ _).drew) ?_
              iterate 8
                refine plan_read (v := ?_) rfl (by rfl) ?_ ?_
                rotate_left
                · intro w' hS
                  obtain ⟨⟨hS1, hS2⟩, hS3, hS4, hS5⟩ := hS
                  go_simp
                  try with_reducible rfl
                try simp only [bne_self_eq_false]
                try simp only [Act.put, List.setIfInBounds_toArray, List.set_cons_zero, List.set_cons_succ, List.getElem_toArray, List.getElem_cons_zero, List.getElem_cons_succ]
              refine plan_call (F := 10) (args := ?_) rfl (by rfl) ?_ ?_
              rotate_left
              · go_simp
                rfl
              refine (HMM.out w7.drew (Below.refl _ _).drew).mono ?_
              rintro e w8 ⟨rfl, hb⟩
              have HB8 : Hid (Below w7.heap.size w7 w8) := Lib.hid ((Below.refl _ _).drew.trans hb)
              clear hb
              refine ⟨_, rfl, HS.out _ HB8.out, ?_⟩
              try simp only [Act.put, List.setIfInBounds_toArray, List.set_cons_zero, List.set_cons_succ, List.getElem_toArray, List.getElem_cons_zero, List.getElem_cons_succ]
              refine plan_nil ?_
              simp only [List.drop_succ_cons, List.drop_zero]
              have HNK8 := Lib.hid (HNK7.out.below HB8.out)
              have HCS8 := Lib.hid (HCS7.out.below HB8.out)
              have HD8 := Lib.hid (HD7.out.below HB8.out)
              clear HS HMM HAT HNK7 HCS7 HD7 HR7 HY7 HB8
              have kC := HCS8.out.hc.c
              have fC := HCS8.out.hc.f
              have lC := HCS8.out.hc.lt
              have kD := HD8.out.c
              go_wp2_with fail
              go_meet
              case rel => exact ⟨span, D, _, m, d, ys, rfl, by have := HSF.out; omega, HKE.out.2.1, HMK.out.1, HKE.out.2.2.1, HCS8.out.put HNK8.out wt⟩
          · as_aux_lemma =>
              have HKE := Lib.hid (HIT.out.back HTF.out.2.2)
              have HBK := Lib.hid (fun W hW => back_any _ C T W (HKO.out W hW))
              have HSU := Lib.hid (fun W hW => sure_any _ C T W (HKO.out W hW))
              rw [HKE.out.1] at HBK HSU
              obtain ⟨D, hD⟩ : ∃ z, z = backC C T := ⟨_, rfl⟩
              have HDW : Hid (D.wait = wt) := Lib.hid (by rw [hD]; unfold backC; rw [HCE.out]; split <;> rfl)
              rw [← hD] at HKE HBK
              clear hD
              have kC := HCS.out.hc.c
              go_upto_region 13 with fail
              clear er
              go_wp2_with fail
              refine (HSU.out wr (Below.refl _ _)).mono ?_
              rintro e w4 ⟨y, rfl, hr, -, hym, hb⟩
              have HB4 := Lib.hid hb
              have HCS4 := Lib.hid (HCS.out.below hb)
              have HR4 := Lib.hid hr
              have HYM := Lib.hid hym
              obtain ⟨ysp, yt, yq, ym, yc, ycs⟩ := y
              dsimp only
              clear hb hr hym kC HSU
              go_upto_region 14 with fail
              have HB5 : Hid (Below wr.heap.size wr (w4.alloc (.cells #[.int .i64 ysp, .int .i64 yt, .slice yq ym yc] 32))) := Lib.hid (HB4.out.alloc HB4.out.size _)
              have HCS5 := Lib.hid (HCS4.out.below ((Below.refl _ _).alloc (Nat.le_refl _) (.cells #[.int .i64 ysp, .int .i64 yt, .slice yq ym yc] 32)))
              have HR5 := Lib.hid (HR4.out.below ((Below.refl _ _).alloc (Nat.le_refl _) (.cells #[.int .i64 ysp, .int .i64 yt, .slice yq ym yc] 32)))
              have HY5 : Hid (Blk (w4.alloc (.cells #[.int .i64 ysp, .int .i64 yt, .slice yq ym yc] 32)) w4.heap.size #[.int .i64 ysp, .int .i64 yt, .slice yq ym yc]) := Lib.hid (Blk.new _ _ _)
              obtain ⟨by_, hby⟩ : ∃ z, z = w4.heap.size := ⟨_, rfl⟩
              obtain ⟨w5, hw5⟩ : ∃ z, z = w4.alloc (.cells #[.int .i64 ysp, .int .i64 yt, .slice yq ym yc] 32) := ⟨_, rfl⟩
              rw [← hw5] at HB5 HCS5 HR5 HY5 ⊢
              rw [← hby] at HY5 ⊢
              clear hw5 hby HB4 HCS4 HR4
              have kC := HCS5.out.hc.c
              go_wp2_with fail
              refine (HBK.out w5 HB5.out).mono ?_
              rintro e w6 ⟨q, m, d, ys, z, rfl, ho, hm, hzr, -, hzm, hb⟩
              have HNK6 : Hid (Nk w6 bc bl q m d ys) := Lib.hid (ho.nk (Nat.lt_of_lt_of_le HLT.out.1 HB5.out.size) (Nat.lt_of_lt_of_le HLT.out.2 HB5.out.size))
              have HMK : Hid (isC D wt ys ∧ m = 1 ∧ (ys.getD 0 zV).mk' = sureM C T) := Lib.hid (by
                have h2 := HKE.out.2.1
                obtain ⟨dm, dw⟩ := D
                have h1 := HDW.out
                dsimp only at h1 hm
                subst h1 hm
                injection h2 with h2 h3
                refine ⟨rfl, ?_, ?_⟩
                · have := congrArg List.length h2
                  rw [mksOf_len, ho.xl] at this; exact this
                · rw [← mksOf_at, h2]; rfl)
              have hm1 := HMK.out.2.1
              subst hm1
              have HCS6 := Lib.hid (HCS5.out.below hb)
              have HR6 := Lib.hid (HR5.out.below hb)
              have HY6 := Lib.hid (HY5.out.below hb)
              have HZR := Lib.hid hzr
              have HZM := Lib.hid hzm
              obtain ⟨zsp, zt, zq, zm, zc, zcs⟩ := z
              rw [HDW.out]
              dsimp only
              clear ho hm hb hzr hzm HBK kC HDW HCS5 HR5 HY5
              go_upto_region 15 with fail
              have HA8 : Hid (Below w6.heap.size w6 ((w6.alloc (.cells #[.slice q 1 d, .int .i64 wt] 26)).alloc (.cells #[.int .i64 zsp, .int .i64 zt, .slice zq zm zc] 32))) := Lib.hid (((Below.refl _ _).alloc (Nat.le_refl _) _).alloc (by simp) _)
              have HNK8 := Lib.hid (HNK6.out.below HA8.out)
              have HCS8 := Lib.hid (HCS6.out.below HA8.out)
              have HR8 := Lib.hid (HR6.out.below HA8.out)
              have HY8 := Lib.hid (HY6.out.below HA8.out)
              have HZ8 := Lib.hid (HZR.out.below HA8.out)
              have HD8 : Hid (Blk ((w6.alloc (.cells #[.slice q 1 d, .int .i64 wt] 26)).alloc (.cells #[.int .i64 zsp, .int .i64 zt, .slice zq zm zc] 32)) w6.heap.size #[.slice q 1 d, .int .i64 wt]) := Lib.hid ((Blk.new _ _ _).alloc _)
              have HX8 : Hid (Blk ((w6.alloc (.cells #[.slice q 1 d, .int .i64 wt] 26)).alloc (.cells #[.int .i64 zsp, .int .i64 zt, .slice zq zm zc] 32)) (w6.heap.size + 1) #[.int .i64 zsp, .int .i64 zt, .slice zq zm zc]) := Lib.hid (by
                have := Blk.new (w6.alloc (.cells #[.slice q 1 d, .int .i64 wt] 26)) #[.int .i64 zsp, .int .i64 zt, .slice zq zm zc] 32
                rw [World.size_alloc] at this; exact this)
              obtain ⟨bz, hbz⟩ : ∃ z, z = w6.heap.size + 1 := ⟨_, rfl⟩
              obtain ⟨bd, hbd⟩ : ∃ z, z = w6.heap.size := ⟨_, rfl⟩
              obtain ⟨w8, hw8⟩ : ∃ z, z = (w6.alloc (.cells #[.slice q 1 d, .int .i64 wt] 26)).alloc (.cells #[.int .i64 zsp, .int .i64 zt, .slice zq zm zc] 32) := ⟨_, rfl⟩
              rw [← hw8] at HNK8 HCS8 HR8 HY8 HZ8 HD8 HX8 ⊢
              rw [← hbz] at HX8 ⊢
              rw [← hbd] at HD8 ⊢
              clear hw8 hbz hbd HNK6 HCS6 HR6 HY6 HZR HA8
              obtain ⟨b, off, hp, hat, hmr⟩ := HNK8.out.kc.at_ 0 (by omega)
              subst hp
              have HM1 : Hid (∀ W, Below w8.heap.size w8 W → Calls Try.prog 10 #[.agg #[.int .i64 ysp, .int .i64 yt, .slice yq ym yc], .agg #[.int .i64 zsp, .int .i64 zt, .slice zq zm zc]] W fun e w' => e = .returned (.bool true) ∧ Below W.heap.size W w') := Lib.hid (fun W hW =>
                mark_same ⟨ysp, yt, yq, ym, yc, ycs⟩ ⟨zsp, zt, zq, zm, zc, zcs⟩ W (HR8.out.below hW) (HZ8.out.below hW) (by rw [← HYM.out, ← HZM.out]))
              have HM2 : Hid (∀ W, Below w8.heap.size w8 W → Calls Try.prog 10 #[.agg #[.int .i64 (ys.getD 0 zV).span, .int .i64 (ys.getD 0 zV).when, .slice (ys.getD 0 zV).q (ys.getD 0 zV).m (ys.getD 0 zV).c], .agg #[.int .i64 ysp, .int .i64 yt, .slice yq ym yc]] W fun e w' => e = .returned (.bool true) ∧ Below W.heap.size W w') := Lib.hid (fun W hW =>
                mark_same _ ⟨ysp, yt, yq, ym, yc, ycs⟩ W (hmr.below hW) (HR8.out.below hW) (by rw [HMK.out.2.2, HYM.out]))
              have HAT := Lib.hid hat
              obtain ⟨x, hx⟩ : ∃ x, x = ys.getD 0 zV := ⟨_, rfl⟩
              rw [← hx] at HAT HM2
              obtain ⟨xsp, xt, xq, xm, xc, xcs⟩ := x
              dsimp only at HM2
              clear hat hmr hx
              have HS : Hid (∀ W, Below w8.heap.size w8 W → ((∀ t, W.cell? ⟨bd, t, none⟩ = (#[.slice (some ⟨b, off, none⟩) 1 d, .int .i64 wt] : Array Value)[t]?) ∧ (∀ t, W.cell? ⟨by_, t, none⟩ = (#[.int .i64 ysp, .int .i64 yt, .slice yq ym yc] : Array Value)[t]?) ∧ ∀ t, W.cell? ⟨bz, t, none⟩ = (#[.int .i64 zsp, .int .i64 zt, .slice zq zm zc] : Array Value)[t]?) ∧ W.cell? ⟨b, off, none⟩ = some (.int .i64 xsp) ∧ W.cell? ⟨b, off + 1, none⟩ = some (.int .i64 xt) ∧ W.cell? ⟨b, off + 2, none⟩ = some (.slice xq xm xc)) := Lib.hid (fun W hW => ⟨⟨(HD8.out.below hW).c, (HY8.out.below hW).c, (HX8.out.below hW).c⟩, by
                have h3 := HAT.out.below hW
                have k0 := h3.c0
                have k1 := h3.c1
                have k2 := h3.c2
                simp only [Nat.zero_mul, Nat.add_zero] at k0 k1 k2
                exact ⟨k0, k1, k2⟩⟩)
              refine region_plan (fun W : World => ((∀ t, W.cell? ⟨bd, t, none⟩ = (#[.slice (some ⟨b, off, none⟩) 1 d, .int .i64 wt] : Array Value)[t]?) ∧ (∀ t, W.cell? ⟨by_, t, none⟩ = (#[.int .i64 ysp, .int .i64 yt, .slice yq ym yc] : Array Value)[t]?) ∧ ∀ t, W.cell? ⟨bz, t, none⟩ = (#[.int .i64 zsp, .int .i64 zt, .slice zq zm zc] : Array Value)[t]?) ∧ W.cell? ⟨b, off, none⟩ = some (.int .i64 xsp) ∧ W.cell? ⟨b, off + 1, none⟩ = some (.int .i64 xt) ∧ W.cell? ⟨b, off + 2, none⟩ = some (.slice xq xm xc)) 21 [(0, true), (1, true), (2, true), (3, true), (4, true), (5, true), (6, true), (7, true), (8, true), (9, true), (10, true), (11, false), (12, true), (13, true), (14, true), (15, true), (16, true), (17, true), (18, true), (19, true), (20, false)] (by kernel_rfl) (by kernel_rfl) (HS.out _ (Below.refl _ _).drew) ?_
              iterate 11
                refine plan_read (v := ?_) rfl (by rfl) ?_ ?_
                rotate_left
                · intro w' hS
                  obtain ⟨⟨hS1, hS2, hS6⟩, hS3, hS4, hS5⟩ := hS
                  go_simp
                  try with_reducible rfl
                try simp only [bne_self_eq_false]
                try simp only [Act.put, List.setIfInBounds_toArray, List.set_cons_zero, List.set_cons_succ, List.getElem_toArray, List.getElem_cons_zero, List.getElem_cons_succ]
              refine plan_call (F := 10) (args := ?_) rfl (by rfl) ?_ ?_
              rotate_left
              · go_simp
                rfl
              refine (HM1.out w8.drew (Below.refl _ _).drew).mono ?_
              rintro e w9 ⟨rfl, hb⟩
              have HB9 : Hid (Below w8.heap.size w8 w9) := Lib.hid ((Below.refl _ _).drew.trans hb)
              clear hb
              refine ⟨_, rfl, HS.out _ HB9.out, ?_⟩
              try simp only [Act.put, List.setIfInBounds_toArray, List.set_cons_zero, List.set_cons_succ, List.getElem_toArray, List.getElem_cons_zero, List.getElem_cons_succ]
              iterate 8
                refine plan_read (v := ?_) rfl (by rfl) ?_ ?_
                rotate_left
                · intro w' hS
                  obtain ⟨⟨hS1, hS2, hS6⟩, hS3, hS4, hS5⟩ := hS
                  go_simp
                  try with_reducible rfl
                try simp only [Bool.not_true]
                try simp only [Act.put, List.setIfInBounds_toArray, List.set_cons_zero, List.set_cons_succ, List.getElem_toArray, List.getElem_cons_zero, List.getElem_cons_succ]
              refine plan_call (F := 10) (args := ?_) rfl (by rfl) ?_ ?_
              rotate_left
              · go_simp
                rfl
              refine (HM2.out w9 HB9.out).mono ?_
              rintro e w10 ⟨rfl, hb⟩
              have HB10 : Hid (Below w8.heap.size w8 w10) := Lib.hid (HB9.out.trans (hb.mono HB9.out.size))
              clear hb
              refine ⟨_, rfl, HS.out _ HB10.out, ?_⟩
              try simp only [Act.put, List.setIfInBounds_toArray, List.set_cons_zero, List.set_cons_succ, List.getElem_toArray, List.getElem_cons_zero, List.getElem_cons_succ]
              refine plan_nil ?_
              simp only [List.drop_succ_cons, List.drop_zero]
              have HNK9 := Lib.hid (HNK8.out.below HB10.out)
              have HCS9 := Lib.hid (HCS8.out.below HB10.out)
              have HD9 := Lib.hid (HD8.out.below HB10.out)
              clear HS HM1 HM2 HAT HNK8 HCS8 HD8 HR8 HY8 HZ8 HX8 HB9 HB10
              have kC := HCS9.out.hc.c
              have fC := HCS9.out.hc.f
              have lC := HCS9.out.hc.lt
              have kD := HD9.out.c
              go_wp2_with fail
              go_meet
              case rel => exact ⟨span, D, _, 1, d, ys, rfl, by have := HSF.out; omega, HKE.out.2.2.1, HMK.out.1, HKE.out.2.2.2, HCS9.out.put HNK9.out wt⟩
        case rest =>
          as_aux_lemma =>
            obtain ⟨sp, C2, p2, n2, c2, zs, rfl, hsp, hi2, his2, hsm, hcs2⟩ := hcut
            obtain ⟨wB, hwB⟩ : ∃ z, z = wc := ⟨_, rfl⟩
            rw [← hwB] at hcs2 ⊢
            clear hwB
            have HI2 := Lib.hid hi2
            have HIS2 := Lib.hid his2
            have HSM := Lib.hid hsm
            have HCS2 := Lib.hid hcs2
            have HSP := Lib.hid hsp
            have HCE2 : Hid (C2 = ⟨mksOf zs, wt⟩) := Lib.hid his2
            clear hi2 his2 hsm hcs2 hsp HCS HIS HIT er
            have hokc : okC C2 T = true := HI2.out.ok (Int.le_refl _) HTF.out.2.2
            have HSU := Lib.hid (sure_any _ C2 T wB (by rw [HCE2.out]; exact HCS2.out.nk.ko wt))
            have he : errC C2 T = 0 := by unfold errC; rw [hokc]; rfl
            rw [he] at HSU
            have HRG : Hid (∀ W, Below wB.heap.size wB W → Calls Try.prog 12 #[.agg #[.slice p2 n2 c2, .int .i64 wt]] W fun e w' => e = .returned (.bool true) ∧ Below W.heap.size W w') := Lib.hid (fun W hW => by
              have := right_any _ _ C2 W (by rw [HCE2.out]; exact (HCS2.out.nk.below hW).ko wt)
              rw [right_iff.2 HI2.out.rt] at this; exact this)
            clear hokc he
            have kC := HCS2.out.hc.c
            go_upto_region 34 with fail
            go_wp2_with fail
            refine HSU.out.mono ?_
            rintro e w4 ⟨y, rfl, hr, -, hym, hb⟩
            have HB4 := Lib.hid hb
            have HCS4 := Lib.hid (HCS2.out.below hb)
            obtain ⟨ysp, yt, yq, ym, yc, ycs⟩ := y
            have HYM : Hid (sureM C2 T = ⟨ysp, yt, ycs⟩) := Lib.hid hym
            dsimp only
            clear hb hr hym kC HSU HCS2
            go_upto_region 35 with fail
            have HB5 : Hid (Below wB.heap.size wB (w4.alloc (.cells #[.int .i64 ysp, .int .i64 yt, .slice yq ym yc] 32))) := Lib.hid (HB4.out.alloc HB4.out.size _)
            have HCS5 := Lib.hid (HCS4.out.below ((Below.refl _ _).alloc (Nat.le_refl _) (.cells #[.int .i64 ysp, .int .i64 yt, .slice yq ym yc] 32)))
            have HY5 : Hid (Blk (w4.alloc (.cells #[.int .i64 ysp, .int .i64 yt, .slice yq ym yc] 32)) w4.heap.size #[.int .i64 ysp, .int .i64 yt, .slice yq ym yc]) := Lib.hid (Blk.new _ _ _)
            have HYC : Hid (bc ≠ w4.heap.size ∧ bl ≠ w4.heap.size) := Lib.hid ⟨by have := HCS4.out.hc.lt; omega, by have := HCS4.out.hl.lt; omega⟩
            obtain ⟨by_, hby⟩ : ∃ z, z = w4.heap.size := ⟨_, rfl⟩
            obtain ⟨w5, hw5⟩ : ∃ z, z = w4.alloc (.cells #[.int .i64 ysp, .int .i64 yt, .slice yq ym yc] 32) := ⟨_, rfl⟩
            rw [← hw5] at HB5 HCS5 HY5 ⊢
            rw [← hby] at HY5 HYC ⊢
            clear hw5 hby HB4 HCS4
            have hmono := HMO.out
            rw [← HSM.out, HYM.out, ← HLS.out.1, ← HLS.out.2] at hmono
            have d1 : decide (yt < lt) = false := decide_eq_false (by have := hmono.1; dsimp only at this; omega)
            have d2 : decide (ysp < lsp) = false := decide_eq_false (by have := hmono.2; dsimp only at this; omega)
            have kC := HCS5.out.hc.c
            have kL := HCS5.out.hl.c
            have kY := HY5.out.c
            clear hmono
            go_wp2_with fail
            refine (HRG.out w5 HB5.out).mono ?_
            rintro e w6 ⟨rfl, hb⟩
            have HCS6 := Lib.hid (HCS5.out.below hb)
            have HY6 := Lib.hid (HY5.out.below hb)
            clear hb kC kL kY HRG HCS5 HY5 HB5 d1 d2
            have kC := HCS6.out.hc.c
            have hn2 := HCS6.out.nk.kc.nb
            go_wp2_with fail
            clear kC
            have HLAT : Hid (∀ j, j < n2 → T - (zs.getD j zV).when > (wait : Int) → (zs.getD j zV).when ≤ yt) := Lib.hid (fun j hj hw => by
              have hl : C2.marks = mksOf zs := by rw [HCE2.out]
              have := HI2.out.latest (k := j) HTF.out.2.2 (by rw [hl, mksOf_len, HCS6.out.nk.kc.xl]; exact hj) (by rw [hl, mksOf_at]; exact hw)
              rw [hl, mksOf_at, HYM.out] at this
              exact this)
            have HWH : Hid (∀ j, j < n2 → 0 ≤ (zs.getD j zV).when ∧ (zs.getD j zV).when ≤ 1099511627776) := Lib.hid (fun j hj => by
              have hl : C2.marks = mksOf zs := by rw [HCE2.out]
              have := HI2.out.rt.wh j (by rw [hl, mksOf_len, HCS6.out.nk.kc.xl]; exact hj)
              rw [hl, mksOf_at] at this
              exact this)
            obtain ⟨wR, hwR⟩ : ∃ z, z = wr := ⟨_, rfl⟩
            go_loopw [25] (fun i wq => ∃ j : Nat, j ≤ n2 ∧ i = .int .i64 j ∧ Below w6.heap.size w6 wq) (fun i _ => n2 - (intOf i).toNat)
            case atStart => exact ⟨0, Nat.zero_le _, rfl, Below.refl _ _⟩
            case round =>
              obtain ⟨j, hj, rfl, hb⟩ := hrel
              have HBR := Lib.hid hb
              have HCS7 := Lib.hid (HCS6.out.below hb)
              have HY7 := Lib.hid (HY6.out.below hb)
              clear hb
              have kC := HCS7.out.hc.c
              have kY := HY7.out.c
              by_cases hlt : j < n2
              · obtain ⟨b, off, rfl, hat, -⟩ := HCS7.out.nk.kc.at_ j hlt
                obtain ⟨l0, c0, c1, c2⟩ := hat
                have hla := Lib.hid (HLAT.out j hlt)
                have hwh := HWH.out j hlt
                obtain ⟨x, hx⟩ : ∃ x, x = zs.getD j zV := ⟨_, rfl⟩
                rw [← hx] at c0 c1 c2 hla hwh
                obtain ⟨xsp, xt, xq, xm, xc, xcs⟩ := x
                dsimp only at c0 c1 c2 hla hwh
                have HF56 : Hid (IntKind.i64.wrap (T - xt) = T - xt ∧ wrap64 (T - xt) = T - xt) := Lib.hid ⟨wrapA rfl (by have := HTF.out; omega), wrapB rfl (by have := HTF.out; omega)⟩
                have hjI : (j : Int) < (n2 : Int) := by omega
                clear hx hwh
                go_upto_region 40 with fail
                by_cases hw : (wait : Int) < T - xt
                · have d1 : decide ((wait : Int) < T - xt) = true := decide_eq_true hw
                  have d2 : decide (yt < xt) = false := decide_eq_false (by have := hla.out hw; omega)
                  clear hw
                  obtain ⟨f3, f4⟩ := HF34.out
                  obtain ⟨f5, f6⟩ := HF56.out
                  go_quiet (fail)
                  clear f3 f4 f5 f6
                  go_wp2
                  go_roundw
                  case rel => exact ⟨j + 1, by omega, by go_num, drewN_below HBR.out _⟩
                  case measure => simp [intOf]; omega
                · have d1 : decide ((wait : Int) < T - xt) = false := decide_eq_false hw
                  clear hw
                  obtain ⟨f3, f4⟩ := HF34.out
                  obtain ⟨f5, f6⟩ := HF56.out
                  go_quiet (fail)
                  clear f3 f4 f5 f6
                  go_wp2
                  go_roundw
                  case rel => exact ⟨j + 1, by omega, by go_num, drewN_below HBR.out _⟩
                  case measure => simp [intOf]; omega
              · have kL := HCS7.out.hl.c
                have fL := HCS7.out.hl.f
                have lL := HCS7.out.hl.lt
                go_wp2_with fail
                go_roundw
                case rel => exact ⟨k + 1, T, sp, C2, p2, n2, c2, zs, ysp, yt, yq, ym, yc, by omega, by have := HSF.out; omega, by go_num, rfl, rfl, HTF.out.2.1, HSP.out, HI2.out, HIS2.out, by rw [HYM.out], by rw [HYM.out], HCS7.out.last ysp yt yq ym yc⟩
                case measure => simp [intOf]; omega
      · rw [decide_eq_false hgo]
        have HBE := Lib.hid HCS.out.hb
        clear HCS
        go_wp2_with fail
        go_ret
        exact ⟨rfl, HBE.out⟩
end Go.Proofs.Ytbogkloemmddcaa
