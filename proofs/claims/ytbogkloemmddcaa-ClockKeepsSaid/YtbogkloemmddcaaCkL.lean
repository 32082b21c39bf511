/- New clocks, and a mark more, by the program; no condition but that the clock and the cores read. -/
import Derived.Test.YtbogkloemmddcaaCkK
namespace Go.Proofs.Ytbogkloemmddcaa
set_option linter.unusedVariables false
open Go.ChangeShapes Go.WideShapes Go.ChangeAt Go.RowKit

theorem one_own {w : World} {base : Nat} {y : Mv} (hb : base ≤ w.heap.size) (hr : Mr w y) (hf : ∀ R, R < base → Off R y.q y.m) : OwnK base (w.alloc (.cells (mvR y) 32)) (some ⟨w.heap.size, 0, none⟩) 1 1 [y] := by
  refine ⟨⟨rfl, .inr ⟨w.heap.size, 1, mvR y, rfl, hb, World.alloc_heap_new w _, Nat.le_refl _, by unfold maxLen; omega, rfl, rfl⟩⟩, by omega, fun z hz => ?_, fun g e z hz => ?_, fun R hR z hz => ?_⟩
  · rw [List.mem_singleton.1 hz]; exact hr.below ((Below.refl _ _).alloc (Nat.le_refl _) _)
  · rw [List.mem_singleton.1 hz]; injection e with e; rw [← e]; exact hr.sl.off (Nat.le_refl _)
  · rw [List.mem_singleton.1 hz]; exact hf R hR

set_option maxHeartbeats 4000000 in
set_option maxRecDepth 100000 in
theorem new_any (wt : Int) (q : Option Addr) (m c : Nat) (cs : List Cor) (w : World) (hl : cs.length = m) (hmc : m ≤ c) (hm : m ≤ 10000) (hs : Sl w q m (coresC cs)) : Calls Try.prog 6 #[.int .i64 wt, .slice q m c] w fun e w' => OutW w w' e (newC wt cs) (newE wt cs) := by
  have HCL : Hid (∀ W, Below w.heap.size w W → Calls Try.prog 15 #[.slice q m c] W fun e w' => ∃ r, e = .returned r ∧ w'.ownsRow W.heap.size 50 10 r m (coresC cs) ∧ Below W.heap.size W w') := Lib.hid (fun W hW => cloneC_any q m c cs W hl (hs.below hW) hm hmc)
  have HNO : Hid (rightC (newK wt cs) = false → newC wt cs = ⟨[], 0⟩ ∧ newE wt cs = 1) := Lib.hid (fun e => by unfold newC newE; rw [e]; exact ⟨rfl, rfl⟩)
  have HYES : Hid (rightC (newK wt cs) = true → newC wt cs = newK wt cs ∧ newE wt cs = 0) := Lib.hid (fun e => by unfold newC newE; rw [e]; exact ⟨rfl, rfl⟩)
  have HL : Hid (cs.length = m) := Lib.hid hl
  obtain ⟨C, hC⟩ : ∃ C, C = newC wt cs := ⟨_, rfl⟩
  obtain ⟨E, hE⟩ : ∃ E, E = newE wt cs := ⟨_, rfl⟩
  rw [← hC, ← hE] at HNO HYES ⊢
  clear hC hE hs hl
  obtain ⟨w0, hw0⟩ : ∃ w0, w0 = w.alloc (.cells #[.slice none 0 0, .int .i64 0] 26) := ⟨_, rfl⟩
  have HB0 : Hid (Below w.heap.size w w0) := Lib.hid (by rw [hw0]; exact (Below.refl _ _).alloc (Nat.le_refl _) _)
  have HT0 : Hid (Blk w0 w.heap.size #[.slice none 0 0, .int .i64 0]) := Lib.hid (by rw [hw0]; exact Blk.new _ _ _)
  have HSZ : Hid (w0.heap.size = w.heap.size + 1) := Lib.hid (by rw [hw0, World.size_alloc])
  have HW0 := Lib.hid hw0
  clear hw0
  go_enter Try.func6, Try.ntmps6
  go_upto_region 1 with fail
  rw [← HW0.out]
  clear HW0
  go_wp2_with fail
  refine (HCL.out w0 HB0.out).mono ?_
  rintro e w1 ⟨r, rfl, ho, hb⟩
  obtain ⟨q', c', rfl, hsl⟩ := Sl.own ho
  obtain ⟨q2, c2, e2, hcap⟩ := own_cap ho
  injection e2 with e3 e4 e5
  subst e5
  have HR1 : Hid (Mr w1 ⟨0, 0, q', m, c', cs⟩) := Lib.hid ⟨HL.out, hcap, hm, hsl⟩
  have HF1 : Hid (∀ R, R < w0.heap.size → Off R q' m) := Lib.hid (fun R hR => own_offR ho hR)
  have HT1 := Lib.hid (HT0.out.below hb)
  have HB1 : Hid (Below w.heap.size w w1) := Lib.hid (HB0.out.trans (hb.mono HB0.out.size))
  have HG1 : Hid (w0.heap.size ≤ w1.heap.size) := Lib.hid hb.size
  clear ho hb hsl hcap e3 e4 HT0 HB0 HCL
  go_upto_region 2 with fail
  have HO2 : Hid (OwnK (w.heap.size + 1) (w1.alloc (.cells #[.int .i64 0, .int .i64 0, .slice q' m c'] 32)) (some ⟨w1.heap.size, 0, none⟩) 1 1 [⟨0, 0, q', m, c', cs⟩]) := Lib.hid (one_own (y := ⟨0, 0, q', m, c', cs⟩) (by have := HG1.out; have := HSZ.out; omega) HR1.out (fun R hR => HF1.out R (by have := HSZ.out; omega)))
  have HT2 := Lib.hid (HT1.out.alloc (.cells #[.int .i64 0, .int .i64 0, .slice q' m c'] 32))
  have HB2 : Hid (Below w.heap.size w (w1.alloc (.cells #[.int .i64 0, .int .i64 0, .slice q' m c'] 32))) := Lib.hid (HB1.out.alloc HB1.out.size _)
  have HS2 : Hid ((w1.alloc (.cells #[.int .i64 0, .int .i64 0, .slice q' m c'] 32)).heap.size = w1.heap.size + 1) := Lib.hid (World.size_alloc _ _)
  obtain ⟨g, hg⟩ : ∃ z, z = w1.heap.size := ⟨_, rfl⟩
  obtain ⟨w2, hw2⟩ : ∃ z, z = w1.alloc (.cells #[.int .i64 0, .int .i64 0, .slice q' m c'] 32) := ⟨_, rfl⟩
  rw [← hw2] at HO2 HT2 HB2 HS2 ⊢
  rw [← hg] at HO2 HS2 ⊢
  rw [← HS2.out]
  have HK3 : Hid (Blk (w2.alloc (.cells #[.slice (some ⟨g, 0, none⟩) 1 1, .int .i64 wt] 26)) w2.heap.size #[.slice (some ⟨g, 0, none⟩) 1 1, .int .i64 wt]) := Lib.hid (Blk.new _ _ _)
  have HO3 := Lib.hid (HO2.out.below ((Below.refl _ _).alloc (Nat.le_refl _) (.cells #[.slice (some ⟨g, 0, none⟩) 1 1, .int .i64 wt] 26)))
  have HT3 := Lib.hid (HT2.out.alloc (.cells #[.slice (some ⟨g, 0, none⟩) 1 1, .int .i64 wt] 26))
  have HB3 : Hid (Below w.heap.size w (w2.alloc (.cells #[.slice (some ⟨g, 0, none⟩) 1 1, .int .i64 wt] 26))) := Lib.hid (HB2.out.alloc HB2.out.size _)
  obtain ⟨bo, hbo⟩ : ∃ z, z = w2.heap.size := ⟨_, rfl⟩
  obtain ⟨w3, hw3⟩ : ∃ z, z = w2.alloc (.cells #[.slice (some ⟨g, 0, none⟩) 1 1, .int .i64 wt] 26) := ⟨_, rfl⟩
  rw [← hw3] at HK3 HO3 HT3 HB3 ⊢
  rw [← hbo] at HK3 ⊢
  clear hw2 hw3 hg hbo HO2 HT2 HB2 HS2 HT1 HB1 HR1 HF1 HG1
  have HRT : Hid (Calls Try.prog 12 #[.agg #[.slice (some ⟨g, 0, none⟩) 1 1, .int .i64 wt]] w3 fun e w' => e = .returned (.bool (rightC (newK wt cs))) ∧ Below w3.heap.size w3 w') := Lib.hid (right_any (fun R => R < w.heap.size + 1) _ _ w3 (HO3.out.out (fun R hR => hR) wt))
  obtain ⟨r, hr⟩ : ∃ r, r = rightC (newK wt cs) := ⟨_, rfl⟩
  rw [← hr] at HRT HNO HYES
  clear hr
  have kK := HK3.out.c
  go_wp2_with fail
  refine HRT.out.mono ?_
  rintro e w4 ⟨rfl, hb⟩
  have HK4 := Lib.hid (HK3.out.below hb)
  have HO4 := Lib.hid (HO3.out.below hb)
  have HT4 := Lib.hid (HT3.out.below hb)
  have HB4 : Hid (Below w.heap.size w w4) := Lib.hid (HB3.out.trans (hb.mono HB3.out.size))
  clear hb kK HK3 HO3 HT3 HB3 HRT
  cases r with
  | false =>
    have HN := Lib.hid (HNO.out (by first | rfl | trivial))
    clear HNO HYES
    have hC := HN.out.1
    have hE := HN.out.2
    subst hC hE
    have kT := HT4.out.c
    have fT := HT4.out.f
    have lT := HT4.out.lt
    go_wp2_with fail
    exact bodyPost_ret (v := .tuple #[.agg #[.slice none 0 0, .int .i64 0], .int .i64 1]) (by simp [results, Try.results6, go_sem, *]) rfl ⟨none, 0, 0, [], rfl, ⟨World.ownsRow_nil _ _ _ _, Nat.zero_le _, fun x hx => (by cases hx), fun g _ x hx => (by cases hx), fun R _ x hx => (by cases hx)⟩, rfl, set2_below HB4.out (by omega) _ _⟩
  | true =>
    have HN := Lib.hid (HYES.out (by first | rfl | trivial))
    clear HNO HYES
    have hC := HN.out.1
    have hE := HN.out.2
    subst hC hE
    have kK := HK4.out.c
    have kT := HT4.out.c
    have fT := HT4.out.f
    have lT := HT4.out.lt
    go_wp2_with fail
    exact bodyPost_ret (v := .tuple #[.agg #[.slice (some ⟨g, 0, none⟩) 1 1, .int .i64 wt], .int .i64 0]) (by simp [results, Try.results6, go_sem, *]) rfl ⟨some ⟨g, 0, none⟩, 1, 1, _, rfl, (HO4.out.set2 (by omega) _ _).mono (by omega), rfl, set2_below HB4.out (by omega) _ _⟩

theorem tick_no {C : Ck} {s t : Int} {cs : List Cor} (h : okC C t = false) : tickC C s t cs = C ∧ tickE C s t cs = 1 := by
  unfold tickC tickE; rw [h]; exact ⟨rfl, rfl⟩
theorem tick_full {C : Ck} {s t : Int} {cs : List Cor} (h : okC C t = true) (h8 : C.marks.length = 8) : tickC C s t cs = C ∧ tickE C s t cs = 6 := by
  unfold tickC tickE tickB; rw [h, if_pos rfl, if_pos h8, decide_eq_false (by omega)]; exact ⟨rfl, rfl⟩
theorem tick_not {C : Ck} {s t : Int} {cs : List Cor} (h : okC C t = true) (h8 : C.marks.length ≠ 8) (hf : fitB C.marks ⟨s, t, cs⟩ = false) : tickC C s t cs = C ∧ tickE C s t cs = 1 := by
  unfold tickC tickE tickB; rw [h, if_pos rfl, if_neg h8, hf, Bool.and_false]; exact ⟨rfl, rfl⟩
theorem tick_yes {C : Ck} {s t : Int} {cs : List Cor} (h : okC C t = true) (h8 : C.marks.length ≠ 8) (hf : fitB C.marks ⟨s, t, cs⟩ = true) : tickC C s t cs = ⟨C.marks ++ [⟨s, t, cs⟩], C.wait⟩ ∧ tickE C s t cs = 0 := by
  unfold tickC tickE tickB; rw [h, if_pos rfl, if_neg h8, hf, decide_eq_true h8]; exact ⟨rfl, rfl⟩

set_option maxHeartbeats 4000000 in
set_option maxRecDepth 100000 in
theorem tick_any {T : Nat → Prop} (v : Value) (C : Ck) (s t : Int) (q : Option Addr) (m mc : Nat) (cs : List Cor) (w : World) (h : Ko T w v C) (hl : cs.length = m) (hmc : m ≤ mc) (hm : m ≤ 10000) (hs : Sl w q m (coresC cs)) : Calls Try.prog 7 #[v, .int .i64 s, .int .i64 t, .slice q m mc] w fun e w' => OutW w w' e (tickC C s t cs) (tickE C s t cs) := by
  obtain ⟨l, wt⟩ := C
  obtain ⟨p0, n, c0, xs0, rfl, rfl, hc, -⟩ := h
  have hn := hc.nb
  have HCP : Hid (∀ W, Below w.heap.size w W → Calls Try.prog 16 #[.agg #[.slice p0 n c0, .int .i64 wt]] W fun e w' => ∃ p c ys, e = .returned (.agg #[.slice p n c, .int .i64 wt]) ∧ OwnK (W.heap.size + 2) w' p n c ys ∧ mksOf ys = mksOf xs0 ∧ Below W.heap.size W w') := Lib.hid (fun W hW => copied_any p0 n c0 wt xs0 W (hc.below hW))
  have HCM : Hid (∀ W, Below w.heap.size w W → Calls Try.prog 18 #[.agg #[.int .i64 s, .int .i64 t, .slice q m mc]] W fun e w' => ∃ y : Mv, e = .returned (.agg #[.int .i64 y.span, .int .i64 y.when, .slice y.q y.m y.c]) ∧ OwnM W.heap.size w' ⟨s, t, q, m, mc, cs⟩ y ∧ Below W.heap.size W w') := Lib.hid (fun W hW => copiedMark_any ⟨s, t, q, m, mc, cs⟩ W (Mr.below ⟨hl, hmc, hm, hs⟩ hW))
  dsimp only
  have HML : Hid ((mksOf xs0).length = n) := Lib.hid (by rw [mksOf_len, hc.xl])
  obtain ⟨M, hM⟩ : ∃ M, M = mksOf xs0 := ⟨_, rfl⟩
  rw [← hM] at HCP HML ⊢
  have HNO : Hid (okC ⟨M, wt⟩ t = false → tickC ⟨M, wt⟩ s t cs = ⟨M, wt⟩ ∧ tickE ⟨M, wt⟩ s t cs = 1) := Lib.hid tick_no
  have HFULL : Hid (okC ⟨M, wt⟩ t = true → n = 8 → tickC ⟨M, wt⟩ s t cs = ⟨M, wt⟩ ∧ tickE ⟨M, wt⟩ s t cs = 6) := Lib.hid (fun e e8 => tick_full e (by dsimp only; rw [HML.out]; exact e8))
  have HNOT : Hid (okC ⟨M, wt⟩ t = true → n ≠ 8 → fitB M ⟨s, t, cs⟩ = false → tickC ⟨M, wt⟩ s t cs = ⟨M, wt⟩ ∧ tickE ⟨M, wt⟩ s t cs = 1) := Lib.hid (fun e e8 => tick_not e (by dsimp only; rw [HML.out]; exact e8))
  have HYES : Hid (okC ⟨M, wt⟩ t = true → n ≠ 8 → fitB M ⟨s, t, cs⟩ = true → tickC ⟨M, wt⟩ s t cs = ⟨M ++ [⟨s, t, cs⟩], wt⟩ ∧ tickE ⟨M, wt⟩ s t cs = 0) := Lib.hid (fun e e8 => tick_yes e (by dsimp only; rw [HML.out]; exact e8))
  have H8 : Hid (okC ⟨M, wt⟩ t = true → n ≤ 8) := Lib.hid (fun e => by
    unfold okC at e
    rw [Bool.and_eq_true] at e
    have := (right_iff.1 e.1).l8
    dsimp only at this
    rw [HML.out] at this; exact this)
  obtain ⟨C, hC⟩ : ∃ C, C = tickC ⟨M, wt⟩ s t cs := ⟨_, rfl⟩
  obtain ⟨E, hE⟩ : ∃ E, E = tickE ⟨M, wt⟩ s t cs := ⟨_, rfl⟩
  rw [← hC, ← hE] at HNO HFULL HNOT HYES ⊢
  clear hc hM hC hE hs hl
  obtain ⟨w0, hw0⟩ : ∃ w0, w0 = (w.alloc (.cells #[.slice p0 n c0, .int .i64 wt] 26)).alloc (.cells #[.slice none 0 0, .int .i64 0] 26) := ⟨_, rfl⟩
  have HB0 : Hid (Below w.heap.size w w0) := Lib.hid (by rw [hw0]; exact ((Below.refl _ _).alloc (Nat.le_refl _) _).alloc (by simp) _)
  have HA0 : Hid (Blk w0 w.heap.size #[.slice p0 n c0, .int .i64 wt]) := Lib.hid (by rw [hw0]; exact (Blk.new _ _ _).alloc _)
  have HT0 : Hid (Blk w0 (w.heap.size + 1) #[.slice none 0 0, .int .i64 0]) := Lib.hid (by
    have := Blk.new (w.alloc (.cells #[.slice p0 n c0, .int .i64 wt] 26)) #[.slice none 0 0, .int .i64 0] 26
    rw [World.size_alloc] at this
    rw [hw0]; exact this)
  have HSZ : Hid (w0.heap.size = w.heap.size + 2) := Lib.hid (by rw [hw0, World.size_alloc, World.size_alloc])
  have HW0 := Lib.hid hw0
  clear hw0
  go_enter Try.func7, Try.ntmps7
  have kA := HA0.out.c
  go_upto_region 1 with fail
  rw [← HW0.out]
  clear HW0
  go_wp2_with fail
  refine (HCP.out w0 HB0.out).mono ?_
  rintro e w1 ⟨p, c, xs, rfl, ho, hmm, hb⟩
  have HM : Hid (mksOf xs = M) := Lib.hid hmm
  have HO1 : Hid (OwnK (w.heap.size + 2) w1 p n c xs) := Lib.hid (ho.mono (by rw [HSZ.out]; omega))
  have HT1 := Lib.hid (HT0.out.below hb)
  have HB1 : Hid (Below w.heap.size w w1) := Lib.hid (HB0.out.trans (hb.mono HB0.out.size))
  have HGE : Hid (w.heap.size + 2 ≤ w1.heap.size) := Lib.hid (by rw [← HSZ.out]; exact hb.size)
  clear ho hb hmm kA HA0 HT0 HB0 HSZ HCP
  go_upto_region 2 with fail
  have HST : Hid (St w (w1.alloc (.cells #[.slice p n c, .int .i64 wt] 26)) w1.heap.size p n c wt xs) := Lib.hid (St.make HO1.out HB1.out HT1.out HGE.out)
  obtain ⟨bo, hbo⟩ : ∃ b, b = w1.heap.size := ⟨_, rfl⟩
  obtain ⟨w2, hw2⟩ : ∃ z, z = w1.alloc (.cells #[.slice p n c, .int .i64 wt] 26) := ⟨_, rfl⟩
  rw [← hw2, ← hbo] at HST ⊢
  clear hw2 hbo HO1 HT1 HB1 HGE
  have HQ : Hid (Calls Try.prog 17 #[.agg #[.slice p n c, .int .i64 wt], .int .i64 t] w2 fun e w' => e = .returned (.bool (okC ⟨M, wt⟩ t)) ∧ Below w2.heap.size w2 w') := Lib.hid (by have := mayAsk_any _ _ _ t w2 HST.out.ko; rw [HM.out] at this; exact this)
  obtain ⟨r, hr⟩ : ∃ r, r = okC ⟨M, wt⟩ t := ⟨_, rfl⟩
  rw [← hr] at HQ HNO HYES HFULL HNOT H8
  clear hr
  have kK := HST.out.hk.c
  go_wp2_with fail
  refine HQ.out.mono ?_
  rintro e w3 ⟨rfl, hb⟩
  have HS3 := Lib.hid (HST.out.below hb)
  clear hb kK HST HQ
  have kK := HS3.out.hk.c
  have fK := HS3.out.hk.f
  have lK := HS3.out.hk.lt
  have kT := HS3.out.ht.c
  have fT := HS3.out.ht.f
  have lT := HS3.out.ht.lt
  cases r with
  | false =>
    have HN := Lib.hid (HNO.out (by first | rfl | trivial))
    clear HNO HYES HFULL HNOT H8
    go_wp2_with fail
    exact bodyPost_ret (v := .tuple #[.agg #[.slice p n c, .int .i64 wt], .int .i64 1]) (by simp [results, Try.results7, go_sem, *]) rfl (HS3.out.out 1 (by rw [HN.out.1, HM.out]) HN.out.2)
  | true =>
    have HN8 := Lib.hid (H8.out (by first | rfl | trivial))
    have HFULL2 := Lib.hid (HFULL.out (by first | rfl | trivial))
    have HNOT2 := Lib.hid (HNOT.out (by first | rfl | trivial))
    have HYES2 := Lib.hid (HYES.out (by first | rfl | trivial))
    clear HNO HYES HFULL HNOT H8
    by_cases h8 : n = 8
    · subst h8
      have HN := Lib.hid (HFULL2.out rfl)
      clear HYES2 HFULL2 HNOT2
      go_wp2_with fail
      exact bodyPost_ret (v := .tuple #[.agg #[.slice p 8 c, .int .i64 wt], .int .i64 6]) (by simp [results, Try.results7, go_sem, *]) rfl (HS3.out.out 6 (by rw [HN.out.1, HM.out]) HN.out.2)
    · have d8 : ((n : Int) == 8) = false := by simp; omega
      have d8n : (n == 8) = false := by simp; omega
      have HH8 := Lib.hid h8
      clear h8
      go_upto_region 6 with fail
      go_wp2_with fail
      refine (HCM.out w3 HS3.out.hb).mono ?_
      rintro e w4 ⟨y, rfl, hy, hb⟩
      have HS4 := Lib.hid (HS3.out.below hb)
      have HY4 := Lib.hid hy
      have HOB : Hid (Off bo y.q y.m) := Lib.hid (hy.nw bo HS3.out.hk.lt)
      have HOG : Hid (∀ g, (Value.slice p n c).ownBlock = some g → Off g y.q y.m) := Lib.hid (fun g e => hy.nw g (HS3.out.ho.ro.lt g e).2)
      have HOW : Hid (∀ R, R < w.heap.size + 2 → Off R y.q y.m) := Lib.hid (fun R hR => hy.nw R (by have := HS3.out.ge; have := HS3.out.hk.lt; omega))
      have HYM : Hid (y.mk' = ⟨s, t, cs⟩) := Lib.hid hy.mk'
      obtain ⟨ysp, yt, yq, ym, yc, ycs⟩ := y
      dsimp only at HOB HOG HOW ⊢
      clear hb hy kK fK lK kT fT lT HS3 HCM
      go_upto_region 7 with fail
      have HS5 := Lib.hid (HS4.out.below ((Below.refl _ _).alloc (Nat.le_refl _) (.cells #[.int .i64 ysp, .int .i64 yt, .slice yq ym yc] 32)))
      have HX5 : Hid (Blk (w4.alloc (.cells #[.int .i64 ysp, .int .i64 yt, .slice yq ym yc] 32)) w4.heap.size #[.int .i64 ysp, .int .i64 yt, .slice yq ym yc]) := Lib.hid (Blk.new _ _ _)
      have HR5 : Hid (Mr (w4.alloc (.cells #[.int .i64 ysp, .int .i64 yt, .slice yq ym yc] 32)) ⟨ysp, yt, yq, ym, yc, ycs⟩) := Lib.hid (HY4.out.rd.below ((Below.refl _ _).alloc (Nat.le_refl _) _))
      obtain ⟨bx, hbx⟩ : ∃ z, z = w4.heap.size := ⟨_, rfl⟩
      obtain ⟨w5, hw5⟩ : ∃ z, z = w4.alloc (.cells #[.int .i64 ysp, .int .i64 yt, .slice yq ym yc] 32) := ⟨_, rfl⟩
      rw [← hw5] at HS5 HX5 HR5 ⊢
      rw [← hbx] at HX5 ⊢
      clear hw5 hbx HS4 HY4
      have HFI : Hid (Calls Try.prog 19 #[.slice p n c, .agg #[.int .i64 ysp, .int .i64 yt, .slice yq ym yc]] w5 fun e w' => e = .returned (.bool (fitB M ⟨s, t, cs⟩)) ∧ Below w5.heap.size w5 w') := Lib.hid (by
        have := fits_any p n c xs ⟨ysp, yt, yq, ym, yc, ycs⟩ w5 HS5.out.ho.xl HS5.out.ho.kc.sl hn HR5.out.ml
        rw [HM.out, HYM.out] at this; exact this)
      obtain ⟨f, hf⟩ : ∃ f, f = fitB M ⟨s, t, cs⟩ := ⟨_, rfl⟩
      rw [← hf] at HFI HNOT2 HYES2
      clear hf
      have kK := HS5.out.hk.c
      have kX := HX5.out.c
      go_wp2_with fail
      refine HFI.out.mono ?_
      rintro e w6 ⟨rfl, hb⟩
      have HS6 := Lib.hid (HS5.out.below hb)
      have HX6 := Lib.hid (HX5.out.below hb)
      have HR6 := Lib.hid (HR5.out.below hb)
      clear hb kK kX HS5 HX5 HR5 HFI
      have kK := HS6.out.hk.c
      have fK := HS6.out.hk.f
      have lK := HS6.out.hk.lt
      have kT := HS6.out.ht.c
      have fT := HS6.out.ht.f
      have lT := HS6.out.ht.lt
      cases f with
      | false =>
        have HN := Lib.hid (HNOT2.out HH8.out (by first | rfl | trivial))
        clear HFULL2 HNOT2 HYES2
        go_wp2_with fail
        exact bodyPost_ret (v := .tuple #[.agg #[.slice p n c, .int .i64 wt], .int .i64 1]) (by simp [results, Try.results7, go_sem, *]) rfl (HS6.out.out 1 (by rw [HN.out.1, HM.out]) HN.out.2)
      | true =>
        have HN := Lib.hid (HYES2.out HH8.out (by first | rfl | trivial))
        clear HFULL2 HNOT2 HYES2
        obtain ⟨i0, hi, hz0, hz1, hz2⟩ := info_parts infoM
        have HI := Lib.hid (And.intro hi (And.intro hz0 (And.intro hz1 hz2)))
        clear hi hz0 hz1 hz2
        have kX := HX6.out.c
        have HW7 : Hid (∀ o, Below w6.heap.size w6 (w6.alloc o)) := Lib.hid (fun o => (Below.refl _ _).alloc (Nat.le_refl _) _)
        have hn8 : n ≤ 8 := HN8.out
        go_upto_region 9 with fail
        clear fK lK kT fT lT
        go_wp2_with (first | (at_builtin; refine wpList_append_sl rfl _ _ 24 rfl (w.heap.size + 2) 32 i0 _ 3 40 Try.underlying24 HI.out.1 HI.out.2.1 HI.out.2.2.1 HI.out.2.2.2 rfl (by decide) _ n (mvC xs) rfl (own_below HS6.out.ho.ro (HW7.out _)) (some ⟨w6.heap.size, 0, none⟩) 1 1 (mvC [⟨ysp, yt, yq, ym, yc, ycs⟩]) rfl rfl (blk_sl (Blk.new w6 _ _)) (mvC_one _) (by unfold maxLen; omega) (by omega) (by have := HS6.out.hb.size; have := HS6.out.ge; have := HS6.out.hk.lt; simp; omega) ?_))
        intro v' w7 g1 g2 g3
        obtain ⟨p', c', rfl, -⟩ := own_cap g1
        have HS7 := Lib.hid (HS6.out.below (HW7.out (.cells #[.int .i64 ysp, .int .i64 yt, .slice yq ym yc] 32)))
        have HBK : Hid ((Value.slice p' (n + 1) c').ownBlock = (Value.slice p n c).ownBlock ∨ ∀ g, (Value.slice p' (n + 1) c').ownBlock = some g → (w6.alloc (.cells #[.int .i64 ysp, .int .i64 yt, .slice yq ym yc] 32)).heap.size ≤ g) := Lib.hid (by
          rcases g3 with g3 | g3
          · exact .inl g3
          · exact .inr (fun g e => by rw [g3] at e; injection e with e; rw [← e]; simp))
        have HO7 := Lib.hid (HS7.out.ho.turnA (y := ⟨ysp, yt, yq, ym, yc, ycs⟩) (show n + 1 ≤ 10000 by omega) (by rw [mvC_app]; exact g1) g2 HBK.out (HR6.out.below (HW7.out _)) HOG.out HOW.out)
        have HS8 := Lib.hid (HS7.out.turn HO7.out g2 HBK.out (fun z hz => by
          rcases List.mem_append.1 hz with hz | hz
          · exact HS7.out.nc z hz
          · rw [List.mem_singleton.1 hz]; exact HOB.out))
        have HK7 := Lib.hid (HS7.out.hk.grown g2 (fun e => HS7.out.np bo e rfl))
        have HMM : Hid (C = ⟨mksOf (xs ++ [⟨ysp, yt, yq, ym, yc, ycs⟩]), wt⟩) := Lib.hid (by
          rw [HN.out.1]
          have e1 : mksOf (xs ++ [⟨ysp, yt, yq, ym, yc, ycs⟩]) = mksOf xs ++ [Mv.mk' ⟨ysp, yt, yq, ym, yc, ycs⟩] := by unfold mksOf; rw [List.map_append]; rfl
          rw [e1, HM.out, HYM.out])
        clear g1 g2 g3 HS6 HX6 HR6 HS7 HO7 HBK HI HW7 kX
        obtain ⟨N, hN⟩ : ∃ N, N = n + 1 := ⟨_, rfl⟩
        rw [← hN] at HS8 ⊢
        clear hN kK
        have kK := HK7.out.c
        have fK := HK7.out.f
        have lK := HK7.out.lt
        go_upto_region 10 with fail
        obtain ⟨w8, hw8⟩ : ∃ z, z = w7.setCell ⟨bo, 0, none⟩ (.slice p' N c') := ⟨_, rfl⟩
        rw [← hw8] at HS8 ⊢
        clear hw8 kK fK lK HK7
        have kK := HS8.out.hk.c
        have kT := HS8.out.ht.c
        have fT := HS8.out.ht.f
        have lT := HS8.out.ht.lt
        go_wp2_with fail
        exact bodyPost_ret (v := .tuple #[.agg #[.slice p' N c', .int .i64 wt], .int .i64 0]) (by simp [results, Try.results7, go_sem, *]) rfl (HS8.out.out 0 HMM.out HN.out.2)
end Go.Proofs.Ytbogkloemmddcaa
