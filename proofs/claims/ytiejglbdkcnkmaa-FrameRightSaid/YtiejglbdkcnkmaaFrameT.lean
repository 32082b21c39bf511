/- FrameTells: the walk of the statement's function. -/
import Derived.Test.YtiejglbdkcnkmaaFrameK
namespace Go.Proofs.Ytiejglbdkcnkmaa
set_option linter.unusedVariables false
open Go.ChangeShapes Go.WideShapes Go.ChangeAt Go.RowKit

/-- What Put leaves. -/
def Puts (base : Nat) (m : Msg) (w' : World) (r : Value) (er : Int) : Prop :=
  (mayM m = false ∧ r = .slice none 0 0 ∧ er = 1) ∨
  (mayM m = true ∧ er = 0 ∧ ∃ k f t l o a : Nat, ∃ (own : Bool) (n v : Nat), m = ⟨k, f, t, l, o, a, own, n, v⟩ ∧ Fit k f t l o a own n v ∧ ∃ g cap, r = .slice (some ⟨g, 0, none⟩) 19 cap ∧ Frm base w' g cap (frameL k f t l o a own n v))
theorem put_any (m : Msg) (w : World) (hn : m.n < 4294967296) (hv : m.v < 4294967296) :
    Calls Try.prog 7 #[.agg m.row] w fun e w' => ∃ r er, e = .returned (.tuple #[r, .int .i64 er]) ∧ Puts w.heap.size m w' r er ∧ Below w.heap.size w w' := by
  cases h : mayM m with
  | false => exact (put_no m w h).mono fun e w' ⟨h1, h2⟩ => ⟨_, _, h1, .inl ⟨h, rfl, rfl⟩, h2⟩
  | true =>
    obtain ⟨k, f, t, l, o, a, own, n, v, rfl, hf⟩ := may_fit h hn hv
    refine (put_fit k f t l o a own n v w hf).mono fun e w' => ?_
    rintro ⟨g, cap, rfl, h1, h2⟩
    exact ⟨_, _, rfl, .inr ⟨h, rfl, k, f, t, l, o, a, own, n, v, rfl, hf, g, cap, rfl, h1⟩, h2⟩
theorem Frm.set {base : Nat} {w : World} {g cap : Nat} {l : List Nat} (h : Frm base w g cap l) (K x : Nat) : Frm base (w.setCell ⟨g, K, none⟩ (.int .u8 (x : Int))) g cap (l.set K x) := by
  have hs := (h.1.stored K (.int .u8 (x : Int))).1
  have e : (u8C l).set K (.int .u8 (x : Int)) = u8C (l.set K x) := by unfold u8C; rw [List.map_set]
  rw [e] at hs
  exact ⟨hs, h.2.1, h.2.2.1, by rw [size_set]; exact h.2.2.2⟩
theorem Frm.at_ {base : Nat} {w : World} {g cap : Nat} {l : List Nat} (h : Frm base w g cap l) (hl : l.length = 19) (K : Nat) (hK : K < 19) : w.cell? ⟨g, K, none⟩ = some (.int .u8 (l.getD K 0 : Nat)) := by
  rw [h.1.cellAt K (by omega), u8C_at l K (by omega)]
theorem turn_set (l : List Nat) (K b : Nat) (hb : b < 8) : l.set K (l.getD K 0 ^^^ 2 ^ b) = turnL l (8 * K + b) := by
  unfold turnL
  rw [show (8 * K + b) / 8 = K by omega, show (8 * K + b) % 8 = b by omega]
theorem xor_u8 (x y : Nat) (hx : x < 256) (hy : y < 256) : bits .xor .u8 (x : Int) (y : Int) = ((x ^^^ y : Nat) : Int) := u8_xor_nat x y hx hy

set_option maxHeartbeats 4000000 in
set_option maxRecDepth 100000 in
theorem tells_main (m : Msg) (A B : Nat) (p : Option Addr) (len cap : Nat) (l0 : List Nat) (w : World) (hn : m.n < 4294967296) (hv : m.v < 4294967296) (hA : A < 256) (hB : B < 256) (hz : l0.length = len) (hm : len ≤ maxLen) (hc : len ≤ cap) (h : Byts w p l0) :
    Calls Try.prog 4 #[.agg m.row, .int .u8 (A : Int), .int .u8 (B : Int), .slice p len cap] w fun e w' => e = .returned (.bool true) ∧ Below w.heap.size w w' := by
  have HP : Hid (∀ W, Calls Try.prog 7 #[.agg m.row] W fun e w' => ∃ r er, e = .returned (.tuple #[r, .int .i64 er]) ∧ Puts W.heap.size m w' r er ∧ Below W.heap.size W w') := Lib.hid (fun W => put_any m W hn hv)
  have HZ := Lib.hid hz
  have HBY := Lib.hid h
  have HM := Lib.hid hm
  have HC := Lib.hid hc
  obtain ⟨k, f, t, l, o, a, own, n, v, hmm⟩ : ∃ k f t l o a own n v, m = ⟨k, f, t, l, o, a, own, n, v⟩ := ⟨_, _, _, _, _, _, _, _, _, rfl⟩
  have HMM := Lib.hid hmm
  have hrow : m.row = #[.int .i64 k, .int .i64 f, .int .i64 t, .int .i64 l, .int .i64 o, .int .i64 a, .bool own, .int .u32 n, .int .u32 v] := by rw [hmm]; rfl
  have HROW := Lib.hid hrow
  rw [hrow] at HP ⊢
  clear hrow hmm hz h hm hc hn hv
  go_enter Try.func4, Try.ntmps4
  go_wp2_with fail
  refine (awake_any _).mono ?_
  rintro e w1 ⟨rfl, hb1⟩
  have HB1 : Hid (Below w.heap.size w w1) := Lib.hid (((Below.refl _ _).alloc (Nat.le_refl _) _).trans (hb1.mono (by simp)))
  have HK1 : Hid (Blk w1 w.heap.size #[.int .i64 k, .int .i64 f, .int .i64 t, .int .i64 l, .int .i64 o, .int .i64 a, .bool own, .int .u32 n, .int .u32 v]) := Lib.hid (Blk.track1 hb1)
  clear hb1
  have cB := HK1.out.c
  have lB := HK1.out.lt
  go_wp2_with fail
  refine (HP.out _).mono ?_
  rintro e w2 ⟨r, er, rfl, hp, hb2⟩
  have HB2 : Hid (Below w.heap.size w w2) := Lib.hid (HB1.out.trans (hb2.mono HB1.out.size))
  have HK2 := Lib.hid (HK1.out.below hb2)
  have HPP := Lib.hid hp
  clear hp hb2 cB lB HP
  go_upto_if 28 with fail
  go_cut [] (fun wc => Below w.heap.size w wc)
  case first =>
    rcases HPP.out with ⟨_, rfl, rfl⟩ | ⟨_, rfl, K, F, T, L, O, A', OW, NN, V, hmm, hfit, g, cg, rfl, hfrm⟩
    · go_wp2_with fail
      go_meet
      case rel => exact HB2.out
    · skip
      have hq := HMM.out.symm.trans hmm
      injection hq with e1 e2 e3 e4 e5 e6 e7 e8 e9
      subst e1 e2 e3 e4 e5 e6 e7 e8 e9
      have HF := Lib.hid hfit
      have HFR : Hid (Frm w1.heap.size w2 g cg (frameL K F T L O A' own n v)) := Lib.hid hfrm
      clear hfit hfrm hmm HPP
      have hr := read_fit K F T L O A' own n v w1.heap.size g cg w2 HF.out HFR.out
      unfold Msg.row at hr
      go_wp2_with fail
      refine hr.mono ?_
      clear hr
      rintro e w3 ⟨rfl, hb3⟩
      have HFR3 := Lib.hid (HFR.out.below hb3)
      have HK3 := Lib.hid (HK2.out.below hb3)
      have HB3 : Hid (Below w.heap.size w w3) := Lib.hid (HB2.out.trans (hb3.mono HB2.out.size))
      clear hb3
      obtain ⟨J, hJ⟩ : ∃ J, J = A % 19 := ⟨_, rfl⟩
      have eJ : (A : Int) % 19 = (J : Int) := by rw [hJ]; omega
      have hJ19 : J < 19 := by rw [hJ]; omega
      clear hJ
      go_upto_region 7 with fail
      obtain ⟨W4, hW4⟩ : ∃ W4, W4 = w3.alloc (.cells #[.int .i64 K, .int .i64 F, .int .i64 T, .int .i64 L, .int .i64 O, .int .i64 A', .bool own, .int .u32 n, .int .u32 v] 24) := ⟨_, rfl⟩
      have HK4 : Hid (Blk W4 w.heap.size #[.int .i64 K, .int .i64 F, .int .i64 T, .int .i64 L, .int .i64 O, .int .i64 A', .bool own, .int .u32 n, .int .u32 v]) := by rw [hW4]; exact HK3.out.alloc _
      have HL4 : Hid (Blk W4 w3.heap.size #[.int .i64 K, .int .i64 F, .int .i64 T, .int .i64 L, .int .i64 O, .int .i64 A', .bool own, .int .u32 n, .int .u32 v]) := by rw [hW4]; exact Blk.new _ _ _
      have HB4 : Hid (Below w.heap.size w W4) := by rw [hW4]; exact belowAlloc HB3.out _
      have HFR4 : Hid (Frm w1.heap.size W4 g cg (frameL K F T L O A' own n v)) := by rw [hW4]; exact HFR3.out.below ((Below.refl _ _).alloc (Nat.le_refl _) _)
      have HG3 : Hid (g < w3.heap.size) := Lib.hid HFR3.out.2.2.2
      rw [← hW4]
      clear hW4 HFR3 HK3 HFR HK2
      rw [eJ]
      obtain ⟨b, hb⟩ : ∃ b, b = B % 8 := ⟨_, rfl⟩
      have eB : (B : Int) % 8 = (b : Int) := by rw [hb]; omega
      have hb8 : b < 8 := by rw [hb]; omega
      have HB8 := Lib.hid hb8
      have HJ := Lib.hid hJ19
      have hx := getD_lt (frameL K F T L O A' own n v) (frame_lt HF.out) J
      obtain ⟨x, hxd⟩ : ∃ x, x = (frameL K F T L O A' own n v).getD J 0 := ⟨_, rfl⟩
      have HX := Lib.hid hxd
      have cJ : W4.cell? ⟨g, J, none⟩ = some (.int .u8 (x : Int)) := by rw [hxd]; exact HFR4.out.at_ frame_len J HJ.out
      have fJ : W4.frozen? ⟨g, J, none⟩ = false := HFR4.out.1.frozenAt J
      rw [← hxd] at hx
      clear hb hxd eJ
      go_cut [] (fun wd => wd = W4.setCell ⟨g, J, none⟩ (.int .u8 ((x ^^^ 2 ^ b : Nat) : Int)))
      case first =>
        have j0 : (0 : Int) ≤ (J : Int) := by omega
        have j1 : (J : Int) < 19 := by omega
        have hbb : b = 0 ∨ b = 1 ∨ b = 2 ∨ b = 3 ∨ b = 4 ∨ b = 5 ∨ b = 6 ∨ b = 7 := by omega
        clear hb8 hJ19
        rcases hbb with rfl | rfl | rfl | rfl | rfl | rfl | rfl | rfl
        · have ex : bits .xor .u8 (x : Int) 1 = ((x ^^^ 2 ^ 0 : Nat) : Int) := xor_u8 x 1 hx (by omega)
          go_wp2_with fail
          go_meet
          case rel => rfl
        · have ex : bits .xor .u8 (x : Int) 2 = ((x ^^^ 2 ^ 1 : Nat) : Int) := xor_u8 x 2 hx (by omega)
          go_wp2_with fail
          go_meet
          case rel => rfl
        · have ex : bits .xor .u8 (x : Int) 4 = ((x ^^^ 2 ^ 2 : Nat) : Int) := xor_u8 x 4 hx (by omega)
          go_wp2_with fail
          go_meet
          case rel => rfl
        · have ex : bits .xor .u8 (x : Int) 8 = ((x ^^^ 2 ^ 3 : Nat) : Int) := xor_u8 x 8 hx (by omega)
          go_wp2_with fail
          go_meet
          case rel => rfl
        · have ex : bits .xor .u8 (x : Int) 16 = ((x ^^^ 2 ^ 4 : Nat) : Int) := xor_u8 x 16 hx (by omega)
          go_wp2_with fail
          go_meet
          case rel => rfl
        · have ex : bits .xor .u8 (x : Int) 32 = ((x ^^^ 2 ^ 5 : Nat) : Int) := xor_u8 x 32 hx (by omega)
          go_wp2_with fail
          go_meet
          case rel => rfl
        · have ex : bits .xor .u8 (x : Int) 64 = ((x ^^^ 2 ^ 6 : Nat) : Int) := xor_u8 x 64 hx (by omega)
          go_wp2_with fail
          go_meet
          case rel => rfl
        · have ex : bits .xor .u8 (x : Int) 128 = ((x ^^^ 2 ^ 7 : Nat) : Int) := xor_u8 x 128 hx (by omega)
          go_wp2_with fail
          go_meet
          case rel => rfl
      case rest =>
        obtain ⟨W5, hW5⟩ : ∃ W5, W5 = wc := ⟨_, rfl⟩
        subst hW5
        have hge : w.heap.size < g := Nat.lt_of_lt_of_le HK1.out.lt HFR4.out.2.2.1
        have HFR5 : Hid (Frm w1.heap.size W5 g cg (turnL (frameL K F T L O A' own n v) (8 * J + b))) := Lib.hid (by
          rw [hcut, ← turn_set _ J b HB8.out, ← HX.out]; exact HFR4.out.set J _)
        have HK5 : Hid (Blk W5 w.heap.size #[.int .i64 K, .int .i64 F, .int .i64 T, .int .i64 L, .int .i64 O, .int .i64 A', .bool own, .int .u32 n, .int .u32 v]) := Lib.hid (by rw [hcut]; exact HK4.out.other _ (Nat.ne_of_gt hge))
        have HL5 : Hid (Blk W5 w3.heap.size #[.int .i64 K, .int .i64 F, .int .i64 T, .int .i64 L, .int .i64 O, .int .i64 A', .bool own, .int .u32 n, .int .u32 v]) := Lib.hid (by rw [hcut]; exact HL4.out.other _ (Nat.ne_of_lt HG3.out))
        have HB5 : Hid (Below w.heap.size w W5) := Lib.hid (by rw [hcut]; exact HB4.out.setCell (Nat.le_of_lt hge) _)
        have hi : 8 * J + b < 152 := by have := HB8.out; have := HJ.out; omega
        have h5 := turn1_read HF.out (8 * J + b) hi
        have hr := read_any (some ⟨g, 0, none⟩) 19 cg _ W5 (by rw [turn_len]; rfl) (by unfold maxLen; omega) HFR5.out.2.1 (HFR5.out.byts (by rw [turn_len]; rfl) (turn_lt _ _ (frame_lt HF.out)))
        rw [h5, readM_no (by rw [h5]; decide), zero_row] at hr
        clear hcut hge hi h5 cJ fJ hx hb8 hJ19 HX HFR4 HK4 HL4 HB4 HB3
        go_wp2_with fail
        refine hr.mono ?_
        clear hr
        rintro e w6 ⟨rfl, hb6⟩
        have HK6 := Lib.hid (HK5.out.below hb6)
        have HL6 := Lib.hid (HL5.out.below hb6)
        have HB6 : Hid (Below w.heap.size w w6) := Lib.hid (HB5.out.trans (hb6.mono HB5.out.size))
        clear hb6
        go_upto_region 9 with fail
        obtain ⟨W7, hW7⟩ : ∃ W7, W7 = w6.alloc (.cells #[.int .i64 0, .int .i64 0, .int .i64 0, .int .i64 0, .int .i64 0, .int .i64 0, .bool false, .int .u32 0, .int .u32 0] 24) := ⟨_, rfl⟩
        have HK7 : Hid (Blk W7 w.heap.size #[.int .i64 K, .int .i64 F, .int .i64 T, .int .i64 L, .int .i64 O, .int .i64 A', .bool own, .int .u32 n, .int .u32 v]) := by rw [hW7]; exact HK6.out.alloc _
        have HL7 : Hid (Blk W7 w3.heap.size #[.int .i64 K, .int .i64 F, .int .i64 T, .int .i64 L, .int .i64 O, .int .i64 A', .bool own, .int .u32 n, .int .u32 v]) := by rw [hW7]; exact HL6.out.alloc _
        have HZ7 : Hid (Blk W7 w6.heap.size #[.int .i64 0, .int .i64 0, .int .i64 0, .int .i64 0, .int .i64 0, .int .i64 0, .bool false, .int .u32 0, .int .u32 0]) := by rw [hW7]; exact Blk.new _ _ _
        have HB7 : Hid (Below w.heap.size w W7) := by rw [hW7]; exact belowAlloc HB6.out _
        rw [← hW7]
        clear hW7 HK6 HL6 HB6 HK5 HL5 HB5
        have cK := HK7.out.c
        have cL := HL7.out.c
        have cZ := HZ7.out.c
        have q1 : ∀ W, (binOp .neq 24 (.agg #[.int .i64 K, .int .i64 F, .int .i64 T, .int .i64 L, .int .i64 O, .int .i64 A', .bool own, .int .u32 n, .int .u32 v]) (.agg #[.int .i64 K, .int .i64 F, .int .i64 T, .int .i64 L, .int .i64 O, .int .i64 A', .bool own, .int .u32 n, .int .u32 v])).run Try.prog W = .ok (.bool false) W := fun W => by
          have := neq_msg W ⟨K, F, T, L, O, A', own, n, v⟩ ⟨K, F, T, L, O, A', own, n, v⟩
          rw [eqM_refl] at this
          exact this
        have q2 : ∀ W, (binOp .neq 24 (.agg #[.int .i64 0, .int .i64 0, .int .i64 0, .int .i64 0, .int .i64 0, .int .i64 0, .bool false, .int .u32 0, .int .u32 0]) (.agg #[.int .i64 0, .int .i64 0, .int .i64 0, .int .i64 0, .int .i64 0, .int .i64 0, .bool false, .int .u32 0, .int .u32 0])).run Try.prog W = .ok (.bool false) W := fun W => by
          have := neq_msg W zeroM zeroM
          rw [eqM_refl] at this
          exact this
        go_wp2_with fail
        go_meet
        case rel => exact HB7.out
  case rest =>
    obtain ⟨W, hW⟩ : ∃ W, W = wc := ⟨_, rfl⟩
    subst hW
    have HBC := Lib.hid hcut
    have HBYC := Lib.hid (HBY.out.below hcut)
    clear hcut HPP HK2 HB2 HK1 HB1
    obtain ⟨N, hN⟩ : ∃ N, N = min len 1000 := ⟨_, rfl⟩
    have hN1 : N ≤ len := by omega
    have hN2 : N ≤ 1000 := by omega
    have hmin : min (len : Int) 1000 = (N : Int) := by rw [hN]; omega
    have hNc : (N : Int) ≤ (cap : Int) := by have := HC.out; omega
    have HL : Hid ((l0.take N).length = N) := Lib.hid (by rw [List.length_take, HZ.out]; omega)
    have HBN : Hid (Byts W p (l0.take N)) := Lib.hid (byts_take HBYC.out)
    have HNC : Hid (N ≤ cap) := Lib.hid (by have := HC.out; omega)
    obtain ⟨y, hy⟩ : ∃ y, y = l0.take N := ⟨_, rfl⟩
    rw [← hy] at HL HBN
    have HNN := Lib.hid hN
    clear hN hy
    go_upto_region 11 with fail
    go_cut [3] (fun s3 wd => s3 = .slice p N cap ∧ wd = W)
    case first =>
      clear hmin hNc
      by_cases h1000 : (1000 : Int) < (len : Int)
      · have eN : N = 1000 := by rw [HNN.out]; omega
        have hNc : (1000 : Int) ≤ (cap : Int) := by have := HC.out; omega
        go_wp2_with fail
        all_goals
          go_meet
          case rel => exact ⟨by rw [eN], rfl⟩
      · have eN : N = len := by rw [HNN.out]; omega
        have hNc : (len : Int) ≤ (cap : Int) := by have := HC.out; omega
        go_wp2_with fail
        all_goals
          go_meet
          case rel => exact ⟨by rw [eN], rfl⟩
    case rest =>
      obtain ⟨rfl, rfl⟩ := hcut
      clear hmin hNc hN1
      have hr := read_any p N cap y wc HL.out (by unfold maxLen; omega) HNC.out HBN.out
      clear HMM HROW
      by_cases h0 : readE y = 0
      · obtain ⟨hfit, hfr, hmo⟩ := read_frame HBN.out.lt h0
        rw [h0, hmo] at hr
        obtain ⟨K, F, T, L, O, A', OW, NN, V, hmy, hfit2, hfr2⟩ : ∃ K F T L O A' : Nat, ∃ (OW : Bool) (NN V : Nat), msgOf y = ⟨K, F, T, L, O, A', OW, NN, V⟩ ∧ Fit K F T L O A' OW NN V ∧ frameL K F T L O A' OW NN V = y := ⟨_, _, _, _, _, _, _, _, _, rfl, hfit, hfr⟩
        rw [hmy] at hr
        have HF := Lib.hid hfit2
        have HFR := Lib.hid hfr2
        have hp := fun X => put_fit K F T L O A' OW NN V X hfit2
        unfold Msg.row at hr hp
        have HP2 := Lib.hid hp
        clear hfit hfr hmo hmy hfit2 hfr2 h0 hp
        go_wp2_with fail
        refine hr.mono ?_
        clear hr
        rintro e w3 ⟨rfl, hb3⟩
        have HB3 : Hid (Below w.heap.size w w3) := Lib.hid (HBC.out.trans (hb3.mono HBC.out.size))
        have HY3 := Lib.hid (HBN.out.below hb3)
        clear hb3
        go_upto_region 13 with fail
        obtain ⟨W4, hW4⟩ : ∃ W4, W4 = w3.alloc (.cells #[.int .i64 K, .int .i64 F, .int .i64 T, .int .i64 L, .int .i64 O, .int .i64 A', .bool OW, .int .u32 NN, .int .u32 V] 24) := ⟨_, rfl⟩
        have HK4 : Hid (Blk W4 w3.heap.size #[.int .i64 K, .int .i64 F, .int .i64 T, .int .i64 L, .int .i64 O, .int .i64 A', .bool OW, .int .u32 NN, .int .u32 V]) := by rw [hW4]; exact Blk.new _ _ _
        have HB4 : Hid (Below w.heap.size w W4) := by rw [hW4]; exact belowAlloc HB3.out _
        have HY4 : Hid (Byts W4 p y) := by rw [hW4]; exact HY3.out.below ((Below.refl _ _).alloc (Nat.le_refl _) _)
        rw [← hW4]
        clear hW4 HB3 HY3
        have cK := HK4.out.c
        go_wp2_with fail
        refine (HP2.out _).mono ?_
        rintro e w5 ⟨g, cg, rfl, hfm, hb5⟩
        have HB5 : Hid (Below w.heap.size w w5) := Lib.hid (HB4.out.trans (hb5.mono HB4.out.size))
        have HY5 := Lib.hid (HY4.out.below hb5)
        have cv1 : (convert 25 9 (.slice (some ⟨g, 0, none⟩) 19 cg)).run Try.prog w5 = .ok (.string (strN y)) w5 := by
          have := conv_byts (cap := cg) (hfm.byts frame_len (frame_lt HF.out)) frame_len
          rw [HFR.out] at this
          exact this
        have cv2 : (convert 25 9 (.slice p N cap)).run Try.prog w5 = .ok (.string (strN y)) w5 := conv_byts HY5.out HL.out
        obtain ⟨S, hS⟩ : ∃ S, S = strN y := ⟨_, rfl⟩
        rw [← hS] at cv1 cv2
        clear hfm hb5 cK hS HY5 HY4
        go_wp2
        go_ret
        exact ⟨rfl, HB5.out⟩
      · rw [readM_no h0, zero_row] at hr
        have hne : (readE y != 0) = true := by simp [h0]
        obtain ⟨er2, her⟩ : ∃ er2, er2 = readE y := ⟨_, rfl⟩
        rw [← her] at hr hne
        clear h0 her
        go_wp2_with fail
        refine hr.mono ?_
        clear hr
        rintro e w3 ⟨rfl, hb3⟩
        have HB3 : Hid (Below w.heap.size w w3) := Lib.hid (HBC.out.trans (hb3.mono HBC.out.size))
        clear hb3
        have q2 : ∀ W, (binOp .eql 24 (.agg #[.int .i64 0, .int .i64 0, .int .i64 0, .int .i64 0, .int .i64 0, .int .i64 0, .bool false, .int .u32 0, .int .u32 0]) (.agg #[.int .i64 0, .int .i64 0, .int .i64 0, .int .i64 0, .int .i64 0, .int .i64 0, .bool false, .int .u32 0, .int .u32 0])).run Try.prog W = .ok (.bool true) W := fun W => by
          have := eq_msg W zeroM zeroM
          rw [eqM_refl] at this
          exact this
        go_upto_region 13 with fail
        obtain ⟨W4, hW4⟩ : ∃ W4, W4 = w3.alloc (.cells #[.int .i64 0, .int .i64 0, .int .i64 0, .int .i64 0, .int .i64 0, .int .i64 0, .bool false, .int .u32 0, .int .u32 0] 24) := ⟨_, rfl⟩
        have HK4 : Hid (Blk W4 w3.heap.size #[.int .i64 0, .int .i64 0, .int .i64 0, .int .i64 0, .int .i64 0, .int .i64 0, .bool false, .int .u32 0, .int .u32 0]) := by rw [hW4]; exact Blk.new _ _ _
        have HB4 : Hid (Below w.heap.size w W4) := by rw [hW4]; exact belowAlloc HB3.out _
        rw [← hW4]
        clear hW4 HB3
        have cK := HK4.out.c
        go_wp2
        go_ret
        exact ⟨rfl, HB4.out⟩
end Go.Proofs.Ytiejglbdkcnkmaa
