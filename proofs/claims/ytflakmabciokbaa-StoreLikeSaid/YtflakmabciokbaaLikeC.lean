/- For any size, any banks and anything that is done the statement StoreLike answers true and leaves its arguments as they were; no condition. -/
import Derived.Test.YtflakmabciokbaaZg
import Derived.WalkKit
import Derived.ProofKit
import Derived.OpenShut
import Derived.ShutString
import Derived.ChangeOld
import Derived.Below
set_option linter.unusedSimpArgs false
set_option linter.unusedVariables false
/- StoreLike: the walk of the statement's function; no condition but that the list reads. -/
namespace Go.Proofs.Ytflakmabciokbaa
set_option linter.unusedVariables false
open Go.ChangeShapes Go.WideShapes Go.ChangeAt Go.RowKit

theorem lo_set6 {S : Nat → Prop} {w : World} {v : Value} {L : Ud.Lg} (h : Ud.Lo S w v L) {R : Nat} (hR : S R) (u0 u1 u2 u3 u4 u5 : Value) : Ud.Lo S (set6 w R u0 u1 u2 u3 u4 u5) v L :=
  (((((h.set hR 0 u0).set hR 1 u1).set hR 2 u2).set hR 3 u3).set hR 4 u4).set hR 5 u5
theorem varm_set6 {S : Nat → Prop} {w : World} {b : Nat} {L : Ud.Lg} (h : Ud.Var S w b L) {R : Nat} (hR : S R) (hne : R ≠ b) (u0 u1 u2 u3 u4 u5 : Value) : Ud.Var S (set6 w R u0 u1 u2 u3 u4 u5) b L :=
  (((((h.set hR hne 0 u0).set hR hne 1 u1).set hR hne 2 u2).set hR hne 3 u3).set hR hne 4 u4).set hR hne 5 u5
theorem varv_set3 {S : Nat → Prop} {w : World} {b : Nat} {V : Vt} (h : VarV S w b V) {R : Nat} (hR : S R) (hne : R ≠ b) (u0 u1 u2 : Value) : VarV S (((w.setCell ⟨R, 0, none⟩ u0).setCell ⟨R, 1, none⟩ u1).setCell ⟨R, 2, none⟩ u2) b V :=
  ((h.set hR hne 0 u0).set hR hne 1 u1).set hR hne 2 u2
theorem vo_u32 {S : Nat → Prop} {w : World} {v : Value} {V : Vt} (h : Vo S w v V) : U32 V.list := by
  obtain ⟨p, n, c, xs, pp, m, cc, q, k, d, e, h, ho⟩ := h
  exact h.u32
/-- The walk's state: a store, and the log that it is. -/
structure UL (w W : World) (b bm : Nat) (V : Vt) : Prop where
  vs : VarV (fun R => R = b ∨ R = bm) W b V
  vm : Ud.Var (fun R => R = b ∨ R = bm) W bm (lgV V)
  hb : Below w.heap.size w W
  ge : w.heap.size ≤ b ∧ w.heap.size ≤ bm
  ne : b ≠ bm
theorem UL.below {w W W' : World} {b bm : Nat} {V : Vt} (h : UL w W b bm V) (hb : Below W.heap.size W W') : UL w W' b bm V :=
  ⟨h.vs.below hb, h.vm.below hb, h.hb.trans (hb.mono h.hb.size), h.ge, h.ne⟩
theorem UL.put {w W : World} {b bm : Nat} {V V2 : Vt} {u0 u1 u2 u3 u4 u5 y0 y1 y2 : Value} (h : UL w W b bm V) (hl : Vo (fun R => R = b ∨ R = bm) W (.agg #[u0, u1, u2, u3, u4, u5]) V2) (hm : Ud.Lo (fun R => R = b ∨ R = bm) W (.agg #[y0, y1, y2]) (lgV V2)) :
    UL w ((((set6 W b u0 u1 u2 u3 u4 u5).setCell ⟨bm, 0, none⟩ y0).setCell ⟨bm, 1, none⟩ y1).setCell ⟨bm, 2, none⟩ y2) b bm V2 := by
  obtain ⟨p, n', c', xs', pp, m, cc, q', k, d, hk, _⟩ := h.vs
  obtain ⟨P, M, C, Q, N, D, hkm, _⟩ := h.vm
  have hne := h.ne
  refine ⟨varv_set3 (VarV.put hk hl (.inl rfl)) (.inr rfl) (fun e => hne e.symm) _ _ _, Ud.Var.put (set6_other hkm hne _ _ _ _ _ _) (lo_set6 hm (.inl rfl) _ _ _ _ _ _) (.inr rfl), Ud.set3_below (set6_below h.hb h.ge.1 _ _ _ _ _ _) h.ge.2 _ _ _, h.ge, hne⟩
/-- What a round's two calls answered, in variables that were made behind the round's begin. -/
structure TL (wr W : World) (b bm bt bo : Nat) (V : Vt) : Prop where
  vt : VarV (fun R => R = b ∨ R = bm) W bt V
  vo : Ud.Var (fun R => R = b ∨ R = bm) W bo (lgV V)
  hb : Below wr.heap.size wr W
theorem TL.below {wr W W' : World} {b bm bt bo : Nat} {V : Vt} (h : TL wr W b bm bt bo V) (hb : Below W.heap.size W W') : TL wr W' b bm bt bo V := ⟨h.vt.below hb, h.vo.below hb, h.hb.trans (hb.mono h.hb.size)⟩
theorem TL.make {wr w5 w6 w8 : World} {b bm bt bo : Nat} {V : Vt} {a0 a1 a2 a3 a4 a5 u0 u1 u2 u3 u4 u5 z0 z1 z2 y0 y1 y2 : Value} (hT : Blk w5 bt #[a0, a1, a2, a3, a4, a5]) (hO : Blk w5 bo #[z0, z1, z2]) (h05 : Below wr.heap.size wr w5) (hge : wr.heap.size ≤ bt ∧ wr.heap.size ≤ bo) (hne : bt ≠ bo) (hbl : b < w5.heap.size ∧ bm < w5.heap.size)
    (hb6 : Below w5.heap.size w5 w6) (hl6 : Vo (fun R => R < w5.heap.size) w6 (.agg #[u0, u1, u2, u3, u4, u5]) V) (hb8 : Below w6.heap.size (set6 w6 bt u0 u1 u2 u3 u4 u5) w8) (hl8 : Ud.Lo (fun R => R < w5.heap.size) w8 (.agg #[y0, y1, y2]) (lgV V)) :
    TL wr (((w8.setCell ⟨bo, 0, none⟩ y0).setCell ⟨bo, 1, none⟩ y1).setCell ⟨bo, 2, none⟩ y2) b bm bt bo V := by
  have hz : (set6 w6 bt u0 u1 u2 u3 u4 u5).heap.size = w6.heap.size := set6_size _ _ _ _ _ _ _ _
  have hb8' : Below (set6 w6 bt u0 u1 u2 u3 u4 u5).heap.size (set6 w6 bt u0 u1 u2 u3 u4 u5) w8 := by rw [hz]; exact hb8
  have hv : VarV (fun R => R < w5.heap.size) (set6 w6 bt u0 u1 u2 u3 u4 u5) bt V := VarV.put (hT.below hb6) hl6 hT.lt
  have hO8 : Blk w8 bo #[z0, z1, z2] := (set6_other (hO.below hb6) hne _ _ _ _ _ _).below hb8'
  have hs : ∀ R, R = b ∨ R = bm → R < w5.heap.size := fun R hR => by
    rcases hR with rfl | rfl
    · exact hbl.1
    · exact hbl.2
  refine ⟨(varv_set3 (hv.below hb8') hO.lt (fun e => hne e.symm) y0 y1 y2).later (fun R hR => .inl (hs R hR)), (Ud.Var.put hO8 hl8 hO.lt).later (fun R hR => .inl (hs R hR)), Ud.set3_below ?_ hge.2 _ _ _⟩
  exact (set6_below (h05.trans (hb6.mono h05.size)) hge.1 _ _ _ _ _ _).trans (hb8'.mono (by rw [hz]; exact Nat.le_trans h05.size hb6.size))

set_option maxHeartbeats 16000000 in
set_option maxRecDepth 100000 in
theorem like_main (A Bb : Nat) (p0 : Option Addr) (len cap : Nat) (ds : List Ud.Dt) (w : World) (hA : A < 256) (hBb : Bb < 256) (hz : ds.length = len) (hmx : len ≤ maxLen) (hf : ∀ d ∈ ds, d.Fits) (hq : Ud.Els w p0 4 len (fun k => (ds.getD k Ud.dt0).row)) :
    Calls Try.prog 5 #[.int .u8 A, .int .u8 Bb, .slice p0 len cap] w fun e w' => e = .returned (.bool true) ∧ Below w.heap.size w w' := by
  have HQ := Lib.hid hq
  have HZ := Lib.hid hz
  have HF := Lib.hid hf
  unfold maxLen at hmx
  clear hq hz hf
  go_enter Try.func5, Try.ntmps5
  go_wp2_with fail
  refine (sawake_any _).mono ?_
  rintro e w1 ⟨rfl, hb1⟩
  have HB1 : Hid (Below w.heap.size w w1) := Lib.hid hb1
  clear hb1
  go_upto_region 4 with fail
  obtain ⟨n, hn⟩ : ∃ n : Nat, n = A % 64 + 1 := ⟨_, rfl⟩
  have en : (A : Int) % 64 + 1 = (n : Int) := by omega
  rw [en]
  have hn1 : 1 ≤ n := by omega
  have hn64 : n ≤ 64 := by omega
  clear hn en
  obtain ⟨bn, hbn⟩ : ∃ n : Nat, n = Bb % 8 + 1 := ⟨_, rfl⟩
  obtain ⟨bx, hbx⟩ : ∃ n : Nat, n = Bb % 8 := ⟨_, rfl⟩
  have eb0 : (Bb : Int) % 8 = (bx : Int) := by omega
  have eb : (bx : Int) + 1 = (bn : Int) := by omega
  have hbw : IntKind.i64.wrap (bx : Int) = (bx : Int) := by rw [IntKind.wrap_i64]; omega
  have hbw2 : IntKind.i64.wrap ((bx : Int) + 1) = (bn : Int) := by rw [IntKind.wrap_i64]; omega
  have hbw3 : wrap64 ((bx : Int) + 1) = (bn : Int) := by unfold wrap64; omega
  have hb1 : 1 ≤ bn := by omega
  have hb8 : bn ≤ 8 := by omega
  obtain ⟨hL0, hE0, hEU, hRV, hLO, -, -⟩ := new_rv (n := n) (b := bn) ⟨hn1, hn64⟩ ⟨hb1, hb8⟩
  have hnew := snew_any (fun _ => False) (n : Int) (bn : Int) w1 (fun _ h => h.elim)
  rw [hE0] at hnew
  have hnl : ∀ W, Calls Try.prog 30 #[.int .i64 n] W fun e w' => Ud.OutL (fun R => R < W.heap.size) W w' e (lgV (newV n bn)) 0 := fun W => by
    have h9 := Ud.new_any (fun R => R < W.heap.size) (n : Int) W (fun _ h => h)
    rw [← hL0, hEU] at h9
    exact h9
  obtain ⟨V0, hV0⟩ : ∃ y, y = newV n bn := ⟨_, rfl⟩
  obtain ⟨mq, hmq⟩ : ∃ y, y = (n - 1) / bn + 1 := ⟨_, rfl⟩
  rw [← hV0] at hnew hRV hLO hnl
  rw [← hmq] at hRV
  have HINV : Hid (Rv V0 n bn mq ∧ V0.B.lost = 0) := Lib.hid ⟨hRV, hLO⟩
  have HN := Lib.hid hnew
  have HNL := Lib.hid hnl
  clear hV0 hRV hLO hnew hE0 hEU hL0 hmq hbn hbx hnl
  go_wp2_with fail
  refine HN.out.mono ?_
  clear HN
  rintro e w2 ⟨v, rfl, hlo, hb⟩
  have HB2 : Hid (Below w.heap.size w w2) := Lib.hid (HB1.out.trans (hb.mono HB1.out.size))
  obtain ⟨p1, n1, c1, xs1, pp1, m1, cc1, q1, k1, d1, rfl, hcc, hoff⟩ := hlo
  have HC : Hid (Vo (fun _ => False) w2 (.agg #[.slice p1 n1 c1, .slice pp1 m1 cc1, .int .i64 V0.B.lost, .int .i64 V0.words, .int .i64 V0.span, .slice q1 k1 d1]) V0) := Lib.hid ⟨p1, n1, c1, xs1, pp1, m1, cc1, q1, k1, d1, rfl, hcc, hoff⟩
  clear hoff hb hcc HB1 eb0 eb hbw hbw2 hbw3
  go_upto_region 5 with fail
  obtain ⟨b, hbe⟩ : ∃ b, b = w2.heap.size := ⟨_, rfl⟩
  obtain ⟨w3, hw3⟩ : ∃ w3, w3 = w2.alloc (.cells #[.slice p1 n1 c1, .slice pp1 m1 cc1, .int .i64 V0.B.lost, .int .i64 V0.words, .int .i64 V0.span, .slice q1 k1 d1] 28) := ⟨_, rfl⟩
  have HV3 : Hid (VarV (fun _ => False) w3 b V0) := Lib.hid (by rw [hw3, hbe]; exact VarV.new _ HC.out)
  have HB3 : Hid (Below w.heap.size w w3) := Lib.hid (by rw [hw3]; exact HB2.out.alloc HB2.out.size _)
  have HBG : Hid (w.heap.size ≤ b ∧ b < w3.heap.size) := Lib.hid (by rw [hw3, hbe]; exact ⟨HB2.out.size, by simp⟩)
  have HSO : Hid (∀ R, R = b → (fun _ => False) R ∨ w2.heap.size ≤ R) := Lib.hid (fun R hR => .inr (by rw [hR, hbe]; exact Nat.le_refl _))
  have HV3b : Hid (VarV (fun R => R = b) w3 b V0) := Lib.hid (by rw [hw3, hbe]; exact VarV.new _ (HC.out.later (fun R hR => .inr (by rw [hR]; exact Nat.le_refl _))))
  rw [← hw3, ← hbe]
  clear hw3 hbe HC HB2 HSO HV3
  go_wp2_with fail
  refine (HNL.out w3).mono ?_
  clear HNL
  rintro e w4 ⟨v, rfl, hlo, hb⟩
  obtain ⟨P1, M1, C1, Q1, N1, D1, rfl, hcc, hoff⟩ := hlo
  have HC : Hid (Ud.Lo (fun R => R < w3.heap.size) w4 (.agg #[.slice P1 M1 C1, .int .i64 (lgV V0).span, .slice Q1 N1 D1]) (lgV V0)) := Lib.hid ⟨P1, M1, C1, Q1, N1, D1, rfl, hcc, hoff⟩
  have HB4 := Lib.hid hb
  clear hoff hb hcc
  go_upto_region 6 with fail
  obtain ⟨bm, hbe⟩ : ∃ b, b = w4.heap.size := ⟨_, rfl⟩
  obtain ⟨w5, hw5⟩ : ∃ w3, w3 = w4.alloc (.cells #[.slice P1 M1 C1, .int .i64 (lgV V0).span, .slice Q1 N1 D1] 59) := ⟨_, rfl⟩
  have HUB : Hid (UL w w5 b bm V0) := Lib.hid (by
    have hA : Below w4.heap.size w4 w5 := by rw [hw5]; exact (Below.refl _ _).alloc (Nat.le_refl _) _
    have h1 := HB4.out.size
    have hbw : VarV (fun R => R = b ∨ R = bm) w4 b V0 := (HV3b.out.below HB4.out).later (fun R hR => by
      rcases hR with hR | hR
      · exact .inl hR
      · exact .inr (by rw [hR, hbe]; exact Nat.le_refl _))
    refine ⟨hbw.below hA, ?_, (HB3.out.trans (HB4.out.mono HB3.out.size)).trans (hA.mono (Nat.le_trans HB3.out.size h1)), ⟨HBG.out.1, by rw [hbe]; have h2 := HB3.out.size; omega⟩, by rw [hbe]; have h2 := HBG.out.2; omega⟩
    rw [hw5, hbe]
    refine Ud.Var.newt _ (HC.out.later (fun R hR => ?_))
    rcases hR with hR | hR
    · exact .inl (by rw [hR]; exact HBG.out.2)
    · exact .inr (by rw [hR]; exact Nat.le_refl _))
  rw [← hw5, ← hbe]
  clear hw5 hbe HC HB4 HV3b HB3 HBG
  go_wp2_with fail
  go_loopw [12] (fun s12 wr => ∃ (k : Nat) (V : Vt), k ≤ len ∧ k ≤ 60 ∧ s12 = .int .i64 k ∧ (Rv V n bn mq ∧ V.B.lost = 0) ∧ UL w wr b bm V) (fun s12 _ => len - (intOf s12).toNat)
  case atStart => exact ⟨0, V0, Nat.zero_le _, Nat.zero_le _, rfl, HINV.out, HUB.out⟩
  case round =>
    clear HINV HUB
    obtain ⟨k, V, hk, hk100, rfl, hinv, hub⟩ := hrel
    have HINV := Lib.hid hinv
    have HUB := Lib.hid hub
    clear hinv hub
    go_upto_region 9 with fail
    go_cut [52] (fun s52 wd => s52 = .bool (decide (k < len ∧ k < 60)) ∧ wr = wd)
    case first =>
      by_cases h1 : k < len
      · have h1I : decide ((k : Int) < len) = true := decide_eq_true (by omega)
        by_cases h2 : k < 60
        · have h2I : decide ((k : Int) < 60) = true := decide_eq_true (by omega)
          have HGO : Hid (decide (k < len ∧ k < 60) = true) := Lib.hid (decide_eq_true ⟨h1, h2⟩)
          go_wp2_with fail
          go_meet
          case rel => exact ⟨by rw [HGO.out], rfl⟩
        · have h2I : decide ((k : Int) < 60) = false := decide_eq_false (by omega)
          have HGO : Hid (decide (k < len ∧ k < 60) = false) := Lib.hid (decide_eq_false (by omega))
          go_wp2_with fail
          go_meet
          case rel => exact ⟨by rw [HGO.out], rfl⟩
      · have h1I : decide ((k : Int) < len) = false := decide_eq_false (by omega)
        have HGO : Hid (decide (k < len ∧ k < 60) = false) := Lib.hid (decide_eq_false (by omega))
        go_wp2_with fail
        go_meet
        case rel => exact ⟨by rw [HGO.out], rfl⟩
    case rest =>
      obtain ⟨rfl, rfl⟩ := hcut
      by_cases hgo : k < len ∧ k < 60
      · rw [decide_eq_true hgo]
        obtain ⟨hkl, hk1⟩ := hgo
        obtain ⟨bq, off, hbl, rfl, hc⟩ := HQ.out (by omega)
        have hfit := HF.out (ds.getD k Ud.dt0) (by
          rw [List.getD_eq_getElem?_getD, List.getElem?_eq_getElem (by rw [HZ.out]; exact hkl)]; exact List.getElem_mem _)
        obtain ⟨⟨kd, a, t, v⟩, hyy⟩ : ∃ y, ds.getD k Ud.dt0 = y := ⟨_, rfl⟩
        have hc0 : wr.cell? ⟨bq, off + k * 4 + 0, none⟩ = (ds.getD k Ud.dt0).row[0]? := (HUB.out.hb.cell (p := ⟨bq, off + k * 4 + 0, none⟩) hbl).trans (hc k hkl 0 (by decide))
        have hc1 : wr.cell? ⟨bq, off + k * 4 + 1, none⟩ = (ds.getD k Ud.dt0).row[1]? := (HUB.out.hb.cell (p := ⟨bq, off + k * 4 + 1, none⟩) hbl).trans (hc k hkl 1 (by decide))
        have hc2 : wr.cell? ⟨bq, off + k * 4 + 2, none⟩ = (ds.getD k Ud.dt0).row[2]? := (HUB.out.hb.cell (p := ⟨bq, off + k * 4 + 2, none⟩) hbl).trans (hc k hkl 2 (by decide))
        have hc3 : wr.cell? ⟨bq, off + k * 4 + 3, none⟩ = (ds.getD k Ud.dt0).row[3]? := (HUB.out.hb.cell (p := ⟨bq, off + k * 4 + 3, none⟩) hbl).trans (hc k hkl 3 (by decide))
        rw [hyy] at hc0 hc1 hc2 hc3 hfit
        have hd0 : wr.cell? ⟨bq, off + k * 4, none⟩ = some (.int .u8 (kd : Int)) := hc0
        have hd1 : wr.cell? ⟨bq, off + k * 4 + 1, none⟩ = some (.int .u8 (a : Int)) := hc1
        have hd2 : wr.cell? ⟨bq, off + k * 4 + 2, none⟩ = some (.int .u8 (t : Int)) := hc2
        have hd3 : wr.cell? ⟨bq, off + k * 4 + 3, none⟩ = some (.int .u32 (v : Int)) := hc3
        have hkd : kd < 256 := hfit.1
        have ha : a < 256 := hfit.2.1
        have ht : t < 256 := hfit.2.2.1
        have hv32 : v < 4294967296 := hfit.2.2.2
        have hkI : (0 : Int) ≤ (k : Int) := by omega
        have hkI2 : (k : Int) < (len : Int) := by omega
        clear hc hc0 hc1 hc2 hc3 hyy hfit
        go_upto_region 15 with fail
        obtain ⟨g, hg⟩ : ∃ y, y = wr.heap.size := ⟨_, rfl⟩
        obtain ⟨w5, hw5⟩ : ∃ y, y = ((wr.alloc (.cells #[.int .u8 (kd : Int), .int .u8 (a : Int), .int .u8 (t : Int), .int .u32 (v : Int)] 56)).alloc (.cells #[.slice none 0 0, .slice none 0 0, .int .i64 0, .int .i64 0, .int .i64 0, .slice none 0 0] 28)).alloc (.cells #[.slice none 0 0, .int .i64 0, .slice none 0 0] 59) := ⟨_, rfl⟩
        have HB5 : Hid (Below wr.heap.size wr w5) := Lib.hid (by rw [hw5]; exact (((Below.refl _ _).alloc (Nat.le_refl _) _).alloc (by simp) _).alloc (by simp <;> omega) _)
        have HD : Hid (Blk w5 g #[.int .u8 (kd : Int), .int .u8 (a : Int), .int .u8 (t : Int), .int .u32 (v : Int)] ∧ Blk w5 (g + 1) #[.slice none 0 0, .slice none 0 0, .int .i64 0, .int .i64 0, .int .i64 0, .slice none 0 0] ∧ Blk w5 (g + 1 + 1) #[.slice none 0 0, .int .i64 0, .slice none 0 0]) := Lib.hid (by
          have j2 := Blk.new (wr.alloc (.cells #[.int .u8 (kd : Int), .int .u8 (a : Int), .int .u8 (t : Int), .int .u32 (v : Int)] 56)) #[.slice none 0 0, .slice none 0 0, .int .i64 0, .int .i64 0, .int .i64 0, .slice none 0 0] 28
          have j3 := Blk.new ((wr.alloc (.cells #[.int .u8 (kd : Int), .int .u8 (a : Int), .int .u8 (t : Int), .int .u32 (v : Int)] 56)).alloc (.cells #[.slice none 0 0, .slice none 0 0, .int .i64 0, .int .i64 0, .int .i64 0, .slice none 0 0] 28)) #[.slice none 0 0, .int .i64 0, .slice none 0 0] 59
          simp only [World.size_alloc] at j2 j3
          rw [hw5, hg]; exact ⟨((Blk.new _ _ _).alloc _).alloc _, j2.alloc _, j3⟩)
        have HGB : Hid (b < g ∧ bm < g ∧ b < w5.heap.size ∧ bm < w5.heap.size ∧ wr.heap.size ≤ g + 1) := Lib.hid (by
          have h1 := HUB.out.vs.lt
          have h2 := HB5.out.size
          have h3 := HUB.out.vm.lt
          rw [hg]; omega)
        have HVS : Hid (VarV (fun R => R = b ∨ R = bm ∨ wr.heap.size ≤ R) w5 b V) := Lib.hid ((HUB.out.vs.later (fun R hR => by
          rcases hR with hR | hR | hR
          · exact .inl (.inl hR)
          · exact .inl (.inr hR)
          · exact .inr hR)).below HB5.out)
        have HVM : Hid (Ud.Var (fun R => R = b ∨ R = bm ∨ wr.heap.size ≤ R) w5 bm (lgV V)) := Lib.hid ((HUB.out.vm.later (fun R hR => by
          rcases hR with hR | hR | hR
          · exact .inl (.inl hR)
          · exact .inl (.inr hR)
          · exact .inr hR)).below HB5.out)
        rw [← hw5, ← hg]
        clear hw5 hd0 hd1 hd2 hd3 hkI hkI2 hg
        obtain ⟨bt, hbt⟩ : ∃ y, y = g + 1 := ⟨_, rfl⟩
        rw [← hbt] at HD HGB ⊢
        obtain ⟨bo, hbo⟩ : ∃ y, y = bt + 1 := ⟨_, rfl⟩
        rw [← hbo] at HD ⊢
        have HBT : Hid (g ≠ bt ∧ b ≠ bt ∧ bm ≠ bt ∧ g ≠ bo ∧ b ≠ bo ∧ bm ≠ bo ∧ bt ≠ bo ∧ wr.heap.size ≤ bt ∧ wr.heap.size ≤ bo) := Lib.hid (by have h1 := HGB.out; omega)
        clear hbt hbo
        have hwa : IntKind.i64.wrap (a : Int) = (a : Int) := by rw [IntKind.wrap_i64]; omega
        have hwt : IntKind.i64.wrap (t : Int) = (t : Int) := by rw [IntKind.wrap_i64]; omega
        obtain ⟨r, hr⟩ : ∃ r, r = kd % 5 := ⟨_, rfl⟩
        have er : (kd : Int) % 5 = (r : Int) := by rw [hr]; exact (Int.natCast_emod kd 5).symm
        have hr6 : r < 5 := by omega
        clear hr
        have kD := HD.out.1.c
        obtain ⟨pb, nb, cb, ppb, mb, ccb, qb, kb, db, hkm, hlm⟩ := HVS.out.vo
        have HKM := Lib.hid hkm
        have HLM := Lib.hid hlm
        obtain ⟨Pb, Mb, Cb, Qb, Nb, Db, hkl', hll, hlc⟩ := HVM.out.lo
        have HKL := Lib.hid hkl'
        have HLL := Lib.hid hll
        clear hkm hlm hkl' hll hlc HVS HVM
        obtain rfl | rfl | rfl | rfl | rfl : r = 0 ∨ r = 1 ∨ r = 2 ∨ r = 3 ∨ r = 4 := by omega
        · as_aux_lemma =>
            obtain ⟨ia, hia⟩ : ∃ y, y = a % n := ⟨_, rfl⟩
            have hta : ((a : Int)).tmod (n : Int) = (ia : Int) := by rw [Int.tmod_eq_emod_of_nonneg (by omega), hia]; exact (Int.natCast_emod a n).symm
            have hn0 : ¬ n = 0 := by omega
            have hnI : ¬ (n : Int) = 0 := by omega
            have hian : ia < n := by rw [hia]; exact Nat.mod_lt _ (by omega)
            clear hia
            go_upto_region 20 with fail
            obtain ⟨hL, hE, hR2, hl2⟩ := HINV.out.1.write HINV.out.2 hian (v := (v : Int)) (Int.natCast_nonneg _)
            have HW : Hid (∀ W, Below w5.heap.size w5 W → Calls Try.prog 8 #[.agg #[.slice pb nb cb, .slice ppb mb ccb, .int .i64 V.B.lost, .int .i64 V.words, .int .i64 V.span, .slice qb kb db], .int .i64 (ia : Int), .int .u32 (v : Int)] W fun e w' => OutV (fun R => R < w5.heap.size) W w' e (writeV V ia v) (writeVE V ia)) := Lib.hid (fun W hW => swriteV_any (fun R => R < w5.heap.size) _ V (ia : Int) v W (HLM.out.below hW) (fun R h => Nat.lt_of_lt_of_le h hW.size) hv32)
            have HWL : Hid (∀ W, Ud.Lo (fun R => R = b ∨ R = bm ∨ wr.heap.size ≤ R) W (.agg #[.slice Pb Mb Cb, .int .i64 (lgV V).span, .slice Qb Nb Db]) (lgV V) → w5.heap.size ≤ W.heap.size → Calls Try.prog 31 #[.agg #[.slice Pb Mb Cb, .int .i64 (lgV V).span, .slice Qb Nb Db], .int .i64 (ia : Int), .int .u32 (v : Int)] W fun e w' => Ud.OutL (fun R => R < w5.heap.size) W w' e (lgV (writeV V ia v)) (writeVE V ia)) := Lib.hid (fun W h1 h2 => by
              have hq := Ud.write_any (fun R => R < w5.heap.size) _ (lgV V) (ia : Int) (v : Int) W h1 (fun R h => Nat.lt_of_lt_of_le h h2)
              rw [← hL, ← hE] at hq
              exact hq)
            obtain ⟨V2, hV2⟩ : ∃ y, y = writeV V ia v := ⟨_, rfl⟩
            obtain ⟨X, hX⟩ : ∃ y, y = writeVE V ia := ⟨_, rfl⟩
            rw [← hV2, ← hX] at HW HWL
            rw [← hV2] at hR2 hl2
            have HI2 := Lib.hid (And.intro hR2 hl2)
            have HS0 : Hid (∀ W, Below w5.heap.size w5 W → (∀ j, W.cell? ⟨b, j, none⟩ = (#[.slice pb nb cb, .slice ppb mb ccb, .int .i64 V.B.lost, .int .i64 V.words, .int .i64 V.span, .slice qb kb db] : Array Value)[j]?) ∧ (∀ j, W.cell? ⟨g, j, none⟩ = (#[.int .u8 (kd : Int), .int .u8 (a : Int), .int .u8 (t : Int), .int .u32 (v : Int)] : Array Value)[j]?)) := Lib.hid (fun W hb => ⟨(HKM.out.below hb).c, (HD.out.1.below hb).c⟩)
            clear hR2 hl2 hL hE hV2 hX kD er
            refine region_plan (fun W : World => (∀ j, W.cell? ⟨b, j, none⟩ = (#[.slice pb nb cb, .slice ppb mb ccb, .int .i64 V.B.lost, .int .i64 V.words, .int .i64 V.span, .slice qb kb db] : Array Value)[j]?) ∧ (∀ j, W.cell? ⟨g, j, none⟩ = (#[.int .u8 (kd : Int), .int .u8 (a : Int), .int .u8 (t : Int), .int .u32 (v : Int)] : Array Value)[j]?)) 13 [(0, true), (1, true), (2, true), (3, true), (4, true), (5, true), (6, true), (7, true), (8, false), (9, true), (10, true), (11, true), (12, false)] (by kernel_rfl) (by kernel_rfl) (HS0.out _ (Below.refl _ _).drew) ?_
            iterate 5
              refine plan_read (v := ?_) rfl (by rfl) ?_ ?_
              rotate_left
              · intro w' hS
                try dsimp only at hS
                go_simp
                try with_reducible rfl
              try simp only [Act.put, List.setIfInBounds_toArray, List.set_cons_zero, List.set_cons_succ, List.getElem_toArray, List.getElem_cons_zero, List.getElem_cons_succ]
            refine plan_read (v := .int .i64 (ia : Int)) rfl (by rfl) (by intro w' hS; go_simp) ?_
            try simp only [Act.put, List.setIfInBounds_toArray, List.set_cons_zero, List.set_cons_succ, List.getElem_toArray, List.getElem_cons_zero, List.getElem_cons_succ]
            iterate 2
              refine plan_read (v := ?_) rfl (by rfl) ?_ ?_
              rotate_left
              · intro w' hS
                try dsimp only at hS
                go_simp
                try with_reducible rfl
              try simp only [Act.put, List.setIfInBounds_toArray, List.set_cons_zero, List.set_cons_succ, List.getElem_toArray, List.getElem_cons_zero, List.getElem_cons_succ]
            refine plan_call (F := 8) (args := ?_) rfl (by rfl) ?_ ?_
            rotate_left
            · go_simp
              rfl
            refine (HW.out w5.drew (Below.refl _ _).drew).mono ?_
            rintro e w6 ⟨vv, rfl, hlo, hb⟩
            have HB6 : Hid (Below w5.heap.size w5 w6) := Lib.hid ((Below.refl _ _).drew.trans hb)
            obtain ⟨p4, n4, c4, xs4, pp4, m4, cc4, q4, k4, d4, rfl, hcc, hoff⟩ := hlo
            have HL6 : Hid (Vo (fun R => R < w5.heap.size) w6 (.agg #[.slice p4 n4 c4, .slice pp4 m4 cc4, .int .i64 V2.B.lost, .int .i64 V2.words, .int .i64 V2.span, .slice q4 k4 d4]) V2) := Lib.hid ⟨p4, n4, c4, xs4, pp4, m4, cc4, q4, k4, d4, rfl, hcc, hoff⟩
            clear hcc hoff hb
            refine ⟨_, rfl, HS0.out _ HB6.out, ?_⟩
            try simp only [Act.put, List.setIfInBounds_toArray, List.set_cons_zero, List.set_cons_succ, List.getElem_toArray, List.getElem_cons_zero, List.getElem_cons_succ]
            iterate 3
              refine plan_read (v := ?_) rfl (by rfl) ?_ ?_
              rotate_left
              · intro w' hS
                try dsimp only at hS
                go_simp
                try with_reducible rfl
              try simp only [Act.put, List.setIfInBounds_toArray, List.set_cons_zero, List.set_cons_succ, List.getElem_toArray, List.getElem_cons_zero, List.getElem_cons_succ]
            have HZ6 := Lib.hid (HD.out.2.1.below HB6.out)
            have HKL6 := Lib.hid (HKL.out.below HB6.out)
            have HKD6 := Lib.hid (HD.out.1.below HB6.out)
            have HZO6 := Lib.hid (HD.out.2.2.below HB6.out)
            have cZ := HZ6.out.c
            have fZ := HZ6.out.f
            have lZ := HZ6.out.lt
            have HLL7 : Hid (Ud.Lo (fun R => R = b ∨ R = bm ∨ wr.heap.size ≤ R) (set6 w6 bt (.slice p4 n4 c4) (.slice pp4 m4 cc4) (.int .i64 V2.B.lost) (.int .i64 V2.words) (.int .i64 V2.span) (.slice q4 k4 d4)) (.agg #[.slice Pb Mb Cb, .int .i64 (lgV V).span, .slice Qb Nb Db]) (lgV V)) := Lib.hid (lo_set6 (HLL.out.below HB6.out) (.inr (.inr HBT.out.2.2.2.2.2.2.2.1)) _ _ _ _ _ _)
            have HKL7 : Hid (Blk (set6 w6 bt (.slice p4 n4 c4) (.slice pp4 m4 cc4) (.int .i64 V2.B.lost) (.int .i64 V2.words) (.int .i64 V2.span) (.slice q4 k4 d4)) bm #[.slice Pb Mb Cb, .int .i64 (lgV V).span, .slice Qb Nb Db]) := Lib.hid (set6_other HKL6.out (fun e => HBT.out.2.2.1 e.symm) _ _ _ _ _ _)
            have HKD7 : Hid (Blk (set6 w6 bt (.slice p4 n4 c4) (.slice pp4 m4 cc4) (.int .i64 V2.B.lost) (.int .i64 V2.words) (.int .i64 V2.span) (.slice q4 k4 d4)) g #[.int .u8 (kd : Int), .int .u8 (a : Int), .int .u8 (t : Int), .int .u32 (v : Int)]) := Lib.hid (set6_other HKD6.out (fun e => HBT.out.1 e.symm) _ _ _ _ _ _)
            have HZO7 : Hid (Blk (set6 w6 bt (.slice p4 n4 c4) (.slice pp4 m4 cc4) (.int .i64 V2.B.lost) (.int .i64 V2.words) (.int .i64 V2.span) (.slice q4 k4 d4)) bo #[.slice none 0 0, .int .i64 0, .slice none 0 0]) := Lib.hid (set6_other HZO6.out HBT.out.2.2.2.2.2.2.1 _ _ _ _ _ _)
            have HZ7 : Hid ((set6 w6 bt (.slice p4 n4 c4) (.slice pp4 m4 cc4) (.int .i64 V2.B.lost) (.int .i64 V2.words) (.int .i64 V2.span) (.slice q4 k4 d4)).heap.size = w6.heap.size) := Lib.hid (set6_size _ _ _ _ _ _ _ _)
            show wpOp _ _ _ 12 _ _ _
            refine Ud.op_store (w1 := (((((w6.setCell ⟨bt, 0, none⟩ (.slice p4 n4 c4)).setCell ⟨bt, 1, none⟩ (.slice pp4 m4 cc4)).setCell ⟨bt, 2, none⟩ (.int .i64 V2.B.lost)).setCell ⟨bt, 3, none⟩ (.int .i64 V2.words)).setCell ⟨bt, 4, none⟩ (.int .i64 V2.span)).setCell ⟨bt, 5, none⟩ (.slice q4 k4 d4)) rfl (by rfl) (by go_simp) ⟨⟨(set6_other (HKM.out.below HB6.out) (fun e => HBT.out.2.1 e.symm) _ _ _ _ _ _).c, HKD7.out.c⟩, ?_⟩
            try simp only [Act.put, List.setIfInBounds_toArray, List.set_cons_zero, List.set_cons_succ, List.getElem_toArray, List.getElem_cons_zero, List.getElem_cons_succ]
            refine plan_nil ?_
            simp only [List.drop_succ_cons, List.drop_zero]
            rw [set6_eq]
            obtain ⟨w7, hw7⟩ : ∃ y, y = set6 w6 bt (.slice p4 n4 c4) (.slice pp4 m4 cc4) (.int .i64 V2.B.lost) (.int .i64 V2.words) (.int .i64 V2.span) (.slice q4 k4 d4) := ⟨_, rfl⟩
            have HW7 := Lib.hid hw7
            rw [← hw7] at HLL7 HKL7 HKD7 HZO7 HZ7 ⊢
            clear hw7 cZ fZ lZ HZ6 HKL6 HKD6 HZO6
            have HG7 : Hid (w5.heap.size ≤ w7.heap.size) := Lib.hid (by rw [HZ7.out]; exact HB6.out.size)
            clear HS0 HW HKM HLM HLL HKL
            go_upto_region 21 with fail
            have HS1 : Hid (∀ W, Below w7.heap.size w7 W → (∀ j, W.cell? ⟨bm, j, none⟩ = (#[.slice Pb Mb Cb, .int .i64 (lgV V).span, .slice Qb Nb Db] : Array Value)[j]?) ∧ (∀ j, W.cell? ⟨g, j, none⟩ = (#[.int .u8 (kd : Int), .int .u8 (a : Int), .int .u8 (t : Int), .int .u32 (v : Int)] : Array Value)[j]?)) := Lib.hid (fun W hb => ⟨(HKL7.out.below hb).c, (HKD7.out.below hb).c⟩)
            have HWL7 := Lib.hid (HWL.out w7.drew (HLL7.out.below (Below.refl _ _).drew) HG7.out)
            refine region_plan (fun W : World => (∀ j, W.cell? ⟨bm, j, none⟩ = (#[.slice Pb Mb Cb, .int .i64 (lgV V).span, .slice Qb Nb Db] : Array Value)[j]?) ∧ (∀ j, W.cell? ⟨g, j, none⟩ = (#[.int .u8 (kd : Int), .int .u8 (a : Int), .int .u8 (t : Int), .int .u32 (v : Int)] : Array Value)[j]?)) 13 [(0, true), (1, true), (2, true), (3, true), (4, true), (5, true), (6, true), (7, true), (8, false), (9, true), (10, true), (11, true), (12, false)] (by kernel_rfl) (by kernel_rfl) (HS1.out _ (Below.refl _ _).drew) ?_
            iterate 5
              refine plan_read (v := ?_) rfl (by rfl) ?_ ?_
              rotate_left
              · intro w' hS
                try dsimp only at hS
                go_simp
                try with_reducible rfl
              try simp only [Act.put, List.setIfInBounds_toArray, List.set_cons_zero, List.set_cons_succ, List.getElem_toArray, List.getElem_cons_zero, List.getElem_cons_succ]
            refine plan_read (v := .int .i64 (ia : Int)) rfl (by rfl) (by intro w' hS; go_simp) ?_
            try simp only [Act.put, List.setIfInBounds_toArray, List.set_cons_zero, List.set_cons_succ, List.getElem_toArray, List.getElem_cons_zero, List.getElem_cons_succ]
            iterate 2
              refine plan_read (v := ?_) rfl (by rfl) ?_ ?_
              rotate_left
              · intro w' hS
                try dsimp only at hS
                go_simp
                try with_reducible rfl
              try simp only [Act.put, List.setIfInBounds_toArray, List.set_cons_zero, List.set_cons_succ, List.getElem_toArray, List.getElem_cons_zero, List.getElem_cons_succ]
            refine plan_call (F := 31) (args := ?_) rfl (by rfl) ?_ ?_
            rotate_left
            · go_simp
              rfl
            refine (HWL7.out).mono ?_
            rintro e w8 ⟨vv, rfl, hlo, hb⟩
            have HB8 : Hid (Below w7.heap.size w7 w8) := Lib.hid ((Below.refl _ _).drew.trans hb)
            obtain ⟨P8, M8, C8, Q8, N8, D8, rfl, hcc, hoff⟩ := hlo
            have HL8 : Hid (Ud.Lo (fun R => R < w5.heap.size) w8 (.agg #[.slice P8 M8 C8, .int .i64 (lgV V2).span, .slice Q8 N8 D8]) (lgV V2)) := Lib.hid ⟨P8, M8, C8, Q8, N8, D8, rfl, hcc, hoff⟩
            clear hcc hoff hb
            refine ⟨_, rfl, HS1.out _ HB8.out, ?_⟩
            try simp only [Act.put, List.setIfInBounds_toArray, List.set_cons_zero, List.set_cons_succ, List.getElem_toArray, List.getElem_cons_zero, List.getElem_cons_succ]
            iterate 3
              refine plan_read (v := ?_) rfl (by rfl) ?_ ?_
              rotate_left
              · intro w' hS
                try dsimp only at hS
                go_simp
                try with_reducible rfl
              try simp only [Act.put, List.setIfInBounds_toArray, List.set_cons_zero, List.set_cons_succ, List.getElem_toArray, List.getElem_cons_zero, List.getElem_cons_succ]
            have HO8 := Lib.hid (HZO7.out.below HB8.out)
            have cO := HO8.out.c
            have fO := HO8.out.f
            have lO := HO8.out.lt
            have HTL : Hid (TL wr (((w8.setCell ⟨bo, 0, none⟩ (.slice P8 M8 C8)).setCell ⟨bo, 1, none⟩ (.int .i64 (lgV V2).span)).setCell ⟨bo, 2, none⟩ (.slice Q8 N8 D8)) b bm bt bo V2) := Lib.hid (TL.make HD.out.2.1 HD.out.2.2 HB5.out HBT.out.2.2.2.2.2.2.2 HBT.out.2.2.2.2.2.2.1 ⟨HGB.out.2.2.1, HGB.out.2.2.2.1⟩ HB6.out HL6.out (by rw [← HW7.out, ← HZ7.out]; exact HB8.out) HL8.out)
            show wpOp _ _ _ 12 _ _ _
            refine Ud.op_store (w1 := ((w8.setCell ⟨bo, 0, none⟩ (.slice P8 M8 C8)).setCell ⟨bo, 1, none⟩ (.int .i64 (lgV V2).span)).setCell ⟨bo, 2, none⟩ (.slice Q8 N8 D8)) rfl (by rfl) (by go_simp) ⟨⟨(Ud.set3_other (HKL7.out.below HB8.out) (fun e => HBT.out.2.2.2.2.2.1 e.symm) _ _ _).c, (Ud.set3_other (HKD7.out.below HB8.out) (fun e => HBT.out.2.2.2.1 e.symm) _ _ _).c⟩, ?_⟩
            try simp only [Act.put, List.setIfInBounds_toArray, List.set_cons_zero, List.set_cons_succ, List.getElem_toArray, List.getElem_cons_zero, List.getElem_cons_succ]
            refine plan_nil ?_
            simp only [List.drop_succ_cons, List.drop_zero]
            go_upto_region 28 with fail
            obtain ⟨wc, hwc⟩ : ∃ y, y = ((w8.setCell ⟨bo, 0, none⟩ (.slice P8 M8 C8)).setCell ⟨bo, 1, none⟩ (.int .i64 (lgV V2).span)).setCell ⟨bo, 2, none⟩ (.slice Q8 N8 D8) := ⟨_, rfl⟩
            rw [← hwc] at HTL ⊢
            clear hwc cO fO lO HO8 HB8 HL8 HWL HWL7 HS1 HLL7 HKL7 HKD7 HZO7 HB6 HL6 HD HINV HB5 hta hn0 hnI
            obtain ⟨p6, n6, c6, pp6, m6, cc6, q6, k6, d6, hkt, hlt⟩ := HTL.out.vt.vo
            obtain ⟨P6, M6, C6, Q6, N6, D6, hko, hlo, hlc⟩ := HTL.out.vo.lo
            obtain ⟨s2, hs2⟩ : ∃ y, y = V2.span := ⟨_, rfl⟩
            have hs3 : (lgV V2).span = s2 := hs2.symm
            have hM6 : M6 = n := hlc.ml.symm.trans HI2.out.1.ml
            have hk6 : V2.list.length = k6 := by
              obtain ⟨p', n', c', xs', pp', m', cc', q', k', d', e, hc, _⟩ := hlt
              injection e with e
              simp at e
              have := hc.ll
              omega
            have hN6 : N6 = k6 := hlc.ll.symm.trans hk6
            subst hM6 hN6
            rw [← hs2] at hkt hlt
            rw [hs3] at hko hlo
            have HK6 := Lib.hid hk6
            have hk10 : N6 ≤ 10000 := hlc.n10
            have HSO : Hid (Sl wc Q6 N6 (Ud.unC V2.list)) := Lib.hid hlc.ls
            have HMO : Hid (Sl wc P6 M6 (Ud.wdC (wordsV V2))) := Lib.hid (by rw [rv_words HI2.out.1]; exact hlc.ms)
            have HST : Hid (Sl wc q6 N6 (Ud.unC V2.list)) := Lib.hid (by
              obtain ⟨p', n', c', xs', pp', m', cc', q', k', d', e, hc, _⟩ := hlt
              injection e with e
              simp at e
              obtain ⟨-, -, -, rfl, rfl, rfl⟩ := e
              exact hc.ls)
            have HKT := Lib.hid hkt
            have HLT := Lib.hid hlt
            have HKO := Lib.hid hko
            have HLO := Lib.hid hlo
            clear hkt hlt hko hlo hlc hs2 hs3 hk6
            have HWO : Hid (Calls Try.prog 22 #[.agg #[.slice p6 n6 c6, .slice pp6 m6 cc6, .int .i64 V2.B.lost, .int .i64 V2.words, .int .i64 s2, .slice q6 N6 d6]] wc.drew fun e w' => ∃ r, e = .returned r ∧ w'.ownsRow wc.heap.size 29 1 r M6 (Ud.wdC (wordsV V2)) ∧ Below wc.heap.size wc w') := Lib.hid ((swords_any _ _ V2 wc.drew (HLT.out.below (Below.refl _ _).drew)).mono (by
              rintro e w' ⟨r, h1, h2, h3⟩
              rw [show (wordsV V2).length = M6 by rw [rv_words HI2.out.1, HI2.out.1.ml]] at h2
              exact ⟨r, h1, h2, (Below.refl _ _).drew.trans h3⟩))
            have HS0 : Hid (∀ W, Below wc.heap.size wc W → (∀ j, W.cell? ⟨bt, j, none⟩ = (#[.slice p6 n6 c6, .slice pp6 m6 cc6, .int .i64 V2.B.lost, .int .i64 V2.words, .int .i64 s2, .slice q6 N6 d6] : Array Value)[j]?) ∧ (∀ j, W.cell? ⟨bo, j, none⟩ = (#[.slice P6 M6 C6, .int .i64 s2, .slice Q6 N6 D6] : Array Value)[j]?)) := Lib.hid (fun W hb => ⟨(HKT.out.below hb).c, (HKO.out.below hb).c⟩)
            refine region_plan (fun W : World => (∀ j, W.cell? ⟨bt, j, none⟩ = (#[.slice p6 n6 c6, .slice pp6 m6 cc6, .int .i64 V2.B.lost, .int .i64 V2.words, .int .i64 s2, .slice q6 N6 d6] : Array Value)[j]?) ∧ (∀ j, W.cell? ⟨bo, j, none⟩ = (#[.slice P6 M6 C6, .int .i64 s2, .slice Q6 N6 D6] : Array Value)[j]?)) 25 [(0, true), (1, true), (2, true), (3, true), (4, true), (6, true), (7, true), (5, false), (8, false), (9, true), (10, true), (11, true), (12, true), (13, true), (14, true), (15, true), (16, true), (17, true), (18, true), (19, true), (20, true), (21, true), (22, true), (23, true), (24, true)] (by kernel_rfl) (by kernel_rfl) (HS0.out _ (Below.refl _ _).drew) ?_
            iterate 7
              refine plan_read (v := ?_) rfl (by rfl) ?_ ?_
              rotate_left
              · intro w' hS
                try dsimp only at hS
                go_simp
                try with_reducible rfl
              try simp only [Act.put, List.setIfInBounds_toArray, List.set_cons_zero, List.set_cons_succ, List.getElem_toArray, List.getElem_cons_zero, List.getElem_cons_succ]
            refine plan_call (F := 22) (args := ?_) rfl (by rfl) ?_ ?_
            rotate_left
            · go_simp
              rfl
            refine (HWO.out).mono ?_
            rintro e w8 ⟨r, rfl, hrr, hb⟩
            obtain ⟨p5, c5, rfl, _⟩ := own_cap hrr
            have HRR := Lib.hid hrr
            have HB8 := Lib.hid hb
            clear hrr hb
            refine ⟨_, rfl, HS0.out _ HB8.out, ?_⟩
            try simp only [Act.put, List.setIfInBounds_toArray, List.set_cons_zero, List.set_cons_succ, List.getElem_toArray, List.getElem_cons_zero, List.getElem_cons_succ]
            have HWD : Hid (Calls Try.prog 21 #[.slice p5 M6 c5, .slice P6 M6 C6] w8 fun e w' => e = .returned (.bool true) ∧ Below w8.heap.size w8 w') := Lib.hid (by
              obtain ⟨p', c', e, hs⟩ := Sl.own HRR.out
              injection e with e1 e2 e3
              subst e1 e3
              have hl : (wordsV V2).length = M6 := by rw [rv_words HI2.out.1, HI2.out.1.ml]
              have := Ud.words_any p5 P6 c5 C6 (wordsV V2) w8 (by rw [hl]; exact hs) (by rw [hl]; exact HMO.out.below HB8.out) (by rw [hl]; omega)
              rw [hl] at this
              exact this)
            refine plan_call (F := 21) (args := ?_) rfl (by rfl) ?_ ?_
            rotate_left
            · go_simp
              rfl
            refine (HWD.out).mono ?_
            rintro e w9 ⟨rfl, hb⟩
            have HB9 : Hid (Below wc.heap.size wc w9) := Lib.hid (HB8.out.trans (hb.mono HB8.out.size))
            clear hb
            refine ⟨_, rfl, HS0.out _ HB9.out, ?_⟩
            try simp only [Act.put, List.setIfInBounds_toArray, List.set_cons_zero, List.set_cons_succ, List.getElem_toArray, List.getElem_cons_zero, List.getElem_cons_succ]
            iterate 16
              refine plan_read (v := ?_) rfl (by rfl) ?_ ?_
              rotate_left
              · intro w' hS
                try dsimp only at hS
                go_simp
                try with_reducible rfl
              try simp only [Act.put, List.setIfInBounds_toArray, List.set_cons_zero, List.set_cons_succ, List.getElem_toArray, List.getElem_cons_zero, List.getElem_cons_succ]
            refine plan_nil ?_
            simp only [List.drop_succ_cons, List.drop_zero]
            have HKT9 := Lib.hid (HKT.out.below HB9.out)
            have HKO9 := Lib.hid (HKO.out.below HB9.out)
            have HLT9 := Lib.hid (HLT.out.below HB9.out)
            have HLO9 := Lib.hid (HLO.out.below HB9.out)
            have HST9 := Lib.hid (HST.out.below HB9.out)
            have HSO9 := Lib.hid (HSO.out.below HB9.out)
            have HU9 := Lib.hid (HUB.out.below (HTL.out.hb.trans (HB9.out.mono HTL.out.hb.size)))
            clear HS0 HWO HWD HRR HB8 HB9 HMO HKT HKO HLT HLO HST HSO HTL
            go_wp2_with fail
            go_loopw [18] (fun s18 wq => ∃ i : Nat, i ≤ N6 ∧ s18 = .int .i64 i ∧ Below w9.heap.size w9 wq) (fun s18 _ => N6 - (intOf s18).toNat)
            case atStart => exact ⟨0, Nat.zero_le _, rfl, Below.refl _ _⟩
            case round =>
              obtain ⟨i, hi, rfl, hbq⟩ := hrel
              have HBQ := Lib.hid hbq
              clear hbq
              have kT := (HKT9.out.below HBQ.out).c
              have kO := (HKO9.out.below HBQ.out).c
              by_cases hil : i < N6
              · have hilI : decide ((i : Int) < (N6 : Int)) = true := decide_eq_true (by omega)
                have hiI : (0 : Int) ≤ (i : Int) := by omega
                have hiI2 : (i : Int) < (N6 : Int) := by omega
                obtain ⟨b1, off1, rfl, hat1⟩ := Ud.un_at (l := V2.list) (by rw [HK6.out]; exact HST9.out.below HBQ.out) i (by rw [HK6.out]; exact hil)
                obtain ⟨b2, off2, rfl, hat2⟩ := Ud.un_at (l := V2.list) (by rw [HK6.out]; exact HSO9.out.below HBQ.out) i (by rw [HK6.out]; exact hil)
                obtain ⟨l0, c0, c1, c2⟩ := hat1
                obtain ⟨l0', c0', c1', c2'⟩ := hat2
                obtain ⟨⟨us, ua, uv⟩, hu⟩ : ∃ u, u = V2.list.getD i Ud.zU := ⟨_, rfl⟩
                rw [← hu] at c0 c1 c2 c0' c1' c2'
                dsimp only at c0 c1 c2 c0' c1' c2'
                clear hu
                go_upto_region 33 with fail
                refine region_plan (fun w' : World => w' = wr.drew) 10 [(0, true), (1, true), (2, true), (3, true), (4, true), (5, true), (6, true), (7, true), (8, true), (9, true)] (by kernel_rfl) (by kernel_rfl) rfl ?_
                iterate 10
                  refine plan_read (v := ?_) rfl (by rfl) ?_ ?_
                  rotate_left
                  · intro w' hS
                    try dsimp only at hS
                    go_simp
                    try with_reducible rfl
                  try simp only [Act.put, List.setIfInBounds_toArray, List.set_cons_zero, List.set_cons_succ, List.getElem_toArray, List.getElem_cons_zero, List.getElem_cons_succ]
                refine plan_nil ?_
                simp only [List.drop_succ_cons, List.drop_zero]
                go_wp2_with fail
                go_roundw
                case rel => exact ⟨i + 1, by omega, by go_num, HBQ.out.drew⟩
                case measure => simp [intOf]; omega
              · have hilI : decide ((i : Int) < (N6 : Int)) = false := decide_eq_false (by omega)
                have HUQ := Lib.hid ((HU9.out.below HBQ.out).below (Below.refl _ _).drew)
                have HLTQ := Lib.hid ((HLT9.out.below HBQ.out).below (Below.refl _ _).drew)
                have HLOQ := Lib.hid ((HLO9.out.below HBQ.out).below (Below.refl _ _).drew)
                have HKTQ := Lib.hid ((HKT9.out.below HBQ.out).below (Below.refl _ _).drew)
                have HKOQ := Lib.hid ((HKO9.out.below HBQ.out).below (Below.refl _ _).drew)
                go_upto_region 35 with fail
                obtain ⟨w10, hw10⟩ : ∃ y, y = wr.drew := ⟨_, rfl⟩
                rw [← hw10] at HUQ HLTQ HLOQ HKTQ HKOQ
                refine region_plan (fun W : World => (∀ j, W.cell? ⟨bt, j, none⟩ = (#[.slice p6 n6 c6, .slice pp6 m6 cc6, .int .i64 V2.B.lost, .int .i64 V2.words, .int .i64 s2, .slice q6 N6 d6] : Array Value)[j]?) ∧ (∀ j, W.cell? ⟨bo, j, none⟩ = (#[.slice P6 M6 C6, .int .i64 s2, .slice Q6 N6 D6] : Array Value)[j]?)) 3 [(0, true), (1, true), (2, false)] (by kernel_rfl) (by kernel_rfl) (by rw [← hw10]; exact ⟨HKTQ.out.c, HKOQ.out.c⟩) ?_
                iterate 2
                  refine plan_read (v := ?_) rfl (by rfl) ?_ ?_
                  rotate_left
                  · intro w' hS
                    try dsimp only at hS
                    go_simp
                    try with_reducible rfl
                  try simp only [Act.put, List.setIfInBounds_toArray, List.set_cons_zero, List.set_cons_succ, List.getElem_toArray, List.getElem_cons_zero, List.getElem_cons_succ]
                rw [← hw10]
                clear hw10 kT kO
                obtain ⟨pb, nb, cb, ppb, mb, ccb, qb, kb, db, hkb, -⟩ := HUQ.out.vs.vo
                obtain ⟨Pb, Mb, Cb, Qb, Nb, Db, hkm, -, -⟩ := HUQ.out.vm.lo
                have cB := hkb.c
                have fB := hkb.f
                have lB := hkb.lt
                have HKMQ : Hid (Blk (set6 w10 b (.slice p6 n6 c6) (.slice pp6 m6 cc6) (.int .i64 V2.B.lost) (.int .i64 V2.words) (.int .i64 s2) (.slice q6 N6 d6)) bm _) := Lib.hid (set6_other hkm HUQ.out.ne _ _ _ _ _ _)
                have HNEQ : Hid (b ≠ bt ∧ b ≠ bo) := Lib.hid ⟨HBT.out.2.1, HBT.out.2.2.2.2.1⟩
                show wpOp _ _ _ 2 _ _ _
                refine Ud.op_store (w1 := (((((w10.setCell ⟨b, 0, none⟩ (.slice p6 n6 c6)).setCell ⟨b, 1, none⟩ (.slice pp6 m6 cc6)).setCell ⟨b, 2, none⟩ (.int .i64 V2.B.lost)).setCell ⟨b, 3, none⟩ (.int .i64 V2.words)).setCell ⟨b, 4, none⟩ (.int .i64 s2)).setCell ⟨b, 5, none⟩ (.slice q6 N6 d6)) rfl (by rfl) (by go_simp) ⟨⟨(set6_other HKTQ.out HNEQ.out.1 _ _ _ _ _ _).c, (set6_other HKOQ.out HNEQ.out.2 _ _ _ _ _ _).c⟩, ?_⟩
                try simp only [Act.put, List.setIfInBounds_toArray, List.set_cons_zero, List.set_cons_succ, List.getElem_toArray, List.getElem_cons_zero, List.getElem_cons_succ]
                refine plan_nil ?_
                simp only [List.drop_succ_cons, List.drop_zero]
                rw [set6_eq]
                have HU11 := Lib.hid (HUQ.out.put HLTQ.out HLOQ.out)
                obtain ⟨w11, hw11⟩ : ∃ y, y = set6 w10 b (.slice p6 n6 c6) (.slice pp6 m6 cc6) (.int .i64 V2.B.lost) (.int .i64 V2.words) (.int .i64 s2) (.slice q6 N6 d6) := ⟨_, rfl⟩
                rw [← hw11] at HU11 HKMQ ⊢
                clear hw11 cB fB lB hkb hkm HUQ HLTQ HLOQ HKTQ HKOQ
                have cM := HKMQ.out.c
                have fM := HKMQ.out.f
                have lM := HKMQ.out.lt
                go_upto_region 10 with fail
                obtain ⟨w12, hw12⟩ : ∃ y, y = ((w11.setCell ⟨bm, 0, none⟩ (.slice P6 M6 C6)).setCell ⟨bm, 1, none⟩ (.int .i64 s2)).setCell ⟨bm, 2, none⟩ (.slice Q6 N6 D6) := ⟨_, rfl⟩
                rw [← hw12] at HU11 ⊢
                clear hw12 cM fM lM HKMQ
                go_wp2_with fail
                go_roundw
                case rel => exact ⟨k + 1, V2, by omega, by omega, by go_num, HI2.out, HU11.out⟩
                case measure => simp [intOf]; omega
  
        · as_aux_lemma =>
            obtain ⟨ia, hia⟩ : ∃ y, y = a % n := ⟨_, rfl⟩
            have hta : ((a : Int)).tmod (n : Int) = (ia : Int) := by rw [Int.tmod_eq_emod_of_nonneg (by omega), hia]; exact (Int.natCast_emod a n).symm
            have hn0 : ¬ n = 0 := by omega
            have hnI : ¬ (n : Int) = 0 := by omega
            have hian : ia < n := by rw [hia]; exact Nat.mod_lt _ (by omega)
            clear hia
            go_upto_region 20 with fail
            obtain ⟨hL, hE, hR2, hl2⟩ := HINV.out.1.write HINV.out.2 hian (v := (v : Int)) (Int.natCast_nonneg _)
            have HW : Hid (∀ W, Below w5.heap.size w5 W → Calls Try.prog 8 #[.agg #[.slice pb nb cb, .slice ppb mb ccb, .int .i64 V.B.lost, .int .i64 V.words, .int .i64 V.span, .slice qb kb db], .int .i64 (ia : Int), .int .u32 (v : Int)] W fun e w' => OutV (fun R => R < w5.heap.size) W w' e (writeV V ia v) (writeVE V ia)) := Lib.hid (fun W hW => swriteV_any (fun R => R < w5.heap.size) _ V (ia : Int) v W (HLM.out.below hW) (fun R h => Nat.lt_of_lt_of_le h hW.size) hv32)
            have HWL : Hid (∀ W, Ud.Lo (fun R => R = b ∨ R = bm ∨ wr.heap.size ≤ R) W (.agg #[.slice Pb Mb Cb, .int .i64 (lgV V).span, .slice Qb Nb Db]) (lgV V) → w5.heap.size ≤ W.heap.size → Calls Try.prog 31 #[.agg #[.slice Pb Mb Cb, .int .i64 (lgV V).span, .slice Qb Nb Db], .int .i64 (ia : Int), .int .u32 (v : Int)] W fun e w' => Ud.OutL (fun R => R < w5.heap.size) W w' e (lgV (writeV V ia v)) (writeVE V ia)) := Lib.hid (fun W h1 h2 => by
              have hq := Ud.write_any (fun R => R < w5.heap.size) _ (lgV V) (ia : Int) (v : Int) W h1 (fun R h => Nat.lt_of_lt_of_le h h2)
              rw [← hL, ← hE] at hq
              exact hq)
            obtain ⟨V2, hV2⟩ : ∃ y, y = writeV V ia v := ⟨_, rfl⟩
            obtain ⟨X, hX⟩ : ∃ y, y = writeVE V ia := ⟨_, rfl⟩
            rw [← hV2, ← hX] at HW HWL
            rw [← hV2] at hR2 hl2
            have HI2 := Lib.hid (And.intro hR2 hl2)
            have HS0 : Hid (∀ W, Below w5.heap.size w5 W → (∀ j, W.cell? ⟨b, j, none⟩ = (#[.slice pb nb cb, .slice ppb mb ccb, .int .i64 V.B.lost, .int .i64 V.words, .int .i64 V.span, .slice qb kb db] : Array Value)[j]?) ∧ (∀ j, W.cell? ⟨g, j, none⟩ = (#[.int .u8 (kd : Int), .int .u8 (a : Int), .int .u8 (t : Int), .int .u32 (v : Int)] : Array Value)[j]?)) := Lib.hid (fun W hb => ⟨(HKM.out.below hb).c, (HD.out.1.below hb).c⟩)
            clear hR2 hl2 hL hE hV2 hX kD er
            refine region_plan (fun W : World => (∀ j, W.cell? ⟨b, j, none⟩ = (#[.slice pb nb cb, .slice ppb mb ccb, .int .i64 V.B.lost, .int .i64 V.words, .int .i64 V.span, .slice qb kb db] : Array Value)[j]?) ∧ (∀ j, W.cell? ⟨g, j, none⟩ = (#[.int .u8 (kd : Int), .int .u8 (a : Int), .int .u8 (t : Int), .int .u32 (v : Int)] : Array Value)[j]?)) 13 [(0, true), (1, true), (2, true), (3, true), (4, true), (5, true), (6, true), (7, true), (8, false), (9, true), (10, true), (11, true), (12, false)] (by kernel_rfl) (by kernel_rfl) (HS0.out _ (Below.refl _ _).drew) ?_
            iterate 5
              refine plan_read (v := ?_) rfl (by rfl) ?_ ?_
              rotate_left
              · intro w' hS
                try dsimp only at hS
                go_simp
                try with_reducible rfl
              try simp only [Act.put, List.setIfInBounds_toArray, List.set_cons_zero, List.set_cons_succ, List.getElem_toArray, List.getElem_cons_zero, List.getElem_cons_succ]
            refine plan_read (v := .int .i64 (ia : Int)) rfl (by rfl) (by intro w' hS; go_simp) ?_
            try simp only [Act.put, List.setIfInBounds_toArray, List.set_cons_zero, List.set_cons_succ, List.getElem_toArray, List.getElem_cons_zero, List.getElem_cons_succ]
            iterate 2
              refine plan_read (v := ?_) rfl (by rfl) ?_ ?_
              rotate_left
              · intro w' hS
                try dsimp only at hS
                go_simp
                try with_reducible rfl
              try simp only [Act.put, List.setIfInBounds_toArray, List.set_cons_zero, List.set_cons_succ, List.getElem_toArray, List.getElem_cons_zero, List.getElem_cons_succ]
            refine plan_call (F := 8) (args := ?_) rfl (by rfl) ?_ ?_
            rotate_left
            · go_simp
              rfl
            refine (HW.out w5.drew (Below.refl _ _).drew).mono ?_
            rintro e w6 ⟨vv, rfl, hlo, hb⟩
            have HB6 : Hid (Below w5.heap.size w5 w6) := Lib.hid ((Below.refl _ _).drew.trans hb)
            obtain ⟨p4, n4, c4, xs4, pp4, m4, cc4, q4, k4, d4, rfl, hcc, hoff⟩ := hlo
            have HL6 : Hid (Vo (fun R => R < w5.heap.size) w6 (.agg #[.slice p4 n4 c4, .slice pp4 m4 cc4, .int .i64 V2.B.lost, .int .i64 V2.words, .int .i64 V2.span, .slice q4 k4 d4]) V2) := Lib.hid ⟨p4, n4, c4, xs4, pp4, m4, cc4, q4, k4, d4, rfl, hcc, hoff⟩
            clear hcc hoff hb
            refine ⟨_, rfl, HS0.out _ HB6.out, ?_⟩
            try simp only [Act.put, List.setIfInBounds_toArray, List.set_cons_zero, List.set_cons_succ, List.getElem_toArray, List.getElem_cons_zero, List.getElem_cons_succ]
            iterate 3
              refine plan_read (v := ?_) rfl (by rfl) ?_ ?_
              rotate_left
              · intro w' hS
                try dsimp only at hS
                go_simp
                try with_reducible rfl
              try simp only [Act.put, List.setIfInBounds_toArray, List.set_cons_zero, List.set_cons_succ, List.getElem_toArray, List.getElem_cons_zero, List.getElem_cons_succ]
            have HZ6 := Lib.hid (HD.out.2.1.below HB6.out)
            have HKL6 := Lib.hid (HKL.out.below HB6.out)
            have HKD6 := Lib.hid (HD.out.1.below HB6.out)
            have HZO6 := Lib.hid (HD.out.2.2.below HB6.out)
            have cZ := HZ6.out.c
            have fZ := HZ6.out.f
            have lZ := HZ6.out.lt
            have HLL7 : Hid (Ud.Lo (fun R => R = b ∨ R = bm ∨ wr.heap.size ≤ R) (set6 w6 bt (.slice p4 n4 c4) (.slice pp4 m4 cc4) (.int .i64 V2.B.lost) (.int .i64 V2.words) (.int .i64 V2.span) (.slice q4 k4 d4)) (.agg #[.slice Pb Mb Cb, .int .i64 (lgV V).span, .slice Qb Nb Db]) (lgV V)) := Lib.hid (lo_set6 (HLL.out.below HB6.out) (.inr (.inr HBT.out.2.2.2.2.2.2.2.1)) _ _ _ _ _ _)
            have HKL7 : Hid (Blk (set6 w6 bt (.slice p4 n4 c4) (.slice pp4 m4 cc4) (.int .i64 V2.B.lost) (.int .i64 V2.words) (.int .i64 V2.span) (.slice q4 k4 d4)) bm #[.slice Pb Mb Cb, .int .i64 (lgV V).span, .slice Qb Nb Db]) := Lib.hid (set6_other HKL6.out (fun e => HBT.out.2.2.1 e.symm) _ _ _ _ _ _)
            have HKD7 : Hid (Blk (set6 w6 bt (.slice p4 n4 c4) (.slice pp4 m4 cc4) (.int .i64 V2.B.lost) (.int .i64 V2.words) (.int .i64 V2.span) (.slice q4 k4 d4)) g #[.int .u8 (kd : Int), .int .u8 (a : Int), .int .u8 (t : Int), .int .u32 (v : Int)]) := Lib.hid (set6_other HKD6.out (fun e => HBT.out.1 e.symm) _ _ _ _ _ _)
            have HZO7 : Hid (Blk (set6 w6 bt (.slice p4 n4 c4) (.slice pp4 m4 cc4) (.int .i64 V2.B.lost) (.int .i64 V2.words) (.int .i64 V2.span) (.slice q4 k4 d4)) bo #[.slice none 0 0, .int .i64 0, .slice none 0 0]) := Lib.hid (set6_other HZO6.out HBT.out.2.2.2.2.2.2.1 _ _ _ _ _ _)
            have HZ7 : Hid ((set6 w6 bt (.slice p4 n4 c4) (.slice pp4 m4 cc4) (.int .i64 V2.B.lost) (.int .i64 V2.words) (.int .i64 V2.span) (.slice q4 k4 d4)).heap.size = w6.heap.size) := Lib.hid (set6_size _ _ _ _ _ _ _ _)
            show wpOp _ _ _ 12 _ _ _
            refine Ud.op_store (w1 := (((((w6.setCell ⟨bt, 0, none⟩ (.slice p4 n4 c4)).setCell ⟨bt, 1, none⟩ (.slice pp4 m4 cc4)).setCell ⟨bt, 2, none⟩ (.int .i64 V2.B.lost)).setCell ⟨bt, 3, none⟩ (.int .i64 V2.words)).setCell ⟨bt, 4, none⟩ (.int .i64 V2.span)).setCell ⟨bt, 5, none⟩ (.slice q4 k4 d4)) rfl (by rfl) (by go_simp) ⟨⟨(set6_other (HKM.out.below HB6.out) (fun e => HBT.out.2.1 e.symm) _ _ _ _ _ _).c, HKD7.out.c⟩, ?_⟩
            try simp only [Act.put, List.setIfInBounds_toArray, List.set_cons_zero, List.set_cons_succ, List.getElem_toArray, List.getElem_cons_zero, List.getElem_cons_succ]
            refine plan_nil ?_
            simp only [List.drop_succ_cons, List.drop_zero]
            rw [set6_eq]
            obtain ⟨w7, hw7⟩ : ∃ y, y = set6 w6 bt (.slice p4 n4 c4) (.slice pp4 m4 cc4) (.int .i64 V2.B.lost) (.int .i64 V2.words) (.int .i64 V2.span) (.slice q4 k4 d4) := ⟨_, rfl⟩
            have HW7 := Lib.hid hw7
            rw [← hw7] at HLL7 HKL7 HKD7 HZO7 HZ7 ⊢
            clear hw7 cZ fZ lZ HZ6 HKL6 HKD6 HZO6
            have HG7 : Hid (w5.heap.size ≤ w7.heap.size) := Lib.hid (by rw [HZ7.out]; exact HB6.out.size)
            clear HS0 HW HKM HLM HLL HKL
            go_upto_region 21 with fail
            have HS1 : Hid (∀ W, Below w7.heap.size w7 W → (∀ j, W.cell? ⟨bm, j, none⟩ = (#[.slice Pb Mb Cb, .int .i64 (lgV V).span, .slice Qb Nb Db] : Array Value)[j]?) ∧ (∀ j, W.cell? ⟨g, j, none⟩ = (#[.int .u8 (kd : Int), .int .u8 (a : Int), .int .u8 (t : Int), .int .u32 (v : Int)] : Array Value)[j]?)) := Lib.hid (fun W hb => ⟨(HKL7.out.below hb).c, (HKD7.out.below hb).c⟩)
            have HWL7 := Lib.hid (HWL.out w7.drew (HLL7.out.below (Below.refl _ _).drew) HG7.out)
            refine region_plan (fun W : World => (∀ j, W.cell? ⟨bm, j, none⟩ = (#[.slice Pb Mb Cb, .int .i64 (lgV V).span, .slice Qb Nb Db] : Array Value)[j]?) ∧ (∀ j, W.cell? ⟨g, j, none⟩ = (#[.int .u8 (kd : Int), .int .u8 (a : Int), .int .u8 (t : Int), .int .u32 (v : Int)] : Array Value)[j]?)) 13 [(0, true), (1, true), (2, true), (3, true), (4, true), (5, true), (6, true), (7, true), (8, false), (9, true), (10, true), (11, true), (12, false)] (by kernel_rfl) (by kernel_rfl) (HS1.out _ (Below.refl _ _).drew) ?_
            iterate 5
              refine plan_read (v := ?_) rfl (by rfl) ?_ ?_
              rotate_left
              · intro w' hS
                try dsimp only at hS
                go_simp
                try with_reducible rfl
              try simp only [Act.put, List.setIfInBounds_toArray, List.set_cons_zero, List.set_cons_succ, List.getElem_toArray, List.getElem_cons_zero, List.getElem_cons_succ]
            refine plan_read (v := .int .i64 (ia : Int)) rfl (by rfl) (by intro w' hS; go_simp) ?_
            try simp only [Act.put, List.setIfInBounds_toArray, List.set_cons_zero, List.set_cons_succ, List.getElem_toArray, List.getElem_cons_zero, List.getElem_cons_succ]
            iterate 2
              refine plan_read (v := ?_) rfl (by rfl) ?_ ?_
              rotate_left
              · intro w' hS
                try dsimp only at hS
                go_simp
                try with_reducible rfl
              try simp only [Act.put, List.setIfInBounds_toArray, List.set_cons_zero, List.set_cons_succ, List.getElem_toArray, List.getElem_cons_zero, List.getElem_cons_succ]
            refine plan_call (F := 31) (args := ?_) rfl (by rfl) ?_ ?_
            rotate_left
            · go_simp
              rfl
            refine (HWL7.out).mono ?_
            rintro e w8 ⟨vv, rfl, hlo, hb⟩
            have HB8 : Hid (Below w7.heap.size w7 w8) := Lib.hid ((Below.refl _ _).drew.trans hb)
            obtain ⟨P8, M8, C8, Q8, N8, D8, rfl, hcc, hoff⟩ := hlo
            have HL8 : Hid (Ud.Lo (fun R => R < w5.heap.size) w8 (.agg #[.slice P8 M8 C8, .int .i64 (lgV V2).span, .slice Q8 N8 D8]) (lgV V2)) := Lib.hid ⟨P8, M8, C8, Q8, N8, D8, rfl, hcc, hoff⟩
            clear hcc hoff hb
            refine ⟨_, rfl, HS1.out _ HB8.out, ?_⟩
            try simp only [Act.put, List.setIfInBounds_toArray, List.set_cons_zero, List.set_cons_succ, List.getElem_toArray, List.getElem_cons_zero, List.getElem_cons_succ]
            iterate 3
              refine plan_read (v := ?_) rfl (by rfl) ?_ ?_
              rotate_left
              · intro w' hS
                try dsimp only at hS
                go_simp
                try with_reducible rfl
              try simp only [Act.put, List.setIfInBounds_toArray, List.set_cons_zero, List.set_cons_succ, List.getElem_toArray, List.getElem_cons_zero, List.getElem_cons_succ]
            have HO8 := Lib.hid (HZO7.out.below HB8.out)
            have cO := HO8.out.c
            have fO := HO8.out.f
            have lO := HO8.out.lt
            have HTL : Hid (TL wr (((w8.setCell ⟨bo, 0, none⟩ (.slice P8 M8 C8)).setCell ⟨bo, 1, none⟩ (.int .i64 (lgV V2).span)).setCell ⟨bo, 2, none⟩ (.slice Q8 N8 D8)) b bm bt bo V2) := Lib.hid (TL.make HD.out.2.1 HD.out.2.2 HB5.out HBT.out.2.2.2.2.2.2.2 HBT.out.2.2.2.2.2.2.1 ⟨HGB.out.2.2.1, HGB.out.2.2.2.1⟩ HB6.out HL6.out (by rw [← HW7.out, ← HZ7.out]; exact HB8.out) HL8.out)
            show wpOp _ _ _ 12 _ _ _
            refine Ud.op_store (w1 := ((w8.setCell ⟨bo, 0, none⟩ (.slice P8 M8 C8)).setCell ⟨bo, 1, none⟩ (.int .i64 (lgV V2).span)).setCell ⟨bo, 2, none⟩ (.slice Q8 N8 D8)) rfl (by rfl) (by go_simp) ⟨⟨(Ud.set3_other (HKL7.out.below HB8.out) (fun e => HBT.out.2.2.2.2.2.1 e.symm) _ _ _).c, (Ud.set3_other (HKD7.out.below HB8.out) (fun e => HBT.out.2.2.2.1 e.symm) _ _ _).c⟩, ?_⟩
            try simp only [Act.put, List.setIfInBounds_toArray, List.set_cons_zero, List.set_cons_succ, List.getElem_toArray, List.getElem_cons_zero, List.getElem_cons_succ]
            refine plan_nil ?_
            simp only [List.drop_succ_cons, List.drop_zero]
            go_upto_region 28 with fail
            obtain ⟨wc, hwc⟩ : ∃ y, y = ((w8.setCell ⟨bo, 0, none⟩ (.slice P8 M8 C8)).setCell ⟨bo, 1, none⟩ (.int .i64 (lgV V2).span)).setCell ⟨bo, 2, none⟩ (.slice Q8 N8 D8) := ⟨_, rfl⟩
            rw [← hwc] at HTL ⊢
            clear hwc cO fO lO HO8 HB8 HL8 HWL HWL7 HS1 HLL7 HKL7 HKD7 HZO7 HB6 HL6 HD HINV HB5 hta hn0 hnI
            obtain ⟨p6, n6, c6, pp6, m6, cc6, q6, k6, d6, hkt, hlt⟩ := HTL.out.vt.vo
            obtain ⟨P6, M6, C6, Q6, N6, D6, hko, hlo, hlc⟩ := HTL.out.vo.lo
            obtain ⟨s2, hs2⟩ : ∃ y, y = V2.span := ⟨_, rfl⟩
            have hs3 : (lgV V2).span = s2 := hs2.symm
            have hM6 : M6 = n := hlc.ml.symm.trans HI2.out.1.ml
            have hk6 : V2.list.length = k6 := by
              obtain ⟨p', n', c', xs', pp', m', cc', q', k', d', e, hc, _⟩ := hlt
              injection e with e
              simp at e
              have := hc.ll
              omega
            have hN6 : N6 = k6 := hlc.ll.symm.trans hk6
            subst hM6 hN6
            rw [← hs2] at hkt hlt
            rw [hs3] at hko hlo
            have HK6 := Lib.hid hk6
            have hk10 : N6 ≤ 10000 := hlc.n10
            have HSO : Hid (Sl wc Q6 N6 (Ud.unC V2.list)) := Lib.hid hlc.ls
            have HMO : Hid (Sl wc P6 M6 (Ud.wdC (wordsV V2))) := Lib.hid (by rw [rv_words HI2.out.1]; exact hlc.ms)
            have HST : Hid (Sl wc q6 N6 (Ud.unC V2.list)) := Lib.hid (by
              obtain ⟨p', n', c', xs', pp', m', cc', q', k', d', e, hc, _⟩ := hlt
              injection e with e
              simp at e
              obtain ⟨-, -, -, rfl, rfl, rfl⟩ := e
              exact hc.ls)
            have HKT := Lib.hid hkt
            have HLT := Lib.hid hlt
            have HKO := Lib.hid hko
            have HLO := Lib.hid hlo
            clear hkt hlt hko hlo hlc hs2 hs3 hk6
            have HWO : Hid (Calls Try.prog 22 #[.agg #[.slice p6 n6 c6, .slice pp6 m6 cc6, .int .i64 V2.B.lost, .int .i64 V2.words, .int .i64 s2, .slice q6 N6 d6]] wc.drew fun e w' => ∃ r, e = .returned r ∧ w'.ownsRow wc.heap.size 29 1 r M6 (Ud.wdC (wordsV V2)) ∧ Below wc.heap.size wc w') := Lib.hid ((swords_any _ _ V2 wc.drew (HLT.out.below (Below.refl _ _).drew)).mono (by
              rintro e w' ⟨r, h1, h2, h3⟩
              rw [show (wordsV V2).length = M6 by rw [rv_words HI2.out.1, HI2.out.1.ml]] at h2
              exact ⟨r, h1, h2, (Below.refl _ _).drew.trans h3⟩))
            have HS0 : Hid (∀ W, Below wc.heap.size wc W → (∀ j, W.cell? ⟨bt, j, none⟩ = (#[.slice p6 n6 c6, .slice pp6 m6 cc6, .int .i64 V2.B.lost, .int .i64 V2.words, .int .i64 s2, .slice q6 N6 d6] : Array Value)[j]?) ∧ (∀ j, W.cell? ⟨bo, j, none⟩ = (#[.slice P6 M6 C6, .int .i64 s2, .slice Q6 N6 D6] : Array Value)[j]?)) := Lib.hid (fun W hb => ⟨(HKT.out.below hb).c, (HKO.out.below hb).c⟩)
            refine region_plan (fun W : World => (∀ j, W.cell? ⟨bt, j, none⟩ = (#[.slice p6 n6 c6, .slice pp6 m6 cc6, .int .i64 V2.B.lost, .int .i64 V2.words, .int .i64 s2, .slice q6 N6 d6] : Array Value)[j]?) ∧ (∀ j, W.cell? ⟨bo, j, none⟩ = (#[.slice P6 M6 C6, .int .i64 s2, .slice Q6 N6 D6] : Array Value)[j]?)) 25 [(0, true), (1, true), (2, true), (3, true), (4, true), (6, true), (7, true), (5, false), (8, false), (9, true), (10, true), (11, true), (12, true), (13, true), (14, true), (15, true), (16, true), (17, true), (18, true), (19, true), (20, true), (21, true), (22, true), (23, true), (24, true)] (by kernel_rfl) (by kernel_rfl) (HS0.out _ (Below.refl _ _).drew) ?_
            iterate 7
              refine plan_read (v := ?_) rfl (by rfl) ?_ ?_
              rotate_left
              · intro w' hS
                try dsimp only at hS
                go_simp
                try with_reducible rfl
              try simp only [Act.put, List.setIfInBounds_toArray, List.set_cons_zero, List.set_cons_succ, List.getElem_toArray, List.getElem_cons_zero, List.getElem_cons_succ]
            refine plan_call (F := 22) (args := ?_) rfl (by rfl) ?_ ?_
            rotate_left
            · go_simp
              rfl
            refine (HWO.out).mono ?_
            rintro e w8 ⟨r, rfl, hrr, hb⟩
            obtain ⟨p5, c5, rfl, _⟩ := own_cap hrr
            have HRR := Lib.hid hrr
            have HB8 := Lib.hid hb
            clear hrr hb
            refine ⟨_, rfl, HS0.out _ HB8.out, ?_⟩
            try simp only [Act.put, List.setIfInBounds_toArray, List.set_cons_zero, List.set_cons_succ, List.getElem_toArray, List.getElem_cons_zero, List.getElem_cons_succ]
            have HWD : Hid (Calls Try.prog 21 #[.slice p5 M6 c5, .slice P6 M6 C6] w8 fun e w' => e = .returned (.bool true) ∧ Below w8.heap.size w8 w') := Lib.hid (by
              obtain ⟨p', c', e, hs⟩ := Sl.own HRR.out
              injection e with e1 e2 e3
              subst e1 e3
              have hl : (wordsV V2).length = M6 := by rw [rv_words HI2.out.1, HI2.out.1.ml]
              have := Ud.words_any p5 P6 c5 C6 (wordsV V2) w8 (by rw [hl]; exact hs) (by rw [hl]; exact HMO.out.below HB8.out) (by rw [hl]; omega)
              rw [hl] at this
              exact this)
            refine plan_call (F := 21) (args := ?_) rfl (by rfl) ?_ ?_
            rotate_left
            · go_simp
              rfl
            refine (HWD.out).mono ?_
            rintro e w9 ⟨rfl, hb⟩
            have HB9 : Hid (Below wc.heap.size wc w9) := Lib.hid (HB8.out.trans (hb.mono HB8.out.size))
            clear hb
            refine ⟨_, rfl, HS0.out _ HB9.out, ?_⟩
            try simp only [Act.put, List.setIfInBounds_toArray, List.set_cons_zero, List.set_cons_succ, List.getElem_toArray, List.getElem_cons_zero, List.getElem_cons_succ]
            iterate 16
              refine plan_read (v := ?_) rfl (by rfl) ?_ ?_
              rotate_left
              · intro w' hS
                try dsimp only at hS
                go_simp
                try with_reducible rfl
              try simp only [Act.put, List.setIfInBounds_toArray, List.set_cons_zero, List.set_cons_succ, List.getElem_toArray, List.getElem_cons_zero, List.getElem_cons_succ]
            refine plan_nil ?_
            simp only [List.drop_succ_cons, List.drop_zero]
            have HKT9 := Lib.hid (HKT.out.below HB9.out)
            have HKO9 := Lib.hid (HKO.out.below HB9.out)
            have HLT9 := Lib.hid (HLT.out.below HB9.out)
            have HLO9 := Lib.hid (HLO.out.below HB9.out)
            have HST9 := Lib.hid (HST.out.below HB9.out)
            have HSO9 := Lib.hid (HSO.out.below HB9.out)
            have HU9 := Lib.hid (HUB.out.below (HTL.out.hb.trans (HB9.out.mono HTL.out.hb.size)))
            clear HS0 HWO HWD HRR HB8 HB9 HMO HKT HKO HLT HLO HST HSO HTL
            go_wp2_with fail
            go_loopw [18] (fun s18 wq => ∃ i : Nat, i ≤ N6 ∧ s18 = .int .i64 i ∧ Below w9.heap.size w9 wq) (fun s18 _ => N6 - (intOf s18).toNat)
            case atStart => exact ⟨0, Nat.zero_le _, rfl, Below.refl _ _⟩
            case round =>
              obtain ⟨i, hi, rfl, hbq⟩ := hrel
              have HBQ := Lib.hid hbq
              clear hbq
              have kT := (HKT9.out.below HBQ.out).c
              have kO := (HKO9.out.below HBQ.out).c
              by_cases hil : i < N6
              · have hilI : decide ((i : Int) < (N6 : Int)) = true := decide_eq_true (by omega)
                have hiI : (0 : Int) ≤ (i : Int) := by omega
                have hiI2 : (i : Int) < (N6 : Int) := by omega
                obtain ⟨b1, off1, rfl, hat1⟩ := Ud.un_at (l := V2.list) (by rw [HK6.out]; exact HST9.out.below HBQ.out) i (by rw [HK6.out]; exact hil)
                obtain ⟨b2, off2, rfl, hat2⟩ := Ud.un_at (l := V2.list) (by rw [HK6.out]; exact HSO9.out.below HBQ.out) i (by rw [HK6.out]; exact hil)
                obtain ⟨l0, c0, c1, c2⟩ := hat1
                obtain ⟨l0', c0', c1', c2'⟩ := hat2
                obtain ⟨⟨us, ua, uv⟩, hu⟩ : ∃ u, u = V2.list.getD i Ud.zU := ⟨_, rfl⟩
                rw [← hu] at c0 c1 c2 c0' c1' c2'
                dsimp only at c0 c1 c2 c0' c1' c2'
                clear hu
                go_upto_region 33 with fail
                refine region_plan (fun w' : World => w' = wr.drew) 10 [(0, true), (1, true), (2, true), (3, true), (4, true), (5, true), (6, true), (7, true), (8, true), (9, true)] (by kernel_rfl) (by kernel_rfl) rfl ?_
                iterate 10
                  refine plan_read (v := ?_) rfl (by rfl) ?_ ?_
                  rotate_left
                  · intro w' hS
                    try dsimp only at hS
                    go_simp
                    try with_reducible rfl
                  try simp only [Act.put, List.setIfInBounds_toArray, List.set_cons_zero, List.set_cons_succ, List.getElem_toArray, List.getElem_cons_zero, List.getElem_cons_succ]
                refine plan_nil ?_
                simp only [List.drop_succ_cons, List.drop_zero]
                go_wp2_with fail
                go_roundw
                case rel => exact ⟨i + 1, by omega, by go_num, HBQ.out.drew⟩
                case measure => simp [intOf]; omega
              · have hilI : decide ((i : Int) < (N6 : Int)) = false := decide_eq_false (by omega)
                have HUQ := Lib.hid ((HU9.out.below HBQ.out).below (Below.refl _ _).drew)
                have HLTQ := Lib.hid ((HLT9.out.below HBQ.out).below (Below.refl _ _).drew)
                have HLOQ := Lib.hid ((HLO9.out.below HBQ.out).below (Below.refl _ _).drew)
                have HKTQ := Lib.hid ((HKT9.out.below HBQ.out).below (Below.refl _ _).drew)
                have HKOQ := Lib.hid ((HKO9.out.below HBQ.out).below (Below.refl _ _).drew)
                go_upto_region 35 with fail
                obtain ⟨w10, hw10⟩ : ∃ y, y = wr.drew := ⟨_, rfl⟩
                rw [← hw10] at HUQ HLTQ HLOQ HKTQ HKOQ
                refine region_plan (fun W : World => (∀ j, W.cell? ⟨bt, j, none⟩ = (#[.slice p6 n6 c6, .slice pp6 m6 cc6, .int .i64 V2.B.lost, .int .i64 V2.words, .int .i64 s2, .slice q6 N6 d6] : Array Value)[j]?) ∧ (∀ j, W.cell? ⟨bo, j, none⟩ = (#[.slice P6 M6 C6, .int .i64 s2, .slice Q6 N6 D6] : Array Value)[j]?)) 3 [(0, true), (1, true), (2, false)] (by kernel_rfl) (by kernel_rfl) (by rw [← hw10]; exact ⟨HKTQ.out.c, HKOQ.out.c⟩) ?_
                iterate 2
                  refine plan_read (v := ?_) rfl (by rfl) ?_ ?_
                  rotate_left
                  · intro w' hS
                    try dsimp only at hS
                    go_simp
                    try with_reducible rfl
                  try simp only [Act.put, List.setIfInBounds_toArray, List.set_cons_zero, List.set_cons_succ, List.getElem_toArray, List.getElem_cons_zero, List.getElem_cons_succ]
                rw [← hw10]
                clear hw10 kT kO
                obtain ⟨pb, nb, cb, ppb, mb, ccb, qb, kb, db, hkb, -⟩ := HUQ.out.vs.vo
                obtain ⟨Pb, Mb, Cb, Qb, Nb, Db, hkm, -, -⟩ := HUQ.out.vm.lo
                have cB := hkb.c
                have fB := hkb.f
                have lB := hkb.lt
                have HKMQ : Hid (Blk (set6 w10 b (.slice p6 n6 c6) (.slice pp6 m6 cc6) (.int .i64 V2.B.lost) (.int .i64 V2.words) (.int .i64 s2) (.slice q6 N6 d6)) bm _) := Lib.hid (set6_other hkm HUQ.out.ne _ _ _ _ _ _)
                have HNEQ : Hid (b ≠ bt ∧ b ≠ bo) := Lib.hid ⟨HBT.out.2.1, HBT.out.2.2.2.2.1⟩
                show wpOp _ _ _ 2 _ _ _
                refine Ud.op_store (w1 := (((((w10.setCell ⟨b, 0, none⟩ (.slice p6 n6 c6)).setCell ⟨b, 1, none⟩ (.slice pp6 m6 cc6)).setCell ⟨b, 2, none⟩ (.int .i64 V2.B.lost)).setCell ⟨b, 3, none⟩ (.int .i64 V2.words)).setCell ⟨b, 4, none⟩ (.int .i64 s2)).setCell ⟨b, 5, none⟩ (.slice q6 N6 d6)) rfl (by rfl) (by go_simp) ⟨⟨(set6_other HKTQ.out HNEQ.out.1 _ _ _ _ _ _).c, (set6_other HKOQ.out HNEQ.out.2 _ _ _ _ _ _).c⟩, ?_⟩
                try simp only [Act.put, List.setIfInBounds_toArray, List.set_cons_zero, List.set_cons_succ, List.getElem_toArray, List.getElem_cons_zero, List.getElem_cons_succ]
                refine plan_nil ?_
                simp only [List.drop_succ_cons, List.drop_zero]
                rw [set6_eq]
                have HU11 := Lib.hid (HUQ.out.put HLTQ.out HLOQ.out)
                obtain ⟨w11, hw11⟩ : ∃ y, y = set6 w10 b (.slice p6 n6 c6) (.slice pp6 m6 cc6) (.int .i64 V2.B.lost) (.int .i64 V2.words) (.int .i64 s2) (.slice q6 N6 d6) := ⟨_, rfl⟩
                rw [← hw11] at HU11 HKMQ ⊢
                clear hw11 cB fB lB hkb hkm HUQ HLTQ HLOQ HKTQ HKOQ
                have cM := HKMQ.out.c
                have fM := HKMQ.out.f
                have lM := HKMQ.out.lt
                go_upto_region 10 with fail
                obtain ⟨w12, hw12⟩ : ∃ y, y = ((w11.setCell ⟨bm, 0, none⟩ (.slice P6 M6 C6)).setCell ⟨bm, 1, none⟩ (.int .i64 s2)).setCell ⟨bm, 2, none⟩ (.slice Q6 N6 D6) := ⟨_, rfl⟩
                rw [← hw12] at HU11 ⊢
                clear hw12 cM fM lM HKMQ
                go_wp2_with fail
                go_roundw
                case rel => exact ⟨k + 1, V2, by omega, by omega, by go_num, HI2.out, HU11.out⟩
                case measure => simp [intOf]; omega
  
        · as_aux_lemma =>
            obtain ⟨hL, hE, hR2, hl2⟩ : lgV (nextV V) = Ud.nextL (lgV V) ∧ nextVE V = Ud.nextE (lgV V) ∧ Rv (nextV V) n bn mq ∧ (nextV V).B.lost = 0 := ⟨HINV.out.1.next.1, HINV.out.1.next.2.1, HINV.out.1.next.2.2.1, by rw [HINV.out.1.next.2.2.2]; exact HINV.out.2⟩
            have hq := snext_any (fun R => R < w5.heap.size) _ V w5 HLM.out (fun R h => h)
            obtain ⟨V2, hV2⟩ : ∃ y, y = nextV V := ⟨_, rfl⟩
            obtain ⟨X, hX⟩ : ∃ y, y = nextVE V := ⟨_, rfl⟩
            have HWL : Hid (∀ W, Ud.Lo (fun R => R = b ∨ R = bm ∨ wr.heap.size ≤ R) W (.agg #[.slice Pb Mb Cb, .int .i64 (lgV V).span, .slice Qb Nb Db]) (lgV V) → w5.heap.size ≤ W.heap.size → Calls Try.prog 32 #[.agg #[.slice Pb Mb Cb, .int .i64 (lgV V).span, .slice Qb Nb Db]] W fun e w' => Ud.OutL (fun R => R < w5.heap.size) W w' e (lgV V2) X) := Lib.hid (fun W h1 h2 => by
              have hq := Ud.next_any (fun R => R < w5.heap.size) _ (lgV V) W h1 (fun R h => Nat.lt_of_lt_of_le h h2)
              rw [← hL, ← hE, ← hV2, ← hX] at hq
              exact hq)
            rw [← hV2, ← hX] at hq
            rw [← hV2] at hR2 hl2
            have HI2 := Lib.hid (And.intro hR2 hl2)
            have HQC := Lib.hid hq
            clear hR2 hl2 hL hE hV2 hX hq
            have kB := HKM.out.c
            go_wp2_with fail
            refine HQC.out.mono ?_
            clear HQC kB
            rintro e w6 ⟨vv, rfl, hlo, hb⟩
            have HB6 : Hid (Below w5.heap.size w5 w6) := Lib.hid hb
            obtain ⟨p4, n4, c4, xs4, pp4, m4, cc4, q4, k4, d4, rfl, hcc, hoff⟩ := hlo
            have HL6 : Hid (Vo (fun R => R < w5.heap.size) w6 (.agg #[.slice p4 n4 c4, .slice pp4 m4 cc4, .int .i64 V2.B.lost, .int .i64 V2.words, .int .i64 V2.span, .slice q4 k4 d4]) V2) := Lib.hid ⟨p4, n4, c4, xs4, pp4, m4, cc4, q4, k4, d4, rfl, hcc, hoff⟩
            clear hcc hoff hb
            have HZ6 := Lib.hid (HD.out.2.1.below HB6.out)
            have HKL6 := Lib.hid (HKL.out.below HB6.out)
            have HKD6 := Lib.hid (HD.out.1.below HB6.out)
            have HZO6 := Lib.hid (HD.out.2.2.below HB6.out)
            have cZ := HZ6.out.c
            have fZ := HZ6.out.f
            have lZ := HZ6.out.lt
            have HLL7 : Hid (Ud.Lo (fun R => R = b ∨ R = bm ∨ wr.heap.size ≤ R) (set6 w6 bt (.slice p4 n4 c4) (.slice pp4 m4 cc4) (.int .i64 V2.B.lost) (.int .i64 V2.words) (.int .i64 V2.span) (.slice q4 k4 d4)) (.agg #[.slice Pb Mb Cb, .int .i64 (lgV V).span, .slice Qb Nb Db]) (lgV V)) := Lib.hid (lo_set6 (HLL.out.below HB6.out) (.inr (.inr HBT.out.2.2.2.2.2.2.2.1)) _ _ _ _ _ _)
            have HKL7 : Hid (Blk (set6 w6 bt (.slice p4 n4 c4) (.slice pp4 m4 cc4) (.int .i64 V2.B.lost) (.int .i64 V2.words) (.int .i64 V2.span) (.slice q4 k4 d4)) bm #[.slice Pb Mb Cb, .int .i64 (lgV V).span, .slice Qb Nb Db]) := Lib.hid (set6_other HKL6.out (fun e => HBT.out.2.2.1 e.symm) _ _ _ _ _ _)
            have HKD7 : Hid (Blk (set6 w6 bt (.slice p4 n4 c4) (.slice pp4 m4 cc4) (.int .i64 V2.B.lost) (.int .i64 V2.words) (.int .i64 V2.span) (.slice q4 k4 d4)) g #[.int .u8 (kd : Int), .int .u8 (a : Int), .int .u8 (t : Int), .int .u32 (v : Int)]) := Lib.hid (set6_other HKD6.out (fun e => HBT.out.1 e.symm) _ _ _ _ _ _)
            have HZO7 : Hid (Blk (set6 w6 bt (.slice p4 n4 c4) (.slice pp4 m4 cc4) (.int .i64 V2.B.lost) (.int .i64 V2.words) (.int .i64 V2.span) (.slice q4 k4 d4)) bo #[.slice none 0 0, .int .i64 0, .slice none 0 0]) := Lib.hid (set6_other HZO6.out HBT.out.2.2.2.2.2.2.1 _ _ _ _ _ _)
            have HZ7 : Hid ((set6 w6 bt (.slice p4 n4 c4) (.slice pp4 m4 cc4) (.int .i64 V2.B.lost) (.int .i64 V2.words) (.int .i64 V2.span) (.slice q4 k4 d4)).heap.size = w6.heap.size) := Lib.hid (set6_size _ _ _ _ _ _ _ _)
            go_upto_region 24 with fail
            rw [set6_eq]
            obtain ⟨w7, hw7⟩ : ∃ y, y = set6 w6 bt (.slice p4 n4 c4) (.slice pp4 m4 cc4) (.int .i64 V2.B.lost) (.int .i64 V2.words) (.int .i64 V2.span) (.slice q4 k4 d4) := ⟨_, rfl⟩
            have HW7 := Lib.hid hw7
            rw [← hw7] at HLL7 HKL7 HKD7 HZO7 HZ7 ⊢
            clear hw7 cZ fZ lZ HZ6 HKL6 HKD6 HZO6
            have HG7 : Hid (w5.heap.size ≤ w7.heap.size) := Lib.hid (by rw [HZ7.out]; exact HB6.out.size)
            clear HKM HLM HLL HKL kD
            have HWL7 := Lib.hid (HWL.out w7 HLL7.out HG7.out)
            have kB := HKL7.out.c
            have kD := HKD7.out.c
            go_wp2_with fail
            refine HWL7.out.mono ?_
            clear HWL7 kB kD
            rintro e w8 ⟨vv, rfl, hlo, hb⟩
            have HB8 : Hid (Below w7.heap.size w7 w8) := Lib.hid hb
            obtain ⟨P8, M8, C8, Q8, N8, D8, rfl, hcc, hoff⟩ := hlo
            have HL8 : Hid (Ud.Lo (fun R => R < w5.heap.size) w8 (.agg #[.slice P8 M8 C8, .int .i64 (lgV V2).span, .slice Q8 N8 D8]) (lgV V2)) := Lib.hid ⟨P8, M8, C8, Q8, N8, D8, rfl, hcc, hoff⟩
            clear hcc hoff hb
            have HO8 := Lib.hid (HZO7.out.below HB8.out)
            have cO := HO8.out.c
            have fO := HO8.out.f
            have lO := HO8.out.lt
            have HTL : Hid (TL wr (((w8.setCell ⟨bo, 0, none⟩ (.slice P8 M8 C8)).setCell ⟨bo, 1, none⟩ (.int .i64 (lgV V2).span)).setCell ⟨bo, 2, none⟩ (.slice Q8 N8 D8)) b bm bt bo V2) := Lib.hid (TL.make HD.out.2.1 HD.out.2.2 HB5.out HBT.out.2.2.2.2.2.2.2 HBT.out.2.2.2.2.2.2.1 ⟨HGB.out.2.2.1, HGB.out.2.2.2.1⟩ HB6.out HL6.out (by rw [← HW7.out, ← HZ7.out]; exact HB8.out) HL8.out)
            go_upto_region 28 with fail
            obtain ⟨wc, hwc⟩ : ∃ y, y = ((w8.setCell ⟨bo, 0, none⟩ (.slice P8 M8 C8)).setCell ⟨bo, 1, none⟩ (.int .i64 (lgV V2).span)).setCell ⟨bo, 2, none⟩ (.slice Q8 N8 D8) := ⟨_, rfl⟩
            rw [← hwc] at HTL ⊢
            clear hwc cO fO lO HO8 HB8 HL8 HWL HLL7 HKL7 HKD7 HZO7 HB6 HL6 HD HINV HB5 er
            obtain ⟨p6, n6, c6, pp6, m6, cc6, q6, k6, d6, hkt, hlt⟩ := HTL.out.vt.vo
            obtain ⟨P6, M6, C6, Q6, N6, D6, hko, hlo, hlc⟩ := HTL.out.vo.lo
            obtain ⟨s2, hs2⟩ : ∃ y, y = V2.span := ⟨_, rfl⟩
            have hs3 : (lgV V2).span = s2 := hs2.symm
            have hM6 : M6 = n := hlc.ml.symm.trans HI2.out.1.ml
            have hk6 : V2.list.length = k6 := by
              obtain ⟨p', n', c', xs', pp', m', cc', q', k', d', e, hc, _⟩ := hlt
              injection e with e
              simp at e
              have := hc.ll
              omega
            have hN6 : N6 = k6 := hlc.ll.symm.trans hk6
            subst hM6 hN6
            rw [← hs2] at hkt hlt
            rw [hs3] at hko hlo
            have HK6 := Lib.hid hk6
            have hk10 : N6 ≤ 10000 := hlc.n10
            have HSO : Hid (Sl wc Q6 N6 (Ud.unC V2.list)) := Lib.hid hlc.ls
            have HMO : Hid (Sl wc P6 M6 (Ud.wdC (wordsV V2))) := Lib.hid (by rw [rv_words HI2.out.1]; exact hlc.ms)
            have HST : Hid (Sl wc q6 N6 (Ud.unC V2.list)) := Lib.hid (by
              obtain ⟨p', n', c', xs', pp', m', cc', q', k', d', e, hc, _⟩ := hlt
              injection e with e
              simp at e
              obtain ⟨-, -, -, rfl, rfl, rfl⟩ := e
              exact hc.ls)
            have HKT := Lib.hid hkt
            have HLT := Lib.hid hlt
            have HKO := Lib.hid hko
            have HLO := Lib.hid hlo
            clear hkt hlt hko hlo hlc hs2 hs3 hk6
            have HWO : Hid (Calls Try.prog 22 #[.agg #[.slice p6 n6 c6, .slice pp6 m6 cc6, .int .i64 V2.B.lost, .int .i64 V2.words, .int .i64 s2, .slice q6 N6 d6]] wc.drew fun e w' => ∃ r, e = .returned r ∧ w'.ownsRow wc.heap.size 29 1 r M6 (Ud.wdC (wordsV V2)) ∧ Below wc.heap.size wc w') := Lib.hid ((swords_any _ _ V2 wc.drew (HLT.out.below (Below.refl _ _).drew)).mono (by
              rintro e w' ⟨r, h1, h2, h3⟩
              rw [show (wordsV V2).length = M6 by rw [rv_words HI2.out.1, HI2.out.1.ml]] at h2
              exact ⟨r, h1, h2, (Below.refl _ _).drew.trans h3⟩))
            have HS0 : Hid (∀ W, Below wc.heap.size wc W → (∀ j, W.cell? ⟨bt, j, none⟩ = (#[.slice p6 n6 c6, .slice pp6 m6 cc6, .int .i64 V2.B.lost, .int .i64 V2.words, .int .i64 s2, .slice q6 N6 d6] : Array Value)[j]?) ∧ (∀ j, W.cell? ⟨bo, j, none⟩ = (#[.slice P6 M6 C6, .int .i64 s2, .slice Q6 N6 D6] : Array Value)[j]?)) := Lib.hid (fun W hb => ⟨(HKT.out.below hb).c, (HKO.out.below hb).c⟩)
            refine region_plan (fun W : World => (∀ j, W.cell? ⟨bt, j, none⟩ = (#[.slice p6 n6 c6, .slice pp6 m6 cc6, .int .i64 V2.B.lost, .int .i64 V2.words, .int .i64 s2, .slice q6 N6 d6] : Array Value)[j]?) ∧ (∀ j, W.cell? ⟨bo, j, none⟩ = (#[.slice P6 M6 C6, .int .i64 s2, .slice Q6 N6 D6] : Array Value)[j]?)) 25 [(0, true), (1, true), (2, true), (3, true), (4, true), (6, true), (7, true), (5, false), (8, false), (9, true), (10, true), (11, true), (12, true), (13, true), (14, true), (15, true), (16, true), (17, true), (18, true), (19, true), (20, true), (21, true), (22, true), (23, true), (24, true)] (by kernel_rfl) (by kernel_rfl) (HS0.out _ (Below.refl _ _).drew) ?_
            iterate 7
              refine plan_read (v := ?_) rfl (by rfl) ?_ ?_
              rotate_left
              · intro w' hS
                try dsimp only at hS
                go_simp
                try with_reducible rfl
              try simp only [Act.put, List.setIfInBounds_toArray, List.set_cons_zero, List.set_cons_succ, List.getElem_toArray, List.getElem_cons_zero, List.getElem_cons_succ]
            refine plan_call (F := 22) (args := ?_) rfl (by rfl) ?_ ?_
            rotate_left
            · go_simp
              rfl
            refine (HWO.out).mono ?_
            rintro e w8 ⟨r, rfl, hrr, hb⟩
            obtain ⟨p5, c5, rfl, _⟩ := own_cap hrr
            have HRR := Lib.hid hrr
            have HB8 := Lib.hid hb
            clear hrr hb
            refine ⟨_, rfl, HS0.out _ HB8.out, ?_⟩
            try simp only [Act.put, List.setIfInBounds_toArray, List.set_cons_zero, List.set_cons_succ, List.getElem_toArray, List.getElem_cons_zero, List.getElem_cons_succ]
            have HWD : Hid (Calls Try.prog 21 #[.slice p5 M6 c5, .slice P6 M6 C6] w8 fun e w' => e = .returned (.bool true) ∧ Below w8.heap.size w8 w') := Lib.hid (by
              obtain ⟨p', c', e, hs⟩ := Sl.own HRR.out
              injection e with e1 e2 e3
              subst e1 e3
              have hl : (wordsV V2).length = M6 := by rw [rv_words HI2.out.1, HI2.out.1.ml]
              have := Ud.words_any p5 P6 c5 C6 (wordsV V2) w8 (by rw [hl]; exact hs) (by rw [hl]; exact HMO.out.below HB8.out) (by rw [hl]; omega)
              rw [hl] at this
              exact this)
            refine plan_call (F := 21) (args := ?_) rfl (by rfl) ?_ ?_
            rotate_left
            · go_simp
              rfl
            refine (HWD.out).mono ?_
            rintro e w9 ⟨rfl, hb⟩
            have HB9 : Hid (Below wc.heap.size wc w9) := Lib.hid (HB8.out.trans (hb.mono HB8.out.size))
            clear hb
            refine ⟨_, rfl, HS0.out _ HB9.out, ?_⟩
            try simp only [Act.put, List.setIfInBounds_toArray, List.set_cons_zero, List.set_cons_succ, List.getElem_toArray, List.getElem_cons_zero, List.getElem_cons_succ]
            iterate 16
              refine plan_read (v := ?_) rfl (by rfl) ?_ ?_
              rotate_left
              · intro w' hS
                try dsimp only at hS
                go_simp
                try with_reducible rfl
              try simp only [Act.put, List.setIfInBounds_toArray, List.set_cons_zero, List.set_cons_succ, List.getElem_toArray, List.getElem_cons_zero, List.getElem_cons_succ]
            refine plan_nil ?_
            simp only [List.drop_succ_cons, List.drop_zero]
            have HKT9 := Lib.hid (HKT.out.below HB9.out)
            have HKO9 := Lib.hid (HKO.out.below HB9.out)
            have HLT9 := Lib.hid (HLT.out.below HB9.out)
            have HLO9 := Lib.hid (HLO.out.below HB9.out)
            have HST9 := Lib.hid (HST.out.below HB9.out)
            have HSO9 := Lib.hid (HSO.out.below HB9.out)
            have HU9 := Lib.hid (HUB.out.below (HTL.out.hb.trans (HB9.out.mono HTL.out.hb.size)))
            clear HS0 HWO HWD HRR HB8 HB9 HMO HKT HKO HLT HLO HST HSO HTL
            go_wp2_with fail
            go_loopw [18] (fun s18 wq => ∃ i : Nat, i ≤ N6 ∧ s18 = .int .i64 i ∧ Below w9.heap.size w9 wq) (fun s18 _ => N6 - (intOf s18).toNat)
            case atStart => exact ⟨0, Nat.zero_le _, rfl, Below.refl _ _⟩
            case round =>
              obtain ⟨i, hi, rfl, hbq⟩ := hrel
              have HBQ := Lib.hid hbq
              clear hbq
              have kT := (HKT9.out.below HBQ.out).c
              have kO := (HKO9.out.below HBQ.out).c
              by_cases hil : i < N6
              · have hilI : decide ((i : Int) < (N6 : Int)) = true := decide_eq_true (by omega)
                have hiI : (0 : Int) ≤ (i : Int) := by omega
                have hiI2 : (i : Int) < (N6 : Int) := by omega
                obtain ⟨b1, off1, rfl, hat1⟩ := Ud.un_at (l := V2.list) (by rw [HK6.out]; exact HST9.out.below HBQ.out) i (by rw [HK6.out]; exact hil)
                obtain ⟨b2, off2, rfl, hat2⟩ := Ud.un_at (l := V2.list) (by rw [HK6.out]; exact HSO9.out.below HBQ.out) i (by rw [HK6.out]; exact hil)
                obtain ⟨l0, c0, c1, c2⟩ := hat1
                obtain ⟨l0', c0', c1', c2'⟩ := hat2
                obtain ⟨⟨us, ua, uv⟩, hu⟩ : ∃ u, u = V2.list.getD i Ud.zU := ⟨_, rfl⟩
                rw [← hu] at c0 c1 c2 c0' c1' c2'
                dsimp only at c0 c1 c2 c0' c1' c2'
                clear hu
                go_upto_region 33 with fail
                refine region_plan (fun w' : World => w' = wr.drew) 10 [(0, true), (1, true), (2, true), (3, true), (4, true), (5, true), (6, true), (7, true), (8, true), (9, true)] (by kernel_rfl) (by kernel_rfl) rfl ?_
                iterate 10
                  refine plan_read (v := ?_) rfl (by rfl) ?_ ?_
                  rotate_left
                  · intro w' hS
                    try dsimp only at hS
                    go_simp
                    try with_reducible rfl
                  try simp only [Act.put, List.setIfInBounds_toArray, List.set_cons_zero, List.set_cons_succ, List.getElem_toArray, List.getElem_cons_zero, List.getElem_cons_succ]
                refine plan_nil ?_
                simp only [List.drop_succ_cons, List.drop_zero]
                go_wp2_with fail
                go_roundw
                case rel => exact ⟨i + 1, by omega, by go_num, HBQ.out.drew⟩
                case measure => simp [intOf]; omega
              · have hilI : decide ((i : Int) < (N6 : Int)) = false := decide_eq_false (by omega)
                have HUQ := Lib.hid ((HU9.out.below HBQ.out).below (Below.refl _ _).drew)
                have HLTQ := Lib.hid ((HLT9.out.below HBQ.out).below (Below.refl _ _).drew)
                have HLOQ := Lib.hid ((HLO9.out.below HBQ.out).below (Below.refl _ _).drew)
                have HKTQ := Lib.hid ((HKT9.out.below HBQ.out).below (Below.refl _ _).drew)
                have HKOQ := Lib.hid ((HKO9.out.below HBQ.out).below (Below.refl _ _).drew)
                go_upto_region 35 with fail
                obtain ⟨w10, hw10⟩ : ∃ y, y = wr.drew := ⟨_, rfl⟩
                rw [← hw10] at HUQ HLTQ HLOQ HKTQ HKOQ
                refine region_plan (fun W : World => (∀ j, W.cell? ⟨bt, j, none⟩ = (#[.slice p6 n6 c6, .slice pp6 m6 cc6, .int .i64 V2.B.lost, .int .i64 V2.words, .int .i64 s2, .slice q6 N6 d6] : Array Value)[j]?) ∧ (∀ j, W.cell? ⟨bo, j, none⟩ = (#[.slice P6 M6 C6, .int .i64 s2, .slice Q6 N6 D6] : Array Value)[j]?)) 3 [(0, true), (1, true), (2, false)] (by kernel_rfl) (by kernel_rfl) (by rw [← hw10]; exact ⟨HKTQ.out.c, HKOQ.out.c⟩) ?_
                iterate 2
                  refine plan_read (v := ?_) rfl (by rfl) ?_ ?_
                  rotate_left
                  · intro w' hS
                    try dsimp only at hS
                    go_simp
                    try with_reducible rfl
                  try simp only [Act.put, List.setIfInBounds_toArray, List.set_cons_zero, List.set_cons_succ, List.getElem_toArray, List.getElem_cons_zero, List.getElem_cons_succ]
                rw [← hw10]
                clear hw10 kT kO
                obtain ⟨pb, nb, cb, ppb, mb, ccb, qb, kb, db, hkb, -⟩ := HUQ.out.vs.vo
                obtain ⟨Pb, Mb, Cb, Qb, Nb, Db, hkm, -, -⟩ := HUQ.out.vm.lo
                have cB := hkb.c
                have fB := hkb.f
                have lB := hkb.lt
                have HKMQ : Hid (Blk (set6 w10 b (.slice p6 n6 c6) (.slice pp6 m6 cc6) (.int .i64 V2.B.lost) (.int .i64 V2.words) (.int .i64 s2) (.slice q6 N6 d6)) bm _) := Lib.hid (set6_other hkm HUQ.out.ne _ _ _ _ _ _)
                have HNEQ : Hid (b ≠ bt ∧ b ≠ bo) := Lib.hid ⟨HBT.out.2.1, HBT.out.2.2.2.2.1⟩
                show wpOp _ _ _ 2 _ _ _
                refine Ud.op_store (w1 := (((((w10.setCell ⟨b, 0, none⟩ (.slice p6 n6 c6)).setCell ⟨b, 1, none⟩ (.slice pp6 m6 cc6)).setCell ⟨b, 2, none⟩ (.int .i64 V2.B.lost)).setCell ⟨b, 3, none⟩ (.int .i64 V2.words)).setCell ⟨b, 4, none⟩ (.int .i64 s2)).setCell ⟨b, 5, none⟩ (.slice q6 N6 d6)) rfl (by rfl) (by go_simp) ⟨⟨(set6_other HKTQ.out HNEQ.out.1 _ _ _ _ _ _).c, (set6_other HKOQ.out HNEQ.out.2 _ _ _ _ _ _).c⟩, ?_⟩
                try simp only [Act.put, List.setIfInBounds_toArray, List.set_cons_zero, List.set_cons_succ, List.getElem_toArray, List.getElem_cons_zero, List.getElem_cons_succ]
                refine plan_nil ?_
                simp only [List.drop_succ_cons, List.drop_zero]
                rw [set6_eq]
                have HU11 := Lib.hid (HUQ.out.put HLTQ.out HLOQ.out)
                obtain ⟨w11, hw11⟩ : ∃ y, y = set6 w10 b (.slice p6 n6 c6) (.slice pp6 m6 cc6) (.int .i64 V2.B.lost) (.int .i64 V2.words) (.int .i64 s2) (.slice q6 N6 d6) := ⟨_, rfl⟩
                rw [← hw11] at HU11 HKMQ ⊢
                clear hw11 cB fB lB hkb hkm HUQ HLTQ HLOQ HKTQ HKOQ
                have cM := HKMQ.out.c
                have fM := HKMQ.out.f
                have lM := HKMQ.out.lt
                go_upto_region 10 with fail
                obtain ⟨w12, hw12⟩ : ∃ y, y = ((w11.setCell ⟨bm, 0, none⟩ (.slice P6 M6 C6)).setCell ⟨bm, 1, none⟩ (.int .i64 s2)).setCell ⟨bm, 2, none⟩ (.slice Q6 N6 D6) := ⟨_, rfl⟩
                rw [← hw12] at HU11 ⊢
                clear hw12 cM fM lM HKMQ
                go_wp2_with fail
                go_roundw
                case rel => exact ⟨k + 1, V2, by omega, by omega, by go_num, HI2.out, HU11.out⟩
                case measure => simp [intOf]; omega
  
        · as_aux_lemma =>
            obtain ⟨hL, hE, hR2, hl2⟩ : lgV (backV V (t : Int)) = Ud.backL (lgV V) (t : Int) ∧ backVE V (t : Int) = Ud.backE (lgV V) (t : Int) ∧ Rv (backV V (t : Int)) n bn mq ∧ (backV V (t : Int)).B.lost = 0 := HINV.out.1.back HINV.out.2 (vo_u32 HLM.out) (t : Int)
            have hq := sback_any (fun R => R < w5.heap.size) _ V (t : Int) w5 HLM.out (fun R h => h)
            obtain ⟨V2, hV2⟩ : ∃ y, y = backV V (t : Int) := ⟨_, rfl⟩
            obtain ⟨X, hX⟩ : ∃ y, y = backVE V (t : Int) := ⟨_, rfl⟩
            have HWL : Hid (∀ W, Ud.Lo (fun R => R = b ∨ R = bm ∨ wr.heap.size ≤ R) W (.agg #[.slice Pb Mb Cb, .int .i64 (lgV V).span, .slice Qb Nb Db]) (lgV V) → w5.heap.size ≤ W.heap.size → Calls Try.prog 33 #[.agg #[.slice Pb Mb Cb, .int .i64 (lgV V).span, .slice Qb Nb Db], .int .i64 (t : Int)] W fun e w' => Ud.OutL (fun R => R < w5.heap.size) W w' e (lgV V2) X) := Lib.hid (fun W h1 h2 => by
              have hq := Ud.back_any (fun R => R < w5.heap.size) _ (lgV V) (t : Int) W h1 (fun R h => Nat.lt_of_lt_of_le h h2)
              rw [← hL, ← hE, ← hV2, ← hX] at hq
              exact hq)
            rw [← hV2, ← hX] at hq
            rw [← hV2] at hR2 hl2
            have HI2 := Lib.hid (And.intro hR2 hl2)
            have HQC := Lib.hid hq
            clear hR2 hl2 hL hE hV2 hX hq
            have kB := HKM.out.c
            go_wp2_with fail
            refine HQC.out.mono ?_
            clear HQC kB
            rintro e w6 ⟨vv, rfl, hlo, hb⟩
            have HB6 : Hid (Below w5.heap.size w5 w6) := Lib.hid hb
            obtain ⟨p4, n4, c4, xs4, pp4, m4, cc4, q4, k4, d4, rfl, hcc, hoff⟩ := hlo
            have HL6 : Hid (Vo (fun R => R < w5.heap.size) w6 (.agg #[.slice p4 n4 c4, .slice pp4 m4 cc4, .int .i64 V2.B.lost, .int .i64 V2.words, .int .i64 V2.span, .slice q4 k4 d4]) V2) := Lib.hid ⟨p4, n4, c4, xs4, pp4, m4, cc4, q4, k4, d4, rfl, hcc, hoff⟩
            clear hcc hoff hb
            have HZ6 := Lib.hid (HD.out.2.1.below HB6.out)
            have HKL6 := Lib.hid (HKL.out.below HB6.out)
            have HKD6 := Lib.hid (HD.out.1.below HB6.out)
            have HZO6 := Lib.hid (HD.out.2.2.below HB6.out)
            have cZ := HZ6.out.c
            have fZ := HZ6.out.f
            have lZ := HZ6.out.lt
            have HLL7 : Hid (Ud.Lo (fun R => R = b ∨ R = bm ∨ wr.heap.size ≤ R) (set6 w6 bt (.slice p4 n4 c4) (.slice pp4 m4 cc4) (.int .i64 V2.B.lost) (.int .i64 V2.words) (.int .i64 V2.span) (.slice q4 k4 d4)) (.agg #[.slice Pb Mb Cb, .int .i64 (lgV V).span, .slice Qb Nb Db]) (lgV V)) := Lib.hid (lo_set6 (HLL.out.below HB6.out) (.inr (.inr HBT.out.2.2.2.2.2.2.2.1)) _ _ _ _ _ _)
            have HKL7 : Hid (Blk (set6 w6 bt (.slice p4 n4 c4) (.slice pp4 m4 cc4) (.int .i64 V2.B.lost) (.int .i64 V2.words) (.int .i64 V2.span) (.slice q4 k4 d4)) bm #[.slice Pb Mb Cb, .int .i64 (lgV V).span, .slice Qb Nb Db]) := Lib.hid (set6_other HKL6.out (fun e => HBT.out.2.2.1 e.symm) _ _ _ _ _ _)
            have HKD7 : Hid (Blk (set6 w6 bt (.slice p4 n4 c4) (.slice pp4 m4 cc4) (.int .i64 V2.B.lost) (.int .i64 V2.words) (.int .i64 V2.span) (.slice q4 k4 d4)) g #[.int .u8 (kd : Int), .int .u8 (a : Int), .int .u8 (t : Int), .int .u32 (v : Int)]) := Lib.hid (set6_other HKD6.out (fun e => HBT.out.1 e.symm) _ _ _ _ _ _)
            have HZO7 : Hid (Blk (set6 w6 bt (.slice p4 n4 c4) (.slice pp4 m4 cc4) (.int .i64 V2.B.lost) (.int .i64 V2.words) (.int .i64 V2.span) (.slice q4 k4 d4)) bo #[.slice none 0 0, .int .i64 0, .slice none 0 0]) := Lib.hid (set6_other HZO6.out HBT.out.2.2.2.2.2.2.1 _ _ _ _ _ _)
            have HZ7 : Hid ((set6 w6 bt (.slice p4 n4 c4) (.slice pp4 m4 cc4) (.int .i64 V2.B.lost) (.int .i64 V2.words) (.int .i64 V2.span) (.slice q4 k4 d4)).heap.size = w6.heap.size) := Lib.hid (set6_size _ _ _ _ _ _ _ _)
            go_upto_region 27 with fail
            rw [set6_eq]
            obtain ⟨w7, hw7⟩ : ∃ y, y = set6 w6 bt (.slice p4 n4 c4) (.slice pp4 m4 cc4) (.int .i64 V2.B.lost) (.int .i64 V2.words) (.int .i64 V2.span) (.slice q4 k4 d4) := ⟨_, rfl⟩
            have HW7 := Lib.hid hw7
            rw [← hw7] at HLL7 HKL7 HKD7 HZO7 HZ7 ⊢
            clear hw7 cZ fZ lZ HZ6 HKL6 HKD6 HZO6
            have HG7 : Hid (w5.heap.size ≤ w7.heap.size) := Lib.hid (by rw [HZ7.out]; exact HB6.out.size)
            clear HKM HLM HLL HKL kD
            have HWL7 := Lib.hid (HWL.out w7 HLL7.out HG7.out)
            have kB := HKL7.out.c
            have kD := HKD7.out.c
            go_wp2_with fail
            refine HWL7.out.mono ?_
            clear HWL7 kB kD
            rintro e w8 ⟨vv, rfl, hlo, hb⟩
            have HB8 : Hid (Below w7.heap.size w7 w8) := Lib.hid hb
            obtain ⟨P8, M8, C8, Q8, N8, D8, rfl, hcc, hoff⟩ := hlo
            have HL8 : Hid (Ud.Lo (fun R => R < w5.heap.size) w8 (.agg #[.slice P8 M8 C8, .int .i64 (lgV V2).span, .slice Q8 N8 D8]) (lgV V2)) := Lib.hid ⟨P8, M8, C8, Q8, N8, D8, rfl, hcc, hoff⟩
            clear hcc hoff hb
            have HO8 := Lib.hid (HZO7.out.below HB8.out)
            have cO := HO8.out.c
            have fO := HO8.out.f
            have lO := HO8.out.lt
            have HTL : Hid (TL wr (((w8.setCell ⟨bo, 0, none⟩ (.slice P8 M8 C8)).setCell ⟨bo, 1, none⟩ (.int .i64 (lgV V2).span)).setCell ⟨bo, 2, none⟩ (.slice Q8 N8 D8)) b bm bt bo V2) := Lib.hid (TL.make HD.out.2.1 HD.out.2.2 HB5.out HBT.out.2.2.2.2.2.2.2 HBT.out.2.2.2.2.2.2.1 ⟨HGB.out.2.2.1, HGB.out.2.2.2.1⟩ HB6.out HL6.out (by rw [← HW7.out, ← HZ7.out]; exact HB8.out) HL8.out)
            go_upto_region 28 with fail
            obtain ⟨wc, hwc⟩ : ∃ y, y = ((w8.setCell ⟨bo, 0, none⟩ (.slice P8 M8 C8)).setCell ⟨bo, 1, none⟩ (.int .i64 (lgV V2).span)).setCell ⟨bo, 2, none⟩ (.slice Q8 N8 D8) := ⟨_, rfl⟩
            rw [← hwc] at HTL ⊢
            clear hwc cO fO lO HO8 HB8 HL8 HWL HLL7 HKL7 HKD7 HZO7 HB6 HL6 HD HINV HB5 er
            obtain ⟨p6, n6, c6, pp6, m6, cc6, q6, k6, d6, hkt, hlt⟩ := HTL.out.vt.vo
            obtain ⟨P6, M6, C6, Q6, N6, D6, hko, hlo, hlc⟩ := HTL.out.vo.lo
            obtain ⟨s2, hs2⟩ : ∃ y, y = V2.span := ⟨_, rfl⟩
            have hs3 : (lgV V2).span = s2 := hs2.symm
            have hM6 : M6 = n := hlc.ml.symm.trans HI2.out.1.ml
            have hk6 : V2.list.length = k6 := by
              obtain ⟨p', n', c', xs', pp', m', cc', q', k', d', e, hc, _⟩ := hlt
              injection e with e
              simp at e
              have := hc.ll
              omega
            have hN6 : N6 = k6 := hlc.ll.symm.trans hk6
            subst hM6 hN6
            rw [← hs2] at hkt hlt
            rw [hs3] at hko hlo
            have HK6 := Lib.hid hk6
            have hk10 : N6 ≤ 10000 := hlc.n10
            have HSO : Hid (Sl wc Q6 N6 (Ud.unC V2.list)) := Lib.hid hlc.ls
            have HMO : Hid (Sl wc P6 M6 (Ud.wdC (wordsV V2))) := Lib.hid (by rw [rv_words HI2.out.1]; exact hlc.ms)
            have HST : Hid (Sl wc q6 N6 (Ud.unC V2.list)) := Lib.hid (by
              obtain ⟨p', n', c', xs', pp', m', cc', q', k', d', e, hc, _⟩ := hlt
              injection e with e
              simp at e
              obtain ⟨-, -, -, rfl, rfl, rfl⟩ := e
              exact hc.ls)
            have HKT := Lib.hid hkt
            have HLT := Lib.hid hlt
            have HKO := Lib.hid hko
            have HLO := Lib.hid hlo
            clear hkt hlt hko hlo hlc hs2 hs3 hk6
            have HWO : Hid (Calls Try.prog 22 #[.agg #[.slice p6 n6 c6, .slice pp6 m6 cc6, .int .i64 V2.B.lost, .int .i64 V2.words, .int .i64 s2, .slice q6 N6 d6]] wc.drew fun e w' => ∃ r, e = .returned r ∧ w'.ownsRow wc.heap.size 29 1 r M6 (Ud.wdC (wordsV V2)) ∧ Below wc.heap.size wc w') := Lib.hid ((swords_any _ _ V2 wc.drew (HLT.out.below (Below.refl _ _).drew)).mono (by
              rintro e w' ⟨r, h1, h2, h3⟩
              rw [show (wordsV V2).length = M6 by rw [rv_words HI2.out.1, HI2.out.1.ml]] at h2
              exact ⟨r, h1, h2, (Below.refl _ _).drew.trans h3⟩))
            have HS0 : Hid (∀ W, Below wc.heap.size wc W → (∀ j, W.cell? ⟨bt, j, none⟩ = (#[.slice p6 n6 c6, .slice pp6 m6 cc6, .int .i64 V2.B.lost, .int .i64 V2.words, .int .i64 s2, .slice q6 N6 d6] : Array Value)[j]?) ∧ (∀ j, W.cell? ⟨bo, j, none⟩ = (#[.slice P6 M6 C6, .int .i64 s2, .slice Q6 N6 D6] : Array Value)[j]?)) := Lib.hid (fun W hb => ⟨(HKT.out.below hb).c, (HKO.out.below hb).c⟩)
            refine region_plan (fun W : World => (∀ j, W.cell? ⟨bt, j, none⟩ = (#[.slice p6 n6 c6, .slice pp6 m6 cc6, .int .i64 V2.B.lost, .int .i64 V2.words, .int .i64 s2, .slice q6 N6 d6] : Array Value)[j]?) ∧ (∀ j, W.cell? ⟨bo, j, none⟩ = (#[.slice P6 M6 C6, .int .i64 s2, .slice Q6 N6 D6] : Array Value)[j]?)) 25 [(0, true), (1, true), (2, true), (3, true), (4, true), (6, true), (7, true), (5, false), (8, false), (9, true), (10, true), (11, true), (12, true), (13, true), (14, true), (15, true), (16, true), (17, true), (18, true), (19, true), (20, true), (21, true), (22, true), (23, true), (24, true)] (by kernel_rfl) (by kernel_rfl) (HS0.out _ (Below.refl _ _).drew) ?_
            iterate 7
              refine plan_read (v := ?_) rfl (by rfl) ?_ ?_
              rotate_left
              · intro w' hS
                try dsimp only at hS
                go_simp
                try with_reducible rfl
              try simp only [Act.put, List.setIfInBounds_toArray, List.set_cons_zero, List.set_cons_succ, List.getElem_toArray, List.getElem_cons_zero, List.getElem_cons_succ]
            refine plan_call (F := 22) (args := ?_) rfl (by rfl) ?_ ?_
            rotate_left
            · go_simp
              rfl
            refine (HWO.out).mono ?_
            rintro e w8 ⟨r, rfl, hrr, hb⟩
            obtain ⟨p5, c5, rfl, _⟩ := own_cap hrr
            have HRR := Lib.hid hrr
            have HB8 := Lib.hid hb
            clear hrr hb
            refine ⟨_, rfl, HS0.out _ HB8.out, ?_⟩
            try simp only [Act.put, List.setIfInBounds_toArray, List.set_cons_zero, List.set_cons_succ, List.getElem_toArray, List.getElem_cons_zero, List.getElem_cons_succ]
            have HWD : Hid (Calls Try.prog 21 #[.slice p5 M6 c5, .slice P6 M6 C6] w8 fun e w' => e = .returned (.bool true) ∧ Below w8.heap.size w8 w') := Lib.hid (by
              obtain ⟨p', c', e, hs⟩ := Sl.own HRR.out
              injection e with e1 e2 e3
              subst e1 e3
              have hl : (wordsV V2).length = M6 := by rw [rv_words HI2.out.1, HI2.out.1.ml]
              have := Ud.words_any p5 P6 c5 C6 (wordsV V2) w8 (by rw [hl]; exact hs) (by rw [hl]; exact HMO.out.below HB8.out) (by rw [hl]; omega)
              rw [hl] at this
              exact this)
            refine plan_call (F := 21) (args := ?_) rfl (by rfl) ?_ ?_
            rotate_left
            · go_simp
              rfl
            refine (HWD.out).mono ?_
            rintro e w9 ⟨rfl, hb⟩
            have HB9 : Hid (Below wc.heap.size wc w9) := Lib.hid (HB8.out.trans (hb.mono HB8.out.size))
            clear hb
            refine ⟨_, rfl, HS0.out _ HB9.out, ?_⟩
            try simp only [Act.put, List.setIfInBounds_toArray, List.set_cons_zero, List.set_cons_succ, List.getElem_toArray, List.getElem_cons_zero, List.getElem_cons_succ]
            iterate 16
              refine plan_read (v := ?_) rfl (by rfl) ?_ ?_
              rotate_left
              · intro w' hS
                try dsimp only at hS
                go_simp
                try with_reducible rfl
              try simp only [Act.put, List.setIfInBounds_toArray, List.set_cons_zero, List.set_cons_succ, List.getElem_toArray, List.getElem_cons_zero, List.getElem_cons_succ]
            refine plan_nil ?_
            simp only [List.drop_succ_cons, List.drop_zero]
            have HKT9 := Lib.hid (HKT.out.below HB9.out)
            have HKO9 := Lib.hid (HKO.out.below HB9.out)
            have HLT9 := Lib.hid (HLT.out.below HB9.out)
            have HLO9 := Lib.hid (HLO.out.below HB9.out)
            have HST9 := Lib.hid (HST.out.below HB9.out)
            have HSO9 := Lib.hid (HSO.out.below HB9.out)
            have HU9 := Lib.hid (HUB.out.below (HTL.out.hb.trans (HB9.out.mono HTL.out.hb.size)))
            clear HS0 HWO HWD HRR HB8 HB9 HMO HKT HKO HLT HLO HST HSO HTL
            go_wp2_with fail
            go_loopw [18] (fun s18 wq => ∃ i : Nat, i ≤ N6 ∧ s18 = .int .i64 i ∧ Below w9.heap.size w9 wq) (fun s18 _ => N6 - (intOf s18).toNat)
            case atStart => exact ⟨0, Nat.zero_le _, rfl, Below.refl _ _⟩
            case round =>
              obtain ⟨i, hi, rfl, hbq⟩ := hrel
              have HBQ := Lib.hid hbq
              clear hbq
              have kT := (HKT9.out.below HBQ.out).c
              have kO := (HKO9.out.below HBQ.out).c
              by_cases hil : i < N6
              · have hilI : decide ((i : Int) < (N6 : Int)) = true := decide_eq_true (by omega)
                have hiI : (0 : Int) ≤ (i : Int) := by omega
                have hiI2 : (i : Int) < (N6 : Int) := by omega
                obtain ⟨b1, off1, rfl, hat1⟩ := Ud.un_at (l := V2.list) (by rw [HK6.out]; exact HST9.out.below HBQ.out) i (by rw [HK6.out]; exact hil)
                obtain ⟨b2, off2, rfl, hat2⟩ := Ud.un_at (l := V2.list) (by rw [HK6.out]; exact HSO9.out.below HBQ.out) i (by rw [HK6.out]; exact hil)
                obtain ⟨l0, c0, c1, c2⟩ := hat1
                obtain ⟨l0', c0', c1', c2'⟩ := hat2
                obtain ⟨⟨us, ua, uv⟩, hu⟩ : ∃ u, u = V2.list.getD i Ud.zU := ⟨_, rfl⟩
                rw [← hu] at c0 c1 c2 c0' c1' c2'
                dsimp only at c0 c1 c2 c0' c1' c2'
                clear hu
                go_upto_region 33 with fail
                refine region_plan (fun w' : World => w' = wr.drew) 10 [(0, true), (1, true), (2, true), (3, true), (4, true), (5, true), (6, true), (7, true), (8, true), (9, true)] (by kernel_rfl) (by kernel_rfl) rfl ?_
                iterate 10
                  refine plan_read (v := ?_) rfl (by rfl) ?_ ?_
                  rotate_left
                  · intro w' hS
                    try dsimp only at hS
                    go_simp
                    try with_reducible rfl
                  try simp only [Act.put, List.setIfInBounds_toArray, List.set_cons_zero, List.set_cons_succ, List.getElem_toArray, List.getElem_cons_zero, List.getElem_cons_succ]
                refine plan_nil ?_
                simp only [List.drop_succ_cons, List.drop_zero]
                go_wp2_with fail
                go_roundw
                case rel => exact ⟨i + 1, by omega, by go_num, HBQ.out.drew⟩
                case measure => simp [intOf]; omega
              · have hilI : decide ((i : Int) < (N6 : Int)) = false := decide_eq_false (by omega)
                have HUQ := Lib.hid ((HU9.out.below HBQ.out).below (Below.refl _ _).drew)
                have HLTQ := Lib.hid ((HLT9.out.below HBQ.out).below (Below.refl _ _).drew)
                have HLOQ := Lib.hid ((HLO9.out.below HBQ.out).below (Below.refl _ _).drew)
                have HKTQ := Lib.hid ((HKT9.out.below HBQ.out).below (Below.refl _ _).drew)
                have HKOQ := Lib.hid ((HKO9.out.below HBQ.out).below (Below.refl _ _).drew)
                go_upto_region 35 with fail
                obtain ⟨w10, hw10⟩ : ∃ y, y = wr.drew := ⟨_, rfl⟩
                rw [← hw10] at HUQ HLTQ HLOQ HKTQ HKOQ
                refine region_plan (fun W : World => (∀ j, W.cell? ⟨bt, j, none⟩ = (#[.slice p6 n6 c6, .slice pp6 m6 cc6, .int .i64 V2.B.lost, .int .i64 V2.words, .int .i64 s2, .slice q6 N6 d6] : Array Value)[j]?) ∧ (∀ j, W.cell? ⟨bo, j, none⟩ = (#[.slice P6 M6 C6, .int .i64 s2, .slice Q6 N6 D6] : Array Value)[j]?)) 3 [(0, true), (1, true), (2, false)] (by kernel_rfl) (by kernel_rfl) (by rw [← hw10]; exact ⟨HKTQ.out.c, HKOQ.out.c⟩) ?_
                iterate 2
                  refine plan_read (v := ?_) rfl (by rfl) ?_ ?_
                  rotate_left
                  · intro w' hS
                    try dsimp only at hS
                    go_simp
                    try with_reducible rfl
                  try simp only [Act.put, List.setIfInBounds_toArray, List.set_cons_zero, List.set_cons_succ, List.getElem_toArray, List.getElem_cons_zero, List.getElem_cons_succ]
                rw [← hw10]
                clear hw10 kT kO
                obtain ⟨pb, nb, cb, ppb, mb, ccb, qb, kb, db, hkb, -⟩ := HUQ.out.vs.vo
                obtain ⟨Pb, Mb, Cb, Qb, Nb, Db, hkm, -, -⟩ := HUQ.out.vm.lo
                have cB := hkb.c
                have fB := hkb.f
                have lB := hkb.lt
                have HKMQ : Hid (Blk (set6 w10 b (.slice p6 n6 c6) (.slice pp6 m6 cc6) (.int .i64 V2.B.lost) (.int .i64 V2.words) (.int .i64 s2) (.slice q6 N6 d6)) bm _) := Lib.hid (set6_other hkm HUQ.out.ne _ _ _ _ _ _)
                have HNEQ : Hid (b ≠ bt ∧ b ≠ bo) := Lib.hid ⟨HBT.out.2.1, HBT.out.2.2.2.2.1⟩
                show wpOp _ _ _ 2 _ _ _
                refine Ud.op_store (w1 := (((((w10.setCell ⟨b, 0, none⟩ (.slice p6 n6 c6)).setCell ⟨b, 1, none⟩ (.slice pp6 m6 cc6)).setCell ⟨b, 2, none⟩ (.int .i64 V2.B.lost)).setCell ⟨b, 3, none⟩ (.int .i64 V2.words)).setCell ⟨b, 4, none⟩ (.int .i64 s2)).setCell ⟨b, 5, none⟩ (.slice q6 N6 d6)) rfl (by rfl) (by go_simp) ⟨⟨(set6_other HKTQ.out HNEQ.out.1 _ _ _ _ _ _).c, (set6_other HKOQ.out HNEQ.out.2 _ _ _ _ _ _).c⟩, ?_⟩
                try simp only [Act.put, List.setIfInBounds_toArray, List.set_cons_zero, List.set_cons_succ, List.getElem_toArray, List.getElem_cons_zero, List.getElem_cons_succ]
                refine plan_nil ?_
                simp only [List.drop_succ_cons, List.drop_zero]
                rw [set6_eq]
                have HU11 := Lib.hid (HUQ.out.put HLTQ.out HLOQ.out)
                obtain ⟨w11, hw11⟩ : ∃ y, y = set6 w10 b (.slice p6 n6 c6) (.slice pp6 m6 cc6) (.int .i64 V2.B.lost) (.int .i64 V2.words) (.int .i64 s2) (.slice q6 N6 d6) := ⟨_, rfl⟩
                rw [← hw11] at HU11 HKMQ ⊢
                clear hw11 cB fB lB hkb hkm HUQ HLTQ HLOQ HKTQ HKOQ
                have cM := HKMQ.out.c
                have fM := HKMQ.out.f
                have lM := HKMQ.out.lt
                go_upto_region 10 with fail
                obtain ⟨w12, hw12⟩ : ∃ y, y = ((w11.setCell ⟨bm, 0, none⟩ (.slice P6 M6 C6)).setCell ⟨bm, 1, none⟩ (.int .i64 s2)).setCell ⟨bm, 2, none⟩ (.slice Q6 N6 D6) := ⟨_, rfl⟩
                rw [← hw12] at HU11 ⊢
                clear hw12 cM fM lM HKMQ
                go_wp2_with fail
                go_roundw
                case rel => exact ⟨k + 1, V2, by omega, by omega, by go_num, HI2.out, HU11.out⟩
                case measure => simp [intOf]; omega
  
        · as_aux_lemma =>
            obtain ⟨hL, hE, hR2, hl2⟩ : lgV (trimV V (t : Int)) = Ud.trimL (lgV V) (t : Int) ∧ trimVE V (t : Int) = Ud.backE (lgV V) (t : Int) ∧ Rv (trimV V (t : Int)) n bn mq ∧ (trimV V (t : Int)).B.lost = 0 := ⟨(HINV.out.1.trim (t : Int)).1, (HINV.out.1.trim (t : Int)).2.1, (HINV.out.1.trim (t : Int)).2.2.1, by rw [(HINV.out.1.trim (t : Int)).2.2.2]; exact HINV.out.2⟩
            have hq := strim_any (fun R => R < w5.heap.size) _ V (t : Int) w5 HLM.out (fun R h => h)
            obtain ⟨V2, hV2⟩ : ∃ y, y = trimV V (t : Int) := ⟨_, rfl⟩
            obtain ⟨X, hX⟩ : ∃ y, y = trimVE V (t : Int) := ⟨_, rfl⟩
            have HWL : Hid (∀ W, Ud.Lo (fun R => R = b ∨ R = bm ∨ wr.heap.size ≤ R) W (.agg #[.slice Pb Mb Cb, .int .i64 (lgV V).span, .slice Qb Nb Db]) (lgV V) → w5.heap.size ≤ W.heap.size → Calls Try.prog 34 #[.agg #[.slice Pb Mb Cb, .int .i64 (lgV V).span, .slice Qb Nb Db], .int .i64 (t : Int)] W fun e w' => Ud.OutL (fun R => R < w5.heap.size) W w' e (lgV V2) X) := Lib.hid (fun W h1 h2 => by
              have hq := Ud.trim_any (fun R => R < w5.heap.size) _ (lgV V) (t : Int) W h1 (fun R h => Nat.lt_of_lt_of_le h h2)
              rw [← hL, ← hE, ← hV2, ← hX] at hq
              exact hq)
            rw [← hV2, ← hX] at hq
            rw [← hV2] at hR2 hl2
            have HI2 := Lib.hid (And.intro hR2 hl2)
            have HQC := Lib.hid hq
            clear hR2 hl2 hL hE hV2 hX hq
            have kB := HKM.out.c
            go_wp2_with fail
            refine HQC.out.mono ?_
            clear HQC kB
            rintro e w6 ⟨vv, rfl, hlo, hb⟩
            have HB6 : Hid (Below w5.heap.size w5 w6) := Lib.hid hb
            obtain ⟨p4, n4, c4, xs4, pp4, m4, cc4, q4, k4, d4, rfl, hcc, hoff⟩ := hlo
            have HL6 : Hid (Vo (fun R => R < w5.heap.size) w6 (.agg #[.slice p4 n4 c4, .slice pp4 m4 cc4, .int .i64 V2.B.lost, .int .i64 V2.words, .int .i64 V2.span, .slice q4 k4 d4]) V2) := Lib.hid ⟨p4, n4, c4, xs4, pp4, m4, cc4, q4, k4, d4, rfl, hcc, hoff⟩
            clear hcc hoff hb
            have HZ6 := Lib.hid (HD.out.2.1.below HB6.out)
            have HKL6 := Lib.hid (HKL.out.below HB6.out)
            have HKD6 := Lib.hid (HD.out.1.below HB6.out)
            have HZO6 := Lib.hid (HD.out.2.2.below HB6.out)
            have cZ := HZ6.out.c
            have fZ := HZ6.out.f
            have lZ := HZ6.out.lt
            have HLL7 : Hid (Ud.Lo (fun R => R = b ∨ R = bm ∨ wr.heap.size ≤ R) (set6 w6 bt (.slice p4 n4 c4) (.slice pp4 m4 cc4) (.int .i64 V2.B.lost) (.int .i64 V2.words) (.int .i64 V2.span) (.slice q4 k4 d4)) (.agg #[.slice Pb Mb Cb, .int .i64 (lgV V).span, .slice Qb Nb Db]) (lgV V)) := Lib.hid (lo_set6 (HLL.out.below HB6.out) (.inr (.inr HBT.out.2.2.2.2.2.2.2.1)) _ _ _ _ _ _)
            have HKL7 : Hid (Blk (set6 w6 bt (.slice p4 n4 c4) (.slice pp4 m4 cc4) (.int .i64 V2.B.lost) (.int .i64 V2.words) (.int .i64 V2.span) (.slice q4 k4 d4)) bm #[.slice Pb Mb Cb, .int .i64 (lgV V).span, .slice Qb Nb Db]) := Lib.hid (set6_other HKL6.out (fun e => HBT.out.2.2.1 e.symm) _ _ _ _ _ _)
            have HKD7 : Hid (Blk (set6 w6 bt (.slice p4 n4 c4) (.slice pp4 m4 cc4) (.int .i64 V2.B.lost) (.int .i64 V2.words) (.int .i64 V2.span) (.slice q4 k4 d4)) g #[.int .u8 (kd : Int), .int .u8 (a : Int), .int .u8 (t : Int), .int .u32 (v : Int)]) := Lib.hid (set6_other HKD6.out (fun e => HBT.out.1 e.symm) _ _ _ _ _ _)
            have HZO7 : Hid (Blk (set6 w6 bt (.slice p4 n4 c4) (.slice pp4 m4 cc4) (.int .i64 V2.B.lost) (.int .i64 V2.words) (.int .i64 V2.span) (.slice q4 k4 d4)) bo #[.slice none 0 0, .int .i64 0, .slice none 0 0]) := Lib.hid (set6_other HZO6.out HBT.out.2.2.2.2.2.2.1 _ _ _ _ _ _)
            have HZ7 : Hid ((set6 w6 bt (.slice p4 n4 c4) (.slice pp4 m4 cc4) (.int .i64 V2.B.lost) (.int .i64 V2.words) (.int .i64 V2.span) (.slice q4 k4 d4)).heap.size = w6.heap.size) := Lib.hid (set6_size _ _ _ _ _ _ _ _)
            go_upto_region 17 with fail
            rw [set6_eq]
            obtain ⟨w7, hw7⟩ : ∃ y, y = set6 w6 bt (.slice p4 n4 c4) (.slice pp4 m4 cc4) (.int .i64 V2.B.lost) (.int .i64 V2.words) (.int .i64 V2.span) (.slice q4 k4 d4) := ⟨_, rfl⟩
            have HW7 := Lib.hid hw7
            rw [← hw7] at HLL7 HKL7 HKD7 HZO7 HZ7 ⊢
            clear hw7 cZ fZ lZ HZ6 HKL6 HKD6 HZO6
            have HG7 : Hid (w5.heap.size ≤ w7.heap.size) := Lib.hid (by rw [HZ7.out]; exact HB6.out.size)
            clear HKM HLM HLL HKL kD
            have HWL7 := Lib.hid (HWL.out w7 HLL7.out HG7.out)
            have kB := HKL7.out.c
            have kD := HKD7.out.c
            go_wp2_with fail
            refine HWL7.out.mono ?_
            clear HWL7 kB kD
            rintro e w8 ⟨vv, rfl, hlo, hb⟩
            have HB8 : Hid (Below w7.heap.size w7 w8) := Lib.hid hb
            obtain ⟨P8, M8, C8, Q8, N8, D8, rfl, hcc, hoff⟩ := hlo
            have HL8 : Hid (Ud.Lo (fun R => R < w5.heap.size) w8 (.agg #[.slice P8 M8 C8, .int .i64 (lgV V2).span, .slice Q8 N8 D8]) (lgV V2)) := Lib.hid ⟨P8, M8, C8, Q8, N8, D8, rfl, hcc, hoff⟩
            clear hcc hoff hb
            have HO8 := Lib.hid (HZO7.out.below HB8.out)
            have cO := HO8.out.c
            have fO := HO8.out.f
            have lO := HO8.out.lt
            have HTL : Hid (TL wr (((w8.setCell ⟨bo, 0, none⟩ (.slice P8 M8 C8)).setCell ⟨bo, 1, none⟩ (.int .i64 (lgV V2).span)).setCell ⟨bo, 2, none⟩ (.slice Q8 N8 D8)) b bm bt bo V2) := Lib.hid (TL.make HD.out.2.1 HD.out.2.2 HB5.out HBT.out.2.2.2.2.2.2.2 HBT.out.2.2.2.2.2.2.1 ⟨HGB.out.2.2.1, HGB.out.2.2.2.1⟩ HB6.out HL6.out (by rw [← HW7.out, ← HZ7.out]; exact HB8.out) HL8.out)
            go_upto_region 28 with fail
            obtain ⟨wc, hwc⟩ : ∃ y, y = ((w8.setCell ⟨bo, 0, none⟩ (.slice P8 M8 C8)).setCell ⟨bo, 1, none⟩ (.int .i64 (lgV V2).span)).setCell ⟨bo, 2, none⟩ (.slice Q8 N8 D8) := ⟨_, rfl⟩
            rw [← hwc] at HTL ⊢
            clear hwc cO fO lO HO8 HB8 HL8 HWL HLL7 HKL7 HKD7 HZO7 HB6 HL6 HD HINV HB5 er
            obtain ⟨p6, n6, c6, pp6, m6, cc6, q6, k6, d6, hkt, hlt⟩ := HTL.out.vt.vo
            obtain ⟨P6, M6, C6, Q6, N6, D6, hko, hlo, hlc⟩ := HTL.out.vo.lo
            obtain ⟨s2, hs2⟩ : ∃ y, y = V2.span := ⟨_, rfl⟩
            have hs3 : (lgV V2).span = s2 := hs2.symm
            have hM6 : M6 = n := hlc.ml.symm.trans HI2.out.1.ml
            have hk6 : V2.list.length = k6 := by
              obtain ⟨p', n', c', xs', pp', m', cc', q', k', d', e, hc, _⟩ := hlt
              injection e with e
              simp at e
              have := hc.ll
              omega
            have hN6 : N6 = k6 := hlc.ll.symm.trans hk6
            subst hM6 hN6
            rw [← hs2] at hkt hlt
            rw [hs3] at hko hlo
            have HK6 := Lib.hid hk6
            have hk10 : N6 ≤ 10000 := hlc.n10
            have HSO : Hid (Sl wc Q6 N6 (Ud.unC V2.list)) := Lib.hid hlc.ls
            have HMO : Hid (Sl wc P6 M6 (Ud.wdC (wordsV V2))) := Lib.hid (by rw [rv_words HI2.out.1]; exact hlc.ms)
            have HST : Hid (Sl wc q6 N6 (Ud.unC V2.list)) := Lib.hid (by
              obtain ⟨p', n', c', xs', pp', m', cc', q', k', d', e, hc, _⟩ := hlt
              injection e with e
              simp at e
              obtain ⟨-, -, -, rfl, rfl, rfl⟩ := e
              exact hc.ls)
            have HKT := Lib.hid hkt
            have HLT := Lib.hid hlt
            have HKO := Lib.hid hko
            have HLO := Lib.hid hlo
            clear hkt hlt hko hlo hlc hs2 hs3 hk6
            have HWO : Hid (Calls Try.prog 22 #[.agg #[.slice p6 n6 c6, .slice pp6 m6 cc6, .int .i64 V2.B.lost, .int .i64 V2.words, .int .i64 s2, .slice q6 N6 d6]] wc.drew fun e w' => ∃ r, e = .returned r ∧ w'.ownsRow wc.heap.size 29 1 r M6 (Ud.wdC (wordsV V2)) ∧ Below wc.heap.size wc w') := Lib.hid ((swords_any _ _ V2 wc.drew (HLT.out.below (Below.refl _ _).drew)).mono (by
              rintro e w' ⟨r, h1, h2, h3⟩
              rw [show (wordsV V2).length = M6 by rw [rv_words HI2.out.1, HI2.out.1.ml]] at h2
              exact ⟨r, h1, h2, (Below.refl _ _).drew.trans h3⟩))
            have HS0 : Hid (∀ W, Below wc.heap.size wc W → (∀ j, W.cell? ⟨bt, j, none⟩ = (#[.slice p6 n6 c6, .slice pp6 m6 cc6, .int .i64 V2.B.lost, .int .i64 V2.words, .int .i64 s2, .slice q6 N6 d6] : Array Value)[j]?) ∧ (∀ j, W.cell? ⟨bo, j, none⟩ = (#[.slice P6 M6 C6, .int .i64 s2, .slice Q6 N6 D6] : Array Value)[j]?)) := Lib.hid (fun W hb => ⟨(HKT.out.below hb).c, (HKO.out.below hb).c⟩)
            refine region_plan (fun W : World => (∀ j, W.cell? ⟨bt, j, none⟩ = (#[.slice p6 n6 c6, .slice pp6 m6 cc6, .int .i64 V2.B.lost, .int .i64 V2.words, .int .i64 s2, .slice q6 N6 d6] : Array Value)[j]?) ∧ (∀ j, W.cell? ⟨bo, j, none⟩ = (#[.slice P6 M6 C6, .int .i64 s2, .slice Q6 N6 D6] : Array Value)[j]?)) 25 [(0, true), (1, true), (2, true), (3, true), (4, true), (6, true), (7, true), (5, false), (8, false), (9, true), (10, true), (11, true), (12, true), (13, true), (14, true), (15, true), (16, true), (17, true), (18, true), (19, true), (20, true), (21, true), (22, true), (23, true), (24, true)] (by kernel_rfl) (by kernel_rfl) (HS0.out _ (Below.refl _ _).drew) ?_
            iterate 7
              refine plan_read (v := ?_) rfl (by rfl) ?_ ?_
              rotate_left
              · intro w' hS
                try dsimp only at hS
                go_simp
                try with_reducible rfl
              try simp only [Act.put, List.setIfInBounds_toArray, List.set_cons_zero, List.set_cons_succ, List.getElem_toArray, List.getElem_cons_zero, List.getElem_cons_succ]
            refine plan_call (F := 22) (args := ?_) rfl (by rfl) ?_ ?_
            rotate_left
            · go_simp
              rfl
            refine (HWO.out).mono ?_
            rintro e w8 ⟨r, rfl, hrr, hb⟩
            obtain ⟨p5, c5, rfl, _⟩ := own_cap hrr
            have HRR := Lib.hid hrr
            have HB8 := Lib.hid hb
            clear hrr hb
            refine ⟨_, rfl, HS0.out _ HB8.out, ?_⟩
            try simp only [Act.put, List.setIfInBounds_toArray, List.set_cons_zero, List.set_cons_succ, List.getElem_toArray, List.getElem_cons_zero, List.getElem_cons_succ]
            have HWD : Hid (Calls Try.prog 21 #[.slice p5 M6 c5, .slice P6 M6 C6] w8 fun e w' => e = .returned (.bool true) ∧ Below w8.heap.size w8 w') := Lib.hid (by
              obtain ⟨p', c', e, hs⟩ := Sl.own HRR.out
              injection e with e1 e2 e3
              subst e1 e3
              have hl : (wordsV V2).length = M6 := by rw [rv_words HI2.out.1, HI2.out.1.ml]
              have := Ud.words_any p5 P6 c5 C6 (wordsV V2) w8 (by rw [hl]; exact hs) (by rw [hl]; exact HMO.out.below HB8.out) (by rw [hl]; omega)
              rw [hl] at this
              exact this)
            refine plan_call (F := 21) (args := ?_) rfl (by rfl) ?_ ?_
            rotate_left
            · go_simp
              rfl
            refine (HWD.out).mono ?_
            rintro e w9 ⟨rfl, hb⟩
            have HB9 : Hid (Below wc.heap.size wc w9) := Lib.hid (HB8.out.trans (hb.mono HB8.out.size))
            clear hb
            refine ⟨_, rfl, HS0.out _ HB9.out, ?_⟩
            try simp only [Act.put, List.setIfInBounds_toArray, List.set_cons_zero, List.set_cons_succ, List.getElem_toArray, List.getElem_cons_zero, List.getElem_cons_succ]
            iterate 16
              refine plan_read (v := ?_) rfl (by rfl) ?_ ?_
              rotate_left
              · intro w' hS
                try dsimp only at hS
                go_simp
                try with_reducible rfl
              try simp only [Act.put, List.setIfInBounds_toArray, List.set_cons_zero, List.set_cons_succ, List.getElem_toArray, List.getElem_cons_zero, List.getElem_cons_succ]
            refine plan_nil ?_
            simp only [List.drop_succ_cons, List.drop_zero]
            have HKT9 := Lib.hid (HKT.out.below HB9.out)
            have HKO9 := Lib.hid (HKO.out.below HB9.out)
            have HLT9 := Lib.hid (HLT.out.below HB9.out)
            have HLO9 := Lib.hid (HLO.out.below HB9.out)
            have HST9 := Lib.hid (HST.out.below HB9.out)
            have HSO9 := Lib.hid (HSO.out.below HB9.out)
            have HU9 := Lib.hid (HUB.out.below (HTL.out.hb.trans (HB9.out.mono HTL.out.hb.size)))
            clear HS0 HWO HWD HRR HB8 HB9 HMO HKT HKO HLT HLO HST HSO HTL
            go_wp2_with fail
            go_loopw [18] (fun s18 wq => ∃ i : Nat, i ≤ N6 ∧ s18 = .int .i64 i ∧ Below w9.heap.size w9 wq) (fun s18 _ => N6 - (intOf s18).toNat)
            case atStart => exact ⟨0, Nat.zero_le _, rfl, Below.refl _ _⟩
            case round =>
              obtain ⟨i, hi, rfl, hbq⟩ := hrel
              have HBQ := Lib.hid hbq
              clear hbq
              have kT := (HKT9.out.below HBQ.out).c
              have kO := (HKO9.out.below HBQ.out).c
              by_cases hil : i < N6
              · have hilI : decide ((i : Int) < (N6 : Int)) = true := decide_eq_true (by omega)
                have hiI : (0 : Int) ≤ (i : Int) := by omega
                have hiI2 : (i : Int) < (N6 : Int) := by omega
                obtain ⟨b1, off1, rfl, hat1⟩ := Ud.un_at (l := V2.list) (by rw [HK6.out]; exact HST9.out.below HBQ.out) i (by rw [HK6.out]; exact hil)
                obtain ⟨b2, off2, rfl, hat2⟩ := Ud.un_at (l := V2.list) (by rw [HK6.out]; exact HSO9.out.below HBQ.out) i (by rw [HK6.out]; exact hil)
                obtain ⟨l0, c0, c1, c2⟩ := hat1
                obtain ⟨l0', c0', c1', c2'⟩ := hat2
                obtain ⟨⟨us, ua, uv⟩, hu⟩ : ∃ u, u = V2.list.getD i Ud.zU := ⟨_, rfl⟩
                rw [← hu] at c0 c1 c2 c0' c1' c2'
                dsimp only at c0 c1 c2 c0' c1' c2'
                clear hu
                go_upto_region 33 with fail
                refine region_plan (fun w' : World => w' = wr.drew) 10 [(0, true), (1, true), (2, true), (3, true), (4, true), (5, true), (6, true), (7, true), (8, true), (9, true)] (by kernel_rfl) (by kernel_rfl) rfl ?_
                iterate 10
                  refine plan_read (v := ?_) rfl (by rfl) ?_ ?_
                  rotate_left
                  · intro w' hS
                    try dsimp only at hS
                    go_simp
                    try with_reducible rfl
                  try simp only [Act.put, List.setIfInBounds_toArray, List.set_cons_zero, List.set_cons_succ, List.getElem_toArray, List.getElem_cons_zero, List.getElem_cons_succ]
                refine plan_nil ?_
                simp only [List.drop_succ_cons, List.drop_zero]
                go_wp2_with fail
                go_roundw
                case rel => exact ⟨i + 1, by omega, by go_num, HBQ.out.drew⟩
                case measure => simp [intOf]; omega
              · have hilI : decide ((i : Int) < (N6 : Int)) = false := decide_eq_false (by omega)
                have HUQ := Lib.hid ((HU9.out.below HBQ.out).below (Below.refl _ _).drew)
                have HLTQ := Lib.hid ((HLT9.out.below HBQ.out).below (Below.refl _ _).drew)
                have HLOQ := Lib.hid ((HLO9.out.below HBQ.out).below (Below.refl _ _).drew)
                have HKTQ := Lib.hid ((HKT9.out.below HBQ.out).below (Below.refl _ _).drew)
                have HKOQ := Lib.hid ((HKO9.out.below HBQ.out).below (Below.refl _ _).drew)
                go_upto_region 35 with fail
                obtain ⟨w10, hw10⟩ : ∃ y, y = wr.drew := ⟨_, rfl⟩
                rw [← hw10] at HUQ HLTQ HLOQ HKTQ HKOQ
                refine region_plan (fun W : World => (∀ j, W.cell? ⟨bt, j, none⟩ = (#[.slice p6 n6 c6, .slice pp6 m6 cc6, .int .i64 V2.B.lost, .int .i64 V2.words, .int .i64 s2, .slice q6 N6 d6] : Array Value)[j]?) ∧ (∀ j, W.cell? ⟨bo, j, none⟩ = (#[.slice P6 M6 C6, .int .i64 s2, .slice Q6 N6 D6] : Array Value)[j]?)) 3 [(0, true), (1, true), (2, false)] (by kernel_rfl) (by kernel_rfl) (by rw [← hw10]; exact ⟨HKTQ.out.c, HKOQ.out.c⟩) ?_
                iterate 2
                  refine plan_read (v := ?_) rfl (by rfl) ?_ ?_
                  rotate_left
                  · intro w' hS
                    try dsimp only at hS
                    go_simp
                    try with_reducible rfl
                  try simp only [Act.put, List.setIfInBounds_toArray, List.set_cons_zero, List.set_cons_succ, List.getElem_toArray, List.getElem_cons_zero, List.getElem_cons_succ]
                rw [← hw10]
                clear hw10 kT kO
                obtain ⟨pb, nb, cb, ppb, mb, ccb, qb, kb, db, hkb, -⟩ := HUQ.out.vs.vo
                obtain ⟨Pb, Mb, Cb, Qb, Nb, Db, hkm, -, -⟩ := HUQ.out.vm.lo
                have cB := hkb.c
                have fB := hkb.f
                have lB := hkb.lt
                have HKMQ : Hid (Blk (set6 w10 b (.slice p6 n6 c6) (.slice pp6 m6 cc6) (.int .i64 V2.B.lost) (.int .i64 V2.words) (.int .i64 s2) (.slice q6 N6 d6)) bm _) := Lib.hid (set6_other hkm HUQ.out.ne _ _ _ _ _ _)
                have HNEQ : Hid (b ≠ bt ∧ b ≠ bo) := Lib.hid ⟨HBT.out.2.1, HBT.out.2.2.2.2.1⟩
                show wpOp _ _ _ 2 _ _ _
                refine Ud.op_store (w1 := (((((w10.setCell ⟨b, 0, none⟩ (.slice p6 n6 c6)).setCell ⟨b, 1, none⟩ (.slice pp6 m6 cc6)).setCell ⟨b, 2, none⟩ (.int .i64 V2.B.lost)).setCell ⟨b, 3, none⟩ (.int .i64 V2.words)).setCell ⟨b, 4, none⟩ (.int .i64 s2)).setCell ⟨b, 5, none⟩ (.slice q6 N6 d6)) rfl (by rfl) (by go_simp) ⟨⟨(set6_other HKTQ.out HNEQ.out.1 _ _ _ _ _ _).c, (set6_other HKOQ.out HNEQ.out.2 _ _ _ _ _ _).c⟩, ?_⟩
                try simp only [Act.put, List.setIfInBounds_toArray, List.set_cons_zero, List.set_cons_succ, List.getElem_toArray, List.getElem_cons_zero, List.getElem_cons_succ]
                refine plan_nil ?_
                simp only [List.drop_succ_cons, List.drop_zero]
                rw [set6_eq]
                have HU11 := Lib.hid (HUQ.out.put HLTQ.out HLOQ.out)
                obtain ⟨w11, hw11⟩ : ∃ y, y = set6 w10 b (.slice p6 n6 c6) (.slice pp6 m6 cc6) (.int .i64 V2.B.lost) (.int .i64 V2.words) (.int .i64 s2) (.slice q6 N6 d6) := ⟨_, rfl⟩
                rw [← hw11] at HU11 HKMQ ⊢
                clear hw11 cB fB lB hkb hkm HUQ HLTQ HLOQ HKTQ HKOQ
                have cM := HKMQ.out.c
                have fM := HKMQ.out.f
                have lM := HKMQ.out.lt
                go_upto_region 10 with fail
                obtain ⟨w12, hw12⟩ : ∃ y, y = ((w11.setCell ⟨bm, 0, none⟩ (.slice P6 M6 C6)).setCell ⟨bm, 1, none⟩ (.int .i64 s2)).setCell ⟨bm, 2, none⟩ (.slice Q6 N6 D6) := ⟨_, rfl⟩
                rw [← hw12] at HU11 ⊢
                clear hw12 cM fM lM HKMQ
                go_wp2_with fail
                go_roundw
                case rel => exact ⟨k + 1, V2, by omega, by omega, by go_num, HI2.out, HU11.out⟩
                case measure => simp [intOf]; omega
  
      · rw [decide_eq_false hgo]
        go_wp2_with fail
        go_ret
        exact ⟨rfl, HUB.out.hb⟩
end Go.Proofs.Ytflakmabciokbaa
namespace Go.Proofs.Ytflakmabciokbaa.storeLike
open Go.ChangeShapes Go.WideShapes Go.ChangeAt Go.RowKit
open Go.ChangeMaps (open_string shut_string)
set_option linter.unusedVariables false

theorem own : ownKnob Try.prog.godebug = none := by kernel_rfl
theorem laidOut : laidOutB Try.prog = true := by kernel_rfl

set_option maxRecDepth 100000 in
theorem lifted (os : Os) (started : os.Started) (H : Type) (enc : TypeId × Value → H) :
    ReturnsInHanded {} Try.checked os 5 .any (Rows.storeLikeSpec.pre6 enc Try.prog Try.f5 Rows.storeLikeRow.domain false) (Rows.storeLikeSpec.post enc Try.prog Try.f5 false true false false) := by
  refine returnsInHanded_of_change (C := Try.checked) own started (by kernel_rfl) Try.func5
    (ChangeSpec.witness6 (enc := enc) (C := Try.checked) false ⟨#[], #[.int .u8 0, .int .u8 0, .slice none 0 0], []⟩ 8 (by kernel_rfl) (by kernel_rfl) (by kernel_rfl) (by kernel_rfl)) ?_
  intro W base args ds gs before hval0 hW hcnd _
  have hval : ∀ (j : Nat) t v, Try.f5.params[j]? = some t → args[j]? = some v → Value.okWide Try.prog W .any base t v := hval0
  have hW' := hW
  obtain ⟨p, q, hA0, hV, rfl, hfz, hnd⟩ := hW
  have hA : DataW.TrodAll enc Try.prog W 0 (fun _ => true) true Try.f5.params.toList args.toList ds p := hA0
  rw [Try.params5] at hA hval
  obtain ⟨v0, vs0, d0, ds0, p0, q0, hargs, rfl, rfl, h0, r0⟩ := trodAll_cons hA
  obtain ⟨v1, vs1, d1, ds1, p1, q1, rfl, rfl, rfl, h1, r1⟩ := trodAll_cons r0
  obtain ⟨v2, vs2, d2, ds2, p2, q2, rfl, rfl, rfl, h2, r2⟩ := trodAll_cons r1
  obtain ⟨rfl, rfl, rfl⟩ := trodAll_nil r2
  obtain rfl : args = #[v0, v1, v2] := by cases args; simp_all
  obtain ⟨rfl, rfl⟩ := trodVars_none hV
  have k0 := h0
  have lt0 : ∀ x ∈ p0, x.block < W.heap.size := by obtain ⟨m, hm⟩ := k0; exact DataW.trod_lt m _ _ _ hm
  have k1 := h1
  have lt1 : ∀ x ∈ p1, x.block < W.heap.size := by obtain ⟨m, hm⟩ := k1; exact DataW.trod_lt m _ _ _ hm
  have k2 := h2
  have lt2 : ∀ x ∈ p2, x.block < W.heap.size := by obtain ⟨m, hm⟩ := k2; exact DataW.trod_lt m _ _ _ hm
  obtain ⟨a0, rfl, rfl, rfl, w0⟩ := open_int Try.underlying5 (hval 0 5 v0 rfl rfl) h0
  have b0 := bounds_u8 w0
  obtain ⟨n0, rfl⟩ := Int.eq_ofNat_of_zero_le b0.1
  obtain ⟨a1, rfl, rfl, rfl, w1⟩ := open_int Try.underlying5 (hval 1 5 v1 rfl rfl) h1
  have b1 := bounds_u8 w1
  obtain ⟨n1, rfl⟩ := Int.eq_ofNat_of_zero_le b1.1
  obtain ⟨s2, len2, cap2, rfl⟩ := okWide_slice Try.underlying54 (hval 2 54 v2 rfl rfl)
  obtain ⟨ps2, hl2, hm2, hg2, hp2⟩ : ∃ ps : List Ud.Dt, ps.length = len2 ∧ len2 ≤ maxLen ∧ (∀ y ∈ ps, y.Fits) ∧ Ud.Els W s2 4 len2 (fun k => (ps.getD k Ud.dt0).row) := by
    obtain ⟨fuel, hf⟩ := h2
    exact Ud.dos_of_cells hf
  clear hA0 hval0
  refine (like_main n0 n1 s2 len2 cap2 ps2 W (by omega) (by omega) hl2 hm2 hg2 hp2).mono fun e W' ⟨he, bel⟩ => ?_
  subst he
  exact ⟨_, rfl, _, _, _, [], _, [], hW', trodAll_mk1 (shut_bool Try.underlying4 _), (trodAll_cons_mk (Below.trod laidOut (by kernel_rfl) (of_decide_eq_true (by kernel_rfl)) k0 bel lt0) (trodAll_cons_mk (Below.trod laidOut (by kernel_rfl) (of_decide_eq_true (by kernel_rfl)) k1 bel lt1) (trodAll_cons_mk (Below.trod laidOut (by kernel_rfl) (of_decide_eq_true (by kernel_rfl)) k2 bel lt2) trodAll_mk0))), rfl, bel.frame _, fun h => by cases h⟩

theorem over : Rows.storeLikeRow.holds Try.pinned (OpenSpec.ofChange Rows.storeLikeSpec) :=
  OpenClaim.holds_of_wide 5 Try.f5 rfl rfl rfl rfl rfl rfl rfl ⟨rfl, rfl, rfl, rfl, rfl⟩ rfl rfl rfl rfl rfl (by kernel_rfl) Try.func5 (by kernel_rfl)
    (of_decide_eq_true (by kernel_rfl)) (by unfold Func.isWrapper; first | (rw [if_pos (by decide +kernel)]; kernel_rfl) | (rw [if_neg (by decide +kernel)]; exact ⟨rfl, rfl⟩))
    (fun os started H enc _ => lifted os started H enc)

/-- The statement. -/
theorem proved : Rows.StoreLikeSaid := over
#print axioms proved
end Go.Proofs.Ytflakmabciokbaa.storeLike
