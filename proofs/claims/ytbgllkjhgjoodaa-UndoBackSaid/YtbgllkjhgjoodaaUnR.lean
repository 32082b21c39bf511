/- UndoBack: the walk of the statement's function; no condition but that the list reads. -/
import Derived.Test.YtbgllkjhgjoodaaUnQ
namespace Go.Proofs.Ytbgllkjhgjoodaa
set_option linter.unusedVariables false
open Go.ChangeShapes Go.WideShapes Go.ChangeAt Go.RowKit

theorem sl_holds {w : World} {q : Option Addr} {n : Nat} {xs : List Value} (h : Sl w q n xs) (h0 : 0 < n) : ∀ g, q = some g → ∀ j u, xs[j]? = some u → w.cell? (g.add j) = some u := fun g e j u hj => by
  obtain ⟨b, off, _, h2, h3⟩ := h h0
  rw [h2] at e
  injection e with e
  subst e
  have hl : j < xs.length := by
    rcases Nat.lt_or_ge j xs.length with h | h
    · exact h
    · rw [List.getElem?_eq_none h] at hj; cases hj
  have := h3 j hl
  rw [hj] at this
  rw [show (⟨b, off, none⟩ : Addr).add j = ⟨b, off + j, none⟩ by simp [Addr.add]]
  exact this
theorem new_ub {w w2 w3 w4 : World} {b n : Nat} {L : Lg} {p2 : Option Addr} {c2 : Nat} (hv : Var (fun R => R = b) w2 b L) (hb : Below w.heap.size w w2) (hge : w.heap.size ≤ b) (hbl : b < w2.heap.size)
    (h3 : Below w2.heap.size w2 w3) (hm : w3.ownsRow w2.heap.size 26 1 (.slice p2 n c2) n (wdC L.mem)) (h4 : w4 = w3.alloc (.cells #[.slice p2 n c2] 22)) : UB w w4 b L (some ⟨w3.heap.size, 0, none⟩) n 1 1 [.slice p2 n c2] [L.mem] := by
  have hA : Below w3.heap.size w3 w4 := by rw [h4]; exact (Below.refl _ _).alloc (Nat.le_refl _) _
  refine ⟨(hv.below h3).below hA, Was.new (base := w2.heap.size) hbl (own_below hm hA) (by rw [h4]; exact Blk.new _ _ _) (Nat.lt_of_lt_of_le hbl h3.size), (hb.trans (h3.mono hb.size)).trans (hA.mono (Nat.le_trans hb.size h3.size)), hge⟩

set_option maxHeartbeats 16000000 in
set_option maxRecDepth 100000 in
theorem back_main (A : Nat) (p0 : Option Addr) (len cap : Nat) (ds : List Dt) (w : World) (hA : A < 256) (hz : ds.length = len) (hmx : len ≤ maxLen) (hf : ∀ d ∈ ds, d.Fits) (hq : Els w p0 4 len (fun k => (ds.getD k dt0).row)) :
    Calls Try.prog 4 #[.int .u8 A, .slice p0 len cap] w fun e w' => e = .returned (.bool true) ∧ Below w.heap.size w w' := by
  have HQ := Lib.hid hq
  have HZ := Lib.hid hz
  have HF := Lib.hid hf
  unfold maxLen at hmx
  obtain ⟨i0, hi, hz0, hz1, hz2⟩ := info_parts info26
  have HI := Lib.hid (And.intro hi (And.intro hz0 (And.intro hz1 hz2)))
  clear hq hz hf hi hz0 hz1 hz2
  go_enter Try.func4, Try.ntmps4
  go_wp2_with fail
  refine (awake_any _).mono ?_
  rintro e w1 ⟨rfl, hb1⟩
  have HB1 : Hid (Below w.heap.size w w1) := Lib.hid hb1
  clear hb1
  go_upto_region 4 with fail
  obtain ⟨n, hn⟩ : ∃ n : Nat, n = A % 16 + 1 := ⟨_, rfl⟩
  have en : (A : Int) % 16 + 1 = (n : Int) := by omega
  rw [en]
  have hn1 : 1 ≤ n := by omega
  have hn16 : n ≤ 16 := by omega
  clear hn en
  have hinv := Inv.new hn1 (show n ≤ 64 by omega)
  have hnew := new_any (fun _ => False) (n : Int) w1 (fun _ h => h.elim)
  rw [(rt_new hn1 (show n ≤ 64 by omega)).1, (rt_new hn1 (show n ≤ 64 by omega)).2.1] at hnew
  obtain ⟨L0, hL0⟩ : ∃ L, L = (⟨List.replicate n 0, 0, []⟩ : Lg) := ⟨_, rfl⟩
  rw [← hL0] at hnew hinv
  have HINV : Hid (Inv n L0 0 0 [L0.mem] 0) := Lib.hid (by rw [hL0] at hinv ⊢; exact hinv)
  have HN := Lib.hid hnew
  clear hL0 hinv hnew
  go_wp2_with fail
  refine HN.out.mono ?_
  clear HN
  rintro e w2 ⟨v, rfl, hlo, hb⟩
  have HB2 : Hid (Below w.heap.size w w2) := Lib.hid (HB1.out.trans (hb.mono HB1.out.size))
  obtain ⟨p, m, c, q, nn, d, rfl, hcc, hoff⟩ := hlo
  obtain rfl : n = m := HINV.out.ml.symm.trans hcc.ml
  have HC : Hid (Lo (fun _ => False) w2 (.agg #[.slice p n c, .int .i64 L0.span, .slice q nn d]) L0) := Lib.hid ⟨p, n, c, q, nn, d, rfl, hcc, hoff⟩
  clear hoff hb hcc HB1
  go_upto_region 5 with fail
  obtain ⟨b, hbe⟩ : ∃ b, b = w2.heap.size := ⟨_, rfl⟩
  obtain ⟨w3, hw3⟩ : ∃ w3, w3 = w2.alloc (.cells #[.slice p n c, .int .i64 L0.span, .slice q nn d] 25) := ⟨_, rfl⟩
  have HV3 : Hid (Var (fun R => R = b) w3 b L0) := Lib.hid (by rw [hw3, hbe]; exact Var.newt _ (HC.out.later (fun R hR => .inr (by rw [hR]; exact Nat.le_refl _))))
  have HB3 : Hid (Below w.heap.size w w3) := Lib.hid (by rw [hw3]; exact HB2.out.alloc HB2.out.size _)
  have HBG : Hid (w.heap.size ≤ b ∧ b < w3.heap.size) := Lib.hid (by rw [hw3, hbe]; exact ⟨HB2.out.size, by simp⟩)
  have HK3 : Hid (Blk w3 b #[.slice p n c, .int .i64 L0.span, .slice q nn d]) := Lib.hid (by rw [hw3, hbe]; exact Blk.new _ _ _)
  have HM3 : Hid (Sl w3 p n (wdC L0.mem)) := Lib.hid (by
    obtain ⟨p', m', c', q', n', d', e, hcc, _⟩ := HC.out
    injection e with e
    simp at e
    obtain ⟨⟨rfl, rfl, rfl⟩, _⟩ := e
    rw [hw3]; exact hcc.ms.below ((Below.refl _ _).alloc (Nat.le_refl _) _))
  have HML : Hid (L0.mem.length = n) := Lib.hid HINV.out.ml
  rw [← hw3, ← hbe]
  clear hw3 hbe HC HB2
  have kK := HK3.out.c
  have kL := HK3.out.lt
  go_upto_region 7 with fail
  go_wp2_with (first | (at_builtin; refine wpList_append_sl rfl _ _ 22 rfl w3.heap.size 26 i0 (.int .u32 0) 1 4 Try.underlying22 HI.out.1 HI.out.2.1 HI.out.2.2.1 HI.out.2.2.2 rfl (by decide) _ 0 [] rfl (fresh_made (Nat.le_refl _)) p n c (wdC L0.mem) rfl (by rw [wdC_len, HML.out, Nat.mul_one]) (HM3.out.below ((Below.refl _ _).alloc (Nat.le_refl _) _)) (wdC_one _) (by unfold maxLen; omega) (by omega) (by simp) ?_))
  intro v' w4 g1 g2 g3
  obtain ⟨p2, c2, rfl, -⟩ := own_cap g1
  have HO4 : Hid (w4.ownsRow w3.heap.size 26 1 (.slice p2 n c2) n (wdC L0.mem)) := Lib.hid (by simpa using g1)
  have HB4 : Hid (Below w3.heap.size w3 w4) := Lib.hid (((Below.refl w3.heap.size w3).alloc (Nat.le_refl _) _).grown g2 (by simp) (fun k hk => by simp [Value.ownBlock] at hk; omega))
  have HUB : Hid (UB w (w4.alloc (.cells #[.slice p2 n c2] 22)) b L0 (some ⟨w4.heap.size, 0, none⟩) n 1 1 [.slice p2 n c2] [L0.mem]) := Lib.hid (new_ub HV3.out HB3.out HBG.out.1 HBG.out.2 HB4.out HO4.out rfl)
  clear g1 g2 g3 kK kL HO4 HB4 HV3 HB3 HBG HK3 HM3
  go_upto_region 8 with fail
  obtain ⟨w5, hw5⟩ : ∃ z, z = w4.alloc (.cells #[.slice p2 n c2] 22) := ⟨_, rfl⟩
  rw [← hw5] at HUB ⊢
  clear hw5
  go_wp2_with fail
  go_loopw [8, 9, 10] (fun s8 s9 s10 wr => ∃ (k f sp : Nat) (L : Lg) (q : Option Addr) (N c : Nat) (xs : List Value) (Ws : List (List Int)), k ≤ len ∧ k ≤ 100 ∧ s10 = .int .i64 k ∧ s9 = .int .i64 f ∧ s8 = .slice q N c ∧ Inv n L f sp Ws k ∧ UB w wr b L q n N c xs Ws) (fun _ _ s10 _ => len - (intOf s10).toNat)
  case atStart => exact ⟨0, 0, 0, L0, _, _, _, _, _, Nat.zero_le _, Nat.zero_le _, rfl, rfl, rfl, HINV.out, HUB.out⟩
  case round =>
    clear HINV HUB HML
    obtain ⟨k, f, sp, L, q, N, c, xs, Ws, hk, hk100, rfl, rfl, rfl, hinv, hub⟩ := hrel
    have HINV := Lib.hid hinv
    have HUB := Lib.hid hub
    clear hinv hub
    go_upto_region 10 with fail
    go_cut [47] (fun s47 wd => s47 = .bool (decide (k < len ∧ k < 100)) ∧ wr = wd)
    case first =>
      by_cases h1 : k < len
      · have h1I : decide ((k : Int) < len) = true := decide_eq_true (by omega)
        by_cases h2 : k < 100
        · have h2I : decide ((k : Int) < 100) = true := decide_eq_true (by omega)
          have HGO : Hid (decide (k < len ∧ k < 100) = true) := Lib.hid (decide_eq_true ⟨h1, h2⟩)
          go_wp2_with fail
          go_meet
          case rel => exact ⟨by rw [HGO.out], rfl⟩
        · have h2I : decide ((k : Int) < 100) = false := decide_eq_false (by omega)
          have HGO : Hid (decide (k < len ∧ k < 100) = false) := Lib.hid (decide_eq_false (by omega))
          go_wp2_with fail
          go_meet
          case rel => exact ⟨by rw [HGO.out], rfl⟩
      · have h1I : decide ((k : Int) < len) = false := decide_eq_false (by omega)
        have HGO : Hid (decide (k < len ∧ k < 100) = false) := Lib.hid (decide_eq_false (by omega))
        go_wp2_with fail
        go_meet
        case rel => exact ⟨by rw [HGO.out], rfl⟩
    case rest =>
      obtain ⟨rfl, rfl⟩ := hcut
      by_cases hgo : k < len ∧ k < 100
      · rw [decide_eq_true hgo]
        obtain ⟨hkl, hk1⟩ := hgo
        obtain ⟨bq, off, hbl, rfl, hc⟩ := HQ.out (by omega)
        have hfit := HF.out (ds.getD k dt0) (by
          rw [List.getD_eq_getElem?_getD, List.getElem?_eq_getElem (by rw [HZ.out]; exact hkl)]; exact List.getElem_mem _)
        obtain ⟨⟨kd, a, t, v⟩, hyy⟩ : ∃ y, ds.getD k dt0 = y := ⟨_, rfl⟩
        have hc0 : wr.cell? ⟨bq, off + k * 4 + 0, none⟩ = (ds.getD k dt0).row[0]? := (HUB.out.hb.cell (p := ⟨bq, off + k * 4 + 0, none⟩) hbl).trans (hc k hkl 0 (by decide))
        have hc1 : wr.cell? ⟨bq, off + k * 4 + 1, none⟩ = (ds.getD k dt0).row[1]? := (HUB.out.hb.cell (p := ⟨bq, off + k * 4 + 1, none⟩) hbl).trans (hc k hkl 1 (by decide))
        have hc2 : wr.cell? ⟨bq, off + k * 4 + 2, none⟩ = (ds.getD k dt0).row[2]? := (HUB.out.hb.cell (p := ⟨bq, off + k * 4 + 2, none⟩) hbl).trans (hc k hkl 2 (by decide))
        have hc3 : wr.cell? ⟨bq, off + k * 4 + 3, none⟩ = (ds.getD k dt0).row[3]? := (HUB.out.hb.cell (p := ⟨bq, off + k * 4 + 3, none⟩) hbl).trans (hc k hkl 3 (by decide))
        rw [hyy] at hc0 hc1 hc2 hc3 hfit
        have hd0 : wr.cell? ⟨bq, off + k * 4, none⟩ = some (.int .u8 (kd : Int)) := hc0
        have hd1 : wr.cell? ⟨bq, off + k * 4 + 1, none⟩ = some (.int .u8 (a : Int)) := hc1
        have hd2 : wr.cell? ⟨bq, off + k * 4 + 2, none⟩ = some (.int .u8 (t : Int)) := hc2
        have hd3 : wr.cell? ⟨bq, off + k * 4 + 3, none⟩ = some (.int .u32 (v : Int)) := hc3
        have hkd : kd < 256 := hfit.1
        have ha : a < 256 := hfit.2.1
        have ht : t < 256 := hfit.2.2.1
        have hkI : (0 : Int) ≤ (k : Int) := by omega
        have hkI2 : (k : Int) < (len : Int) := by omega
        clear hc hc0 hc1 hc2 hc3 hyy hfit
        go_upto_region 13 with fail
        have HB5 : Hid (Below wr.heap.size wr (wr.alloc (.cells #[.int .u8 (kd : Int), .int .u8 (a : Int), .int .u8 (t : Int), .int .u32 (v : Int)] 45))) := Lib.hid ((Below.refl _ _).alloc (Nat.le_refl _) _)
        have HD : Hid (Blk (wr.alloc (.cells #[.int .u8 (kd : Int), .int .u8 (a : Int), .int .u8 (t : Int), .int .u32 (v : Int)] 45)) wr.heap.size #[.int .u8 (kd : Int), .int .u8 (a : Int), .int .u8 (t : Int), .int .u32 (v : Int)]) := Lib.hid (Blk.new _ _ _)
        have HU5 := Lib.hid (HUB.out.below HB5.out)
        have HGB : Hid (b < wr.heap.size) := Lib.hid HUB.out.var.lt
        obtain ⟨g, hg⟩ : ∃ z, z = wr.heap.size := ⟨_, rfl⟩
        obtain ⟨w5, hw5⟩ : ∃ z, z = wr.alloc (.cells #[.int .u8 (kd : Int), .int .u8 (a : Int), .int .u8 (t : Int), .int .u32 (v : Int)] 45) := ⟨_, rfl⟩
        rw [← hw5] at HU5 HD ⊢
        rw [← hg] at HD HGB ⊢
        clear hw5 hg hd0 hd1 hd2 hd3 hkI hkI2 HUB HB5
        have hwa : IntKind.i64.wrap (a : Int) = (a : Int) := by rw [IntKind.wrap_i64]; omega
        have hwt : IntKind.i64.wrap (t : Int) = (t : Int) := by rw [IntKind.wrap_i64]; omega
        obtain ⟨r, hr⟩ : ∃ r, r = kd % 5 := ⟨_, rfl⟩
        have er : (kd : Int) % 5 = (r : Int) := by rw [hr]; exact (Int.natCast_emod kd 5).symm
        have hr5 : r < 5 := by omega
        clear hr
        have kD := HD.out.c
        have hinv := HINV.out
        have hspk := hinv.spk
        have hfsp := hinv.fsp
        have hspL := hinv.sp_
        obtain ⟨pm, m', cm, qm, nm, dm, hkm, hlm, hlcm⟩ := HU5.out.var.lo
        obtain rfl : n = m' := hinv.ml.symm.trans hlcm.ml
        rw [hspL] at hkm hlm
        have HKM := Lib.hid hkm
        have HLM := Lib.hid hlm
        have HLT := Lib.hid HU5.out.lt
        clear hkm hlm hlcm hspL hinv
        obtain rfl | rfl | rfl | rfl | rfl : r = 0 ∨ r = 1 ∨ r = 2 ∨ r = 3 ∨ r = 4 := by omega
        · as_aux_lemma =>
            obtain ⟨ia, hia⟩ : ∃ z, z = a % n := ⟨_, rfl⟩
            have hta : ((a : Int)).tmod (n : Int) = (ia : Int) := by rw [Int.tmod_eq_emod_of_nonneg (by omega), hia]; exact (Int.natCast_emod a n).symm
            have hn0 : ¬ n = 0 := by omega
            have hian : ia < n := by rw [hia]; exact Nat.mod_lt _ (by omega)
            clear hia
            go_upto_region 21 with fail
            obtain ⟨hE, hV, hI2⟩ := HINV.out.write (by omega) hian (v : Int)
            obtain ⟨L2, hL2⟩ : ∃ z, z = writeL L (ia : Int) (v : Int) := ⟨_, rfl⟩
            rw [← hL2] at hV hI2
            have HV := Lib.hid hV
            have HI2 := Lib.hid hI2
            have HW : Hid (∀ (S : Nat → Prop) W, Below w5.heap.size w5 W → (∀ R, S R → R < W.heap.size) → Calls Try.prog 7 #[.agg #[.slice pm n cm, .int .i64 (sp : Int), .slice qm nm dm], .int .i64 (ia : Int), .int .u32 (v : Int)] W fun e w' => OutL S W w' e L2 0) := Lib.hid (fun S W hW hS => by
              have hq := write_any S _ L (ia : Int) (v : Int) W (HLM.out.below hW) hS
              rw [hE, ← hL2] at hq
              exact hq)
            have HS0 : Hid (∀ W, Below w5.heap.size w5 W → ((∀ j, W.cell? ⟨b, j, none⟩ = (#[.slice pm n cm, .int .i64 (sp : Int), .slice qm nm dm] : Array Value)[j]?) ∧ ∀ j, W.cell? ⟨g, j, none⟩ = (#[.int .u8 (kd : Int), .int .u8 (a : Int), .int .u8 (t : Int), .int .u32 (v : Int)] : Array Value)[j]?) ∧ Below w5.heap.size w5 W) := Lib.hid (fun W hb => ⟨⟨(HKM.out.below hb).c, (HD.out.below hb).c⟩, hb⟩)
            have HBL : Hid (b < w5.heap.size) := Lib.hid HU5.out.var.lt
            clear hV hI2 hE hL2 kD er
            go_cut [12, 13] (fun s12 s13 wd => ∃ b2 p m c q nn d, s12 = .pointer (some ⟨b2, 0, none⟩) ∧ s13 = .int .i64 0 ∧ FreshU b w5 wd b2 p m c L2.span q nn d L2)
            case first =>
              as_aux_lemma =>
                refine region_planT (fun W : World => ((∀ j, W.cell? ⟨b, j, none⟩ = (#[.slice pm n cm, .int .i64 (sp : Int), .slice qm nm dm] : Array Value)[j]?) ∧ ∀ j, W.cell? ⟨g, j, none⟩ = (#[.int .u8 (kd : Int), .int .u8 (a : Int), .int .u8 (t : Int), .int .u32 (v : Int)] : Array Value)[j]?) ∧ Below w5.heap.size w5 W) 14 (.read 0 (.read 1 (.read 2 (.read 3 (.read 4 (.read 5 (.read 6 (.read 7 (.two 8 12 (.read 9 (.read 10 (.read 11 (.one 12 (.one 13 .stop))))) (.one 8 (.read 9 (.read 10 (.read 11 (.one 13 .stop)))))))))))))) (by kernel_rfl) (by kernel_rfl) (HS0.out _ (Below.refl _ _).drew) ?_
                iterate 5
                  refine planT_read (v := ?_) rfl (by rfl) ?_ ?_
                  rotate_left
                  · intro w' hS
                    try dsimp only at hS
                    obtain ⟨⟨hS1, hS2⟩, hS3⟩ := hS
                    go_simp
                    try with_reducible rfl
                  try simp only [Act.put, List.setIfInBounds_toArray, List.set_cons_zero, List.set_cons_succ, List.getElem_toArray, List.getElem_cons_zero, List.getElem_cons_succ]
                refine planT_read (v := .int .i64 (ia : Int)) rfl (by rfl) (by intro w' hS; go_simp) ?_
                try simp only [Act.put, List.setIfInBounds_toArray, List.set_cons_zero, List.set_cons_succ, List.getElem_toArray, List.getElem_cons_zero, List.getElem_cons_succ]
                iterate 2
                  refine planT_read (v := ?_) rfl (by rfl) ?_ ?_
                  rotate_left
                  · intro w' hS
                    try dsimp only at hS
                    obtain ⟨⟨hS1, hS2⟩, hS3⟩ := hS
                    go_simp
                    try with_reducible rfl
                  try simp only [Act.put, List.setIfInBounds_toArray, List.set_cons_zero, List.set_cons_succ, List.getElem_toArray, List.getElem_cons_zero, List.getElem_cons_succ]
                refine planT_two ?_ ?_
                · have hcall := HW.out (fun R => R = b) w5.drew ((Below.refl _ _).drew) (fun R hR => by rw [hR]; exact HBL.out)
                  refine op_call (F := 7) (args := ?_) rfl (by rfl) ?_ ?_
                  rotate_left
                  · go_simp
                    rfl
                  refine (hcall).mono ?_
                  rintro e w6 ⟨vv, rfl, hlo, hb⟩
                  have HB6 : Hid (Below w5.heap.size w5 w6) := Lib.hid ((Below.refl _ _).drew.trans hb)
                  obtain ⟨p6, m6, c6, q6, n6, d6, rfl, hcc, hoff⟩ := hlo
                  refine ⟨_, rfl, HS0.out _ HB6.out, ?_⟩
                  try simp only [Act.put, List.setIfInBounds_toArray, List.set_cons_zero, List.set_cons_succ, List.getElem_toArray, List.getElem_cons_zero, List.getElem_cons_succ]
                  iterate 3
                    refine planT_read (v := ?_) rfl (by rfl) ?_ ?_
                    rotate_left
                    · intro w' hS
                      try dsimp only at hS
                      go_simp
                      try with_reducible rfl
                    try simp only [Act.put, List.setIfInBounds_toArray, List.set_cons_zero, List.set_cons_succ, List.getElem_toArray, List.getElem_cons_zero, List.getElem_cons_succ]
                  refine planT_one ?_
                  refine op_make (v := .pointer (some ⟨w6.heap.size, 0, none⟩)) (w1 := w6.alloc (.cells #[.slice none 0 0, .int .i64 0, .slice none 0 0] 25)) rfl (by rfl) (by go_simp) ⟨HS0.out _ (HB6.out.alloc HB6.out.size _), ?_⟩
                  try simp only [Act.put, List.setIfInBounds_toArray, List.set_cons_zero, List.set_cons_succ, List.getElem_toArray, List.getElem_cons_zero, List.getElem_cons_succ]
                  refine planT_one ?_
                  refine op_store (w1 := w6.alloc (.cells #[.slice p6 m6 c6, .int .i64 L2.span, .slice q6 n6 d6] 25)) rfl (by rfl) (by go_simp) ⟨HS0.out _ (HB6.out.alloc HB6.out.size _), ?_⟩
                  try simp only [Act.put, List.setIfInBounds_toArray, List.set_cons_zero, List.set_cons_succ, List.getElem_toArray, List.getElem_cons_zero, List.getElem_cons_succ]
                  refine planT_stop ?_
                  simp only [List.drop_succ_cons, List.drop_zero]
                  have HFR : Hid (FreshU b w5 (w6.alloc (.cells #[.slice p6 m6 c6, .int .i64 L2.span, .slice q6 n6 d6] 25)) w6.heap.size p6 m6 c6 L2.span q6 n6 d6 L2) := Lib.hid (FreshU.drew (FreshU.first ⟨_, _, _, _, _, _, rfl, hcc, hoff⟩ hb))
                  clear hcc hoff hb
                  go_wp2_with fail
                  go_meet
                  case rel => exact ⟨_, _, _, _, _, _, _, rfl, rfl, HFR.out⟩
                · have HA5 : Hid (Below w5.heap.size w5 (w5.drew.alloc (.cells #[.slice none 0 0, .int .i64 0, .slice none 0 0] 25))) := Lib.hid ((Below.refl _ _).drew.alloc (Nat.le_refl _) _)
                  refine op_make (v := .pointer (some ⟨w5.heap.size, 0, none⟩)) (w1 := w5.drew.alloc (.cells #[.slice none 0 0, .int .i64 0, .slice none 0 0] 25)) rfl (by rfl) (by go_simp) ⟨HS0.out _ HA5.out, ?_⟩
                  try simp only [Act.put, List.setIfInBounds_toArray, List.set_cons_zero, List.set_cons_succ, List.getElem_toArray, List.getElem_cons_zero, List.getElem_cons_succ]
                  refine planT_one ?_
                  have hcall := HW.out (fun R => R < (w5.drew.alloc (.cells #[.slice none 0 0, .int .i64 0, .slice none 0 0] 25)).heap.size) _ HA5.out (fun R hR => hR)
                  refine op_call (F := 7) (args := ?_) rfl (by rfl) ?_ ?_
                  rotate_left
                  · go_simp
                    rfl
                  refine (hcall).mono ?_
                  rintro e w6 ⟨vv, rfl, hlo, hb⟩
                  have HB6 : Hid (Below w5.heap.size w5 w6) := Lib.hid (HA5.out.trans (hb.mono HA5.out.size))
                  obtain ⟨p6, m6, c6, q6, n6, d6, rfl, hcc, hoff⟩ := hlo
                  refine ⟨_, rfl, HS0.out _ HB6.out, ?_⟩
                  try simp only [Act.put, List.setIfInBounds_toArray, List.set_cons_zero, List.set_cons_succ, List.getElem_toArray, List.getElem_cons_zero, List.getElem_cons_succ]
                  iterate 3
                    refine planT_read (v := ?_) rfl (by rfl) ?_ ?_
                    rotate_left
                    · intro w' hS
                      try dsimp only at hS
                      go_simp
                      try with_reducible rfl
                    try simp only [Act.put, List.setIfInBounds_toArray, List.set_cons_zero, List.set_cons_succ, List.getElem_toArray, List.getElem_cons_zero, List.getElem_cons_succ]
                  refine planT_one ?_
                  have HZ6 : Hid (Blk w6 w5.heap.size #[.slice none 0 0, .int .i64 0, .slice none 0 0]) := Lib.hid ((Blk.new w5.drew #[.slice none 0 0, .int .i64 0, .slice none 0 0] 25).below hb)
                  have HFR : Hid (FreshU b w5 (((w6.setCell ⟨w5.heap.size, 0, none⟩ (.slice p6 m6 c6)).setCell ⟨w5.heap.size, 1, none⟩ (.int .i64 L2.span)).setCell ⟨w5.heap.size, 2, none⟩ (.slice q6 n6 d6)) w5.heap.size p6 m6 c6 L2.span q6 n6 d6 L2) := Lib.hid (FreshU.drew (FreshU.later rfl ⟨_, _, _, _, _, _, rfl, hcc, hoff⟩ hb HBL.out))
                  clear hcc hoff hb
                  have cZ := HZ6.out.c
                  have fZ := HZ6.out.f
                  have lZ := HZ6.out.lt
                  refine op_store (w1 := ((w6.setCell ⟨w5.heap.size, 0, none⟩ (.slice p6 m6 c6)).setCell ⟨w5.heap.size, 1, none⟩ (.int .i64 L2.span)).setCell ⟨w5.heap.size, 2, none⟩ (.slice q6 n6 d6)) rfl (by rfl) (by go_simp) ⟨HS0.out _ (set3_below HB6.out (Nat.le_refl _) _ _ _), ?_⟩
                  try simp only [Act.put, List.setIfInBounds_toArray, List.set_cons_zero, List.set_cons_succ, List.getElem_toArray, List.getElem_cons_zero, List.getElem_cons_succ]
                  refine planT_stop ?_
                  simp only [List.drop_succ_cons, List.drop_zero]
                  clear cZ fZ lZ
                  go_wp2_with fail
                  go_meet
                  case rel => exact ⟨_, _, _, _, _, _, _, rfl, rfl, HFR.out⟩
            case rest =>
              as_aux_lemma =>
                obtain ⟨b2, p6, m6, c6, q6, n6, d6, rfl, rfl, hge, hkc, hlc, hbel⟩ := hcut
                obtain ⟨w8, hw8⟩ : ∃ w8, w8 = wc.drew := ⟨_, rfl⟩
                have HB8 : Hid (Below w5.heap.size w5 w8) := Lib.hid (by rw [hw8]; exact hbel.drew)
                have HK8 : Hid (Blk w8 b2 #[.slice p6 m6 c6, .int .i64 L2.span, .slice q6 n6 d6]) := Lib.hid (by rw [hw8]; exact hkc.drew)
                have HL8 : Hid (Lo (fun R => R = b) w8 (.agg #[.slice p6 m6 c6, .int .i64 L2.span, .slice q6 n6 d6]) L2) := Lib.hid (by rw [hw8]; exact hlc.below (Below.refl _ _).drew)
                have HU8 := Lib.hid (HU5.out.below HB8.out)
                have kD := (HD.out.below HB8.out).c
                have kX := HK8.out.c
                obtain ⟨p', mm, c', q', n', d', e, hcc, _⟩ := HL8.out
                injection e with e
                simp at e
                obtain ⟨⟨rfl, rfl, rfl⟩, rfl, rfl, rfl⟩ := e
                obtain rfl : n = m6 := HI2.out.ml.symm.trans hcc.ml
                obtain ⟨bm, offm, rfl, hbm, hcm⟩ := hcc.wdAt ia (by omega)
                rw [HV.out] at hcm
                have hiI : (ia : Int) < (n : Int) := by omega
                have eV : ((v : Int) != (v : Int)) = false := by simp
                clear hge hkc hlc hbel hcc HS0 HW
                go_upto_region 22 with fail
                refine region_plan (fun w' : World => w' = w8) 14 [(0, true), (1, true), (2, true), (3, true), (4, true), (5, true), (6, true), (7, true), (8, true), (9, true), (10, true), (11, true), (12, true), (13, true)] (by kernel_rfl) (by kernel_rfl) hw8.symm ?_
                rw [← hw8]
                clear hw8
                iterate 9
                  refine plan_read (v := ?_) rfl (by rfl) ?_ ?_
                  rotate_left
                  · intro w' hS
                    try dsimp only at hS
                    subst hS
                    go_simp
                    try with_reducible rfl
                  try simp only [Act.put, List.setIfInBounds_toArray, List.set_cons_zero, List.set_cons_succ, List.getElem_toArray, List.getElem_cons_zero, List.getElem_cons_succ]
                refine plan_read (v := .int .i64 (ia : Int)) rfl (by rfl) (by intro w' hS; go_simp) ?_
                try simp only [Act.put, List.setIfInBounds_toArray, List.set_cons_zero, List.set_cons_succ, List.getElem_toArray, List.getElem_cons_zero, List.getElem_cons_succ]
                iterate 4
                  refine plan_read (v := ?_) rfl (by rfl) ?_ ?_
                  rotate_left
                  · intro w' hS
                    try dsimp only at hS
                    subst hS
                    go_simp
                    try with_reducible rfl
                  try simp only [Act.put, List.setIfInBounds_toArray, List.set_cons_zero, List.set_cons_succ, List.getElem_toArray, List.getElem_cons_zero, List.getElem_cons_succ]
                refine plan_nil ?_
                simp only [List.drop_succ_cons, List.drop_zero]
                clear hta hn0
                have kK := HU8.out.var
                have HKB := Lib.hid (HKM.out.below HB8.out)
                have kB := HKB.out.c
                have fB := HKB.out.f
                have lB := HKB.out.lt
                go_upto_region 37 with fail
                have HU9 := Lib.hid (HU8.out.put HL8.out)
                obtain ⟨w9, hw9⟩ : ∃ z, z = ((w8.setCell ⟨b, 0, none⟩ (.slice (some ⟨bm, offm, none⟩) n c6)).setCell ⟨b, 1, none⟩ (.int .i64 L2.span)).setCell ⟨b, 2, none⟩ (.slice q6 n6 d6) := ⟨_, rfl⟩
                rw [← hw9] at HU9 ⊢
                clear hw9 kK kB fB lB kD kX hcm eV HU8 HKB HK8 HL8 HU5 HKM HD HB8
                obtain ⟨pz, mz, cz, qz, nz, dz, hk, hlo, hlc⟩ := HU9.out.var.lo
                have HK := Lib.hid hk
                have HMZ : Hid (mz = n) := Lib.hid (hlc.ml.symm.trans HI2.out.ml)
                rw [HMZ.out] at HK
                have hq := right_any _ _ L2 w9 hlo
                rw [right_iff.2 HI2.out.rt, HMZ.out] at hq
                have HQ := Lib.hid hq
                have kK := HK.out.c
                clear hk hlo hlc hq HMZ
                go_upto_region 37 with fail
                go_wp2_with fail
                refine HQ.out.mono ?_
                clear HQ kK
                rintro e wt ⟨rfl, hb⟩
                have HUT := Lib.hid (HU9.out.below hb)
                have kK := (HK.out.below hb).c
                have eN : ((n : Int) != (n : Int)) = false := by simp
                clear hb HU9 HK
                go_wp2_with fail
                go_roundw
                case rel => exact ⟨k + 1, f, sp, L2, _, _, _, _, _, by omega, by omega, by go_num, rfl, rfl, HI2.out, HUT.out⟩
                case measure => simp [intOf]; omega
        · as_aux_lemma =>
            obtain ⟨ia, hia⟩ : ∃ z, z = a % n := ⟨_, rfl⟩
            have hta : ((a : Int)).tmod (n : Int) = (ia : Int) := by rw [Int.tmod_eq_emod_of_nonneg (by omega), hia]; exact (Int.natCast_emod a n).symm
            have hn0 : ¬ n = 0 := by omega
            have hian : ia < n := by rw [hia]; exact Nat.mod_lt _ (by omega)
            clear hia
            go_upto_region 21 with fail
            obtain ⟨hE, hV, hI2⟩ := HINV.out.write (by omega) hian (v : Int)
            obtain ⟨L2, hL2⟩ : ∃ z, z = writeL L (ia : Int) (v : Int) := ⟨_, rfl⟩
            rw [← hL2] at hV hI2
            have HV := Lib.hid hV
            have HI2 := Lib.hid hI2
            have HW : Hid (∀ (S : Nat → Prop) W, Below w5.heap.size w5 W → (∀ R, S R → R < W.heap.size) → Calls Try.prog 7 #[.agg #[.slice pm n cm, .int .i64 (sp : Int), .slice qm nm dm], .int .i64 (ia : Int), .int .u32 (v : Int)] W fun e w' => OutL S W w' e L2 0) := Lib.hid (fun S W hW hS => by
              have hq := write_any S _ L (ia : Int) (v : Int) W (HLM.out.below hW) hS
              rw [hE, ← hL2] at hq
              exact hq)
            have HS0 : Hid (∀ W, Below w5.heap.size w5 W → ((∀ j, W.cell? ⟨b, j, none⟩ = (#[.slice pm n cm, .int .i64 (sp : Int), .slice qm nm dm] : Array Value)[j]?) ∧ ∀ j, W.cell? ⟨g, j, none⟩ = (#[.int .u8 (kd : Int), .int .u8 (a : Int), .int .u8 (t : Int), .int .u32 (v : Int)] : Array Value)[j]?) ∧ Below w5.heap.size w5 W) := Lib.hid (fun W hb => ⟨⟨(HKM.out.below hb).c, (HD.out.below hb).c⟩, hb⟩)
            have HBL : Hid (b < w5.heap.size) := Lib.hid HU5.out.var.lt
            clear hV hI2 hE hL2 kD er
            go_cut [12, 13] (fun s12 s13 wd => ∃ b2 p m c q nn d, s12 = .pointer (some ⟨b2, 0, none⟩) ∧ s13 = .int .i64 0 ∧ FreshU b w5 wd b2 p m c L2.span q nn d L2)
            case first =>
              as_aux_lemma =>
                refine region_planT (fun W : World => ((∀ j, W.cell? ⟨b, j, none⟩ = (#[.slice pm n cm, .int .i64 (sp : Int), .slice qm nm dm] : Array Value)[j]?) ∧ ∀ j, W.cell? ⟨g, j, none⟩ = (#[.int .u8 (kd : Int), .int .u8 (a : Int), .int .u8 (t : Int), .int .u32 (v : Int)] : Array Value)[j]?) ∧ Below w5.heap.size w5 W) 14 (.read 0 (.read 1 (.read 2 (.read 3 (.read 4 (.read 5 (.read 6 (.read 7 (.two 8 12 (.read 9 (.read 10 (.read 11 (.one 12 (.one 13 .stop))))) (.one 8 (.read 9 (.read 10 (.read 11 (.one 13 .stop)))))))))))))) (by kernel_rfl) (by kernel_rfl) (HS0.out _ (Below.refl _ _).drew) ?_
                iterate 5
                  refine planT_read (v := ?_) rfl (by rfl) ?_ ?_
                  rotate_left
                  · intro w' hS
                    try dsimp only at hS
                    obtain ⟨⟨hS1, hS2⟩, hS3⟩ := hS
                    go_simp
                    try with_reducible rfl
                  try simp only [Act.put, List.setIfInBounds_toArray, List.set_cons_zero, List.set_cons_succ, List.getElem_toArray, List.getElem_cons_zero, List.getElem_cons_succ]
                refine planT_read (v := .int .i64 (ia : Int)) rfl (by rfl) (by intro w' hS; go_simp) ?_
                try simp only [Act.put, List.setIfInBounds_toArray, List.set_cons_zero, List.set_cons_succ, List.getElem_toArray, List.getElem_cons_zero, List.getElem_cons_succ]
                iterate 2
                  refine planT_read (v := ?_) rfl (by rfl) ?_ ?_
                  rotate_left
                  · intro w' hS
                    try dsimp only at hS
                    obtain ⟨⟨hS1, hS2⟩, hS3⟩ := hS
                    go_simp
                    try with_reducible rfl
                  try simp only [Act.put, List.setIfInBounds_toArray, List.set_cons_zero, List.set_cons_succ, List.getElem_toArray, List.getElem_cons_zero, List.getElem_cons_succ]
                refine planT_two ?_ ?_
                · have hcall := HW.out (fun R => R = b) w5.drew ((Below.refl _ _).drew) (fun R hR => by rw [hR]; exact HBL.out)
                  refine op_call (F := 7) (args := ?_) rfl (by rfl) ?_ ?_
                  rotate_left
                  · go_simp
                    rfl
                  refine (hcall).mono ?_
                  rintro e w6 ⟨vv, rfl, hlo, hb⟩
                  have HB6 : Hid (Below w5.heap.size w5 w6) := Lib.hid ((Below.refl _ _).drew.trans hb)
                  obtain ⟨p6, m6, c6, q6, n6, d6, rfl, hcc, hoff⟩ := hlo
                  refine ⟨_, rfl, HS0.out _ HB6.out, ?_⟩
                  try simp only [Act.put, List.setIfInBounds_toArray, List.set_cons_zero, List.set_cons_succ, List.getElem_toArray, List.getElem_cons_zero, List.getElem_cons_succ]
                  iterate 3
                    refine planT_read (v := ?_) rfl (by rfl) ?_ ?_
                    rotate_left
                    · intro w' hS
                      try dsimp only at hS
                      go_simp
                      try with_reducible rfl
                    try simp only [Act.put, List.setIfInBounds_toArray, List.set_cons_zero, List.set_cons_succ, List.getElem_toArray, List.getElem_cons_zero, List.getElem_cons_succ]
                  refine planT_one ?_
                  refine op_make (v := .pointer (some ⟨w6.heap.size, 0, none⟩)) (w1 := w6.alloc (.cells #[.slice none 0 0, .int .i64 0, .slice none 0 0] 25)) rfl (by rfl) (by go_simp) ⟨HS0.out _ (HB6.out.alloc HB6.out.size _), ?_⟩
                  try simp only [Act.put, List.setIfInBounds_toArray, List.set_cons_zero, List.set_cons_succ, List.getElem_toArray, List.getElem_cons_zero, List.getElem_cons_succ]
                  refine planT_one ?_
                  refine op_store (w1 := w6.alloc (.cells #[.slice p6 m6 c6, .int .i64 L2.span, .slice q6 n6 d6] 25)) rfl (by rfl) (by go_simp) ⟨HS0.out _ (HB6.out.alloc HB6.out.size _), ?_⟩
                  try simp only [Act.put, List.setIfInBounds_toArray, List.set_cons_zero, List.set_cons_succ, List.getElem_toArray, List.getElem_cons_zero, List.getElem_cons_succ]
                  refine planT_stop ?_
                  simp only [List.drop_succ_cons, List.drop_zero]
                  have HFR : Hid (FreshU b w5 (w6.alloc (.cells #[.slice p6 m6 c6, .int .i64 L2.span, .slice q6 n6 d6] 25)) w6.heap.size p6 m6 c6 L2.span q6 n6 d6 L2) := Lib.hid (FreshU.drew (FreshU.first ⟨_, _, _, _, _, _, rfl, hcc, hoff⟩ hb))
                  clear hcc hoff hb
                  go_wp2_with fail
                  go_meet
                  case rel => exact ⟨_, _, _, _, _, _, _, rfl, rfl, HFR.out⟩
                · have HA5 : Hid (Below w5.heap.size w5 (w5.drew.alloc (.cells #[.slice none 0 0, .int .i64 0, .slice none 0 0] 25))) := Lib.hid ((Below.refl _ _).drew.alloc (Nat.le_refl _) _)
                  refine op_make (v := .pointer (some ⟨w5.heap.size, 0, none⟩)) (w1 := w5.drew.alloc (.cells #[.slice none 0 0, .int .i64 0, .slice none 0 0] 25)) rfl (by rfl) (by go_simp) ⟨HS0.out _ HA5.out, ?_⟩
                  try simp only [Act.put, List.setIfInBounds_toArray, List.set_cons_zero, List.set_cons_succ, List.getElem_toArray, List.getElem_cons_zero, List.getElem_cons_succ]
                  refine planT_one ?_
                  have hcall := HW.out (fun R => R < (w5.drew.alloc (.cells #[.slice none 0 0, .int .i64 0, .slice none 0 0] 25)).heap.size) _ HA5.out (fun R hR => hR)
                  refine op_call (F := 7) (args := ?_) rfl (by rfl) ?_ ?_
                  rotate_left
                  · go_simp
                    rfl
                  refine (hcall).mono ?_
                  rintro e w6 ⟨vv, rfl, hlo, hb⟩
                  have HB6 : Hid (Below w5.heap.size w5 w6) := Lib.hid (HA5.out.trans (hb.mono HA5.out.size))
                  obtain ⟨p6, m6, c6, q6, n6, d6, rfl, hcc, hoff⟩ := hlo
                  refine ⟨_, rfl, HS0.out _ HB6.out, ?_⟩
                  try simp only [Act.put, List.setIfInBounds_toArray, List.set_cons_zero, List.set_cons_succ, List.getElem_toArray, List.getElem_cons_zero, List.getElem_cons_succ]
                  iterate 3
                    refine planT_read (v := ?_) rfl (by rfl) ?_ ?_
                    rotate_left
                    · intro w' hS
                      try dsimp only at hS
                      go_simp
                      try with_reducible rfl
                    try simp only [Act.put, List.setIfInBounds_toArray, List.set_cons_zero, List.set_cons_succ, List.getElem_toArray, List.getElem_cons_zero, List.getElem_cons_succ]
                  refine planT_one ?_
                  have HZ6 : Hid (Blk w6 w5.heap.size #[.slice none 0 0, .int .i64 0, .slice none 0 0]) := Lib.hid ((Blk.new w5.drew #[.slice none 0 0, .int .i64 0, .slice none 0 0] 25).below hb)
                  have HFR : Hid (FreshU b w5 (((w6.setCell ⟨w5.heap.size, 0, none⟩ (.slice p6 m6 c6)).setCell ⟨w5.heap.size, 1, none⟩ (.int .i64 L2.span)).setCell ⟨w5.heap.size, 2, none⟩ (.slice q6 n6 d6)) w5.heap.size p6 m6 c6 L2.span q6 n6 d6 L2) := Lib.hid (FreshU.drew (FreshU.later rfl ⟨_, _, _, _, _, _, rfl, hcc, hoff⟩ hb HBL.out))
                  clear hcc hoff hb
                  have cZ := HZ6.out.c
                  have fZ := HZ6.out.f
                  have lZ := HZ6.out.lt
                  refine op_store (w1 := ((w6.setCell ⟨w5.heap.size, 0, none⟩ (.slice p6 m6 c6)).setCell ⟨w5.heap.size, 1, none⟩ (.int .i64 L2.span)).setCell ⟨w5.heap.size, 2, none⟩ (.slice q6 n6 d6)) rfl (by rfl) (by go_simp) ⟨HS0.out _ (set3_below HB6.out (Nat.le_refl _) _ _ _), ?_⟩
                  try simp only [Act.put, List.setIfInBounds_toArray, List.set_cons_zero, List.set_cons_succ, List.getElem_toArray, List.getElem_cons_zero, List.getElem_cons_succ]
                  refine planT_stop ?_
                  simp only [List.drop_succ_cons, List.drop_zero]
                  clear cZ fZ lZ
                  go_wp2_with fail
                  go_meet
                  case rel => exact ⟨_, _, _, _, _, _, _, rfl, rfl, HFR.out⟩
            case rest =>
              as_aux_lemma =>
                obtain ⟨b2, p6, m6, c6, q6, n6, d6, rfl, rfl, hge, hkc, hlc, hbel⟩ := hcut
                obtain ⟨w8, hw8⟩ : ∃ w8, w8 = wc.drew := ⟨_, rfl⟩
                have HB8 : Hid (Below w5.heap.size w5 w8) := Lib.hid (by rw [hw8]; exact hbel.drew)
                have HK8 : Hid (Blk w8 b2 #[.slice p6 m6 c6, .int .i64 L2.span, .slice q6 n6 d6]) := Lib.hid (by rw [hw8]; exact hkc.drew)
                have HL8 : Hid (Lo (fun R => R = b) w8 (.agg #[.slice p6 m6 c6, .int .i64 L2.span, .slice q6 n6 d6]) L2) := Lib.hid (by rw [hw8]; exact hlc.below (Below.refl _ _).drew)
                have HU8 := Lib.hid (HU5.out.below HB8.out)
                have kD := (HD.out.below HB8.out).c
                have kX := HK8.out.c
                obtain ⟨p', mm, c', q', n', d', e, hcc, _⟩ := HL8.out
                injection e with e
                simp at e
                obtain ⟨⟨rfl, rfl, rfl⟩, rfl, rfl, rfl⟩ := e
                obtain rfl : n = m6 := HI2.out.ml.symm.trans hcc.ml
                obtain ⟨bm, offm, rfl, hbm, hcm⟩ := hcc.wdAt ia (by omega)
                rw [HV.out] at hcm
                have hiI : (ia : Int) < (n : Int) := by omega
                have eV : ((v : Int) != (v : Int)) = false := by simp
                clear hge hkc hlc hbel hcc HS0 HW
                go_upto_region 22 with fail
                refine region_plan (fun w' : World => w' = w8) 14 [(0, true), (1, true), (2, true), (3, true), (4, true), (5, true), (6, true), (7, true), (8, true), (9, true), (10, true), (11, true), (12, true), (13, true)] (by kernel_rfl) (by kernel_rfl) hw8.symm ?_
                rw [← hw8]
                clear hw8
                iterate 9
                  refine plan_read (v := ?_) rfl (by rfl) ?_ ?_
                  rotate_left
                  · intro w' hS
                    try dsimp only at hS
                    subst hS
                    go_simp
                    try with_reducible rfl
                  try simp only [Act.put, List.setIfInBounds_toArray, List.set_cons_zero, List.set_cons_succ, List.getElem_toArray, List.getElem_cons_zero, List.getElem_cons_succ]
                refine plan_read (v := .int .i64 (ia : Int)) rfl (by rfl) (by intro w' hS; go_simp) ?_
                try simp only [Act.put, List.setIfInBounds_toArray, List.set_cons_zero, List.set_cons_succ, List.getElem_toArray, List.getElem_cons_zero, List.getElem_cons_succ]
                iterate 4
                  refine plan_read (v := ?_) rfl (by rfl) ?_ ?_
                  rotate_left
                  · intro w' hS
                    try dsimp only at hS
                    subst hS
                    go_simp
                    try with_reducible rfl
                  try simp only [Act.put, List.setIfInBounds_toArray, List.set_cons_zero, List.set_cons_succ, List.getElem_toArray, List.getElem_cons_zero, List.getElem_cons_succ]
                refine plan_nil ?_
                simp only [List.drop_succ_cons, List.drop_zero]
                clear hta hn0
                have kK := HU8.out.var
                have HKB := Lib.hid (HKM.out.below HB8.out)
                have kB := HKB.out.c
                have fB := HKB.out.f
                have lB := HKB.out.lt
                go_upto_region 37 with fail
                have HU9 := Lib.hid (HU8.out.put HL8.out)
                obtain ⟨w9, hw9⟩ : ∃ z, z = ((w8.setCell ⟨b, 0, none⟩ (.slice (some ⟨bm, offm, none⟩) n c6)).setCell ⟨b, 1, none⟩ (.int .i64 L2.span)).setCell ⟨b, 2, none⟩ (.slice q6 n6 d6) := ⟨_, rfl⟩
                rw [← hw9] at HU9 ⊢
                clear hw9 kK kB fB lB kD kX hcm eV HU8 HKB HK8 HL8 HU5 HKM HD HB8
                obtain ⟨pz, mz, cz, qz, nz, dz, hk, hlo, hlc⟩ := HU9.out.var.lo
                have HK := Lib.hid hk
                have HMZ : Hid (mz = n) := Lib.hid (hlc.ml.symm.trans HI2.out.ml)
                rw [HMZ.out] at HK
                have hq := right_any _ _ L2 w9 hlo
                rw [right_iff.2 HI2.out.rt, HMZ.out] at hq
                have HQ := Lib.hid hq
                have kK := HK.out.c
                clear hk hlo hlc hq HMZ
                go_upto_region 37 with fail
                go_wp2_with fail
                refine HQ.out.mono ?_
                clear HQ kK
                rintro e wt ⟨rfl, hb⟩
                have HUT := Lib.hid (HU9.out.below hb)
                have kK := (HK.out.below hb).c
                have eN : ((n : Int) != (n : Int)) = false := by simp
                clear hb HU9 HK
                go_wp2_with fail
                go_roundw
                case rel => exact ⟨k + 1, f, sp, L2, _, _, _, _, _, by omega, by omega, by go_num, rfl, rfl, HI2.out, HUT.out⟩
                case measure => simp [intOf]; omega
        · as_aux_lemma =>
            go_upto_region 26 with fail
            clear er kD
            obtain ⟨hE, hL2e, hI2⟩ := HINV.out.next (by omega)
            have hq := next_any (fun R => R = b) _ L w5 HLM.out HLT.out
            rw [hE, hL2e] at hq
            rw [hL2e] at hI2
            obtain ⟨s2, hs2⟩ : ∃ z : Int, z = ((sp + 1 : Nat) : Int) := ⟨_, rfl⟩
            rw [← hs2] at hq hI2
            obtain ⟨L2, hL2⟩ : ∃ z, z = (⟨L.mem, s2, L.list⟩ : Lg) := ⟨_, rfl⟩
            rw [← hL2] at hq hI2
            have HI2 := Lib.hid hI2
            have HQC := Lib.hid hq
            have HSP : Hid (L2.span = s2 ∧ L2.mem = L.mem) := Lib.hid (by rw [hL2]; exact ⟨rfl, rfl⟩)
            have HS2 := Lib.hid hs2
            clear hq hI2 hL2e hE hL2 hs2
            have kK := HKM.out.c
            go_wp2_with fail
            refine HQC.out.mono ?_
            clear HQC kK
            rintro e w6 ⟨vv, rfl, hlo, hb⟩
            have HB6 : Hid (Below w5.heap.size w5 w6) := Lib.hid hb
            obtain ⟨p6, m6, c6, q6, n6, d6, rfl, hcc, hoff⟩ := hlo
            obtain rfl : n = m6 := HI2.out.ml.symm.trans hcc.ml
            have HL6 : Hid (Lo (fun R => R = b) w6 (.agg #[.slice p6 n c6, .int .i64 s2, .slice q6 n6 d6]) L2) := Lib.hid ⟨p6, n, c6, q6, n6, d6, by rw [HSP.out.1], hcc, hoff⟩
            rw [HSP.out.1]
            clear hb hcc hoff
            go_upto_region 27 with fail
            obtain ⟨b2, hb2⟩ : ∃ z, z = w6.heap.size := ⟨_, rfl⟩
            obtain ⟨w8, hw8⟩ : ∃ z, z = w6.alloc (.cells #[.slice p6 n c6, .int .i64 s2, .slice q6 n6 d6] 25) := ⟨_, rfl⟩
            have HA8 : Hid (Below w6.heap.size w6 w8) := Lib.hid (by rw [hw8]; exact (Below.refl _ _).alloc (Nat.le_refl _) _)
            have HK8 : Hid (Blk w8 b2 #[.slice p6 n c6, .int .i64 s2, .slice q6 n6 d6]) := Lib.hid (by rw [hw8, hb2]; exact Blk.new _ _ _)
            have HL8 := Lib.hid (HL6.out.below HA8.out)
            have HB8 : Hid (Below w5.heap.size w5 w8) := Lib.hid (HB6.out.trans (HA8.out.mono HB6.out.size))
            have HU8 := Lib.hid (HU5.out.below HB8.out)
            have HKB := Lib.hid (HKM.out.below HB8.out)
            rw [← hw8, ← hb2]
            clear hw8 hb2 HA8 HB6 HL6
            have kX := HK8.out.c
            have kB := HKB.out.c
            have f1 : IntKind.i64.wrap ((sp : Int) + 1) = s2 := by have := HS2.out; rw [IntKind.wrap_i64]; omega
            have f2 : wrap64 ((sp : Int) + 1) = s2 := by have := HS2.out; unfold wrap64; omega
            have eS : (s2 != s2) = false := by simp
            have fB := HKB.out.f
            have lB := HKB.out.lt
            go_upto_region 30 with fail
            have HU9 := Lib.hid (HU8.out.put HL8.out)
            obtain ⟨w9, hw9⟩ : ∃ z, z = ((w8.setCell ⟨b, 0, none⟩ (.slice p6 n c6)).setCell ⟨b, 1, none⟩ (.int .i64 s2)).setCell ⟨b, 2, none⟩ (.slice q6 n6 d6) := ⟨_, rfl⟩
            have HK9 : Hid (Blk w9 b #[.slice p6 n c6, .int .i64 s2, .slice q6 n6 d6]) := Lib.hid (by rw [hw9]; exact set3_same HKB.out _ _ _)
            have HL9 : Hid (Sl w9 p6 n (wdC L.mem)) := Lib.hid (by
              have h0 := HL8.out.set3 (R := b) rfl (.slice p6 n c6) (.int .i64 s2) (.slice q6 n6 d6)
              rw [← hw9] at h0
              obtain ⟨p', m', c', q', n', d', e, hcc, _⟩ := h0
              injection e with e
              simp at e
              obtain ⟨⟨rfl, rfl, rfl⟩, _⟩ := e
              have := hcc.ms
              rw [HSP.out.2] at this
              exact this)
            rw [← hw9] at HU9 ⊢
            clear hw9 kB fB lB kX f1 f2 eS HU8 HKB HK8 HL8 HU5 HKM HD HB8
            obtain ⟨kN, hkN⟩ : ∃ z, z = sp + 1 := ⟨_, rfl⟩
            have hkN2 : s2 = (kN : Int) := by rw [hkN]; exact HS2.out
            rw [hkN2] at HK9 ⊢
            have HKN1 : Hid (kN = sp + 1) := Lib.hid hkN
            have HWL := Lib.hid HINV.out.wl
            have HWN := Lib.hid HU9.out.was.wl
            have HKNN : Hid (kN ≤ N) := Lib.hid (by have := HWL.out; have := HWN.out; have := HKN1.out; omega)
            have HML2 : Hid (L.mem.length = n) := Lib.hid HINV.out.ml
            obtain ⟨hsl, hq2⟩ := cut_hh q N c kN HKNN.out HU9.out.was.cap
            have HSX : Hid (Sl w9 q kN (xs.take kN)) := Lib.hid (fun h0 => by
              obtain ⟨bb, oo, h1, h2, h3⟩ := HU9.out.was.sl (by have := HKNN.out; omega)
              refine ⟨bb, oo, h1, h2, fun j hj => ?_⟩
              rw [List.length_take] at hj
              rw [h3 j (by omega), List.getElem?_take_of_lt (by omega)])
            have HXL : Hid ((xs.take kN).length = kN) := Lib.hid (by rw [List.length_take, HU9.out.was.len]; have := HKNN.out; omega)
            have HX1 : Hid (∀ u ∈ xs.take kN, u.oneCell' = true) := Lib.hid (fun u hu => HU9.out.was.one u (List.mem_of_mem_take hu))
            obtain ⟨i1, hi1, hy0, hy1, hy2⟩ := info_parts info22
            have HI22 := Lib.hid (And.intro hi1 (And.intro hy0 (And.intro hy1 hy2)))
            have HBL9 : Hid (b < w9.heap.size) := Lib.hid HU9.out.var.lt
            have HS0 : Hid (∀ W, Below w9.heap.size w9 W → ∀ j, W.cell? ⟨b, j, none⟩ = (#[.slice p6 n c6, .int .i64 (kN : Int), .slice q6 n6 d6] : Array Value)[j]?) := Lib.hid (fun W hb => (HK9.out.below hb).c)
            clear hi1 hy0 hy1 hy2 hq2 hkN2 hkN
            refine region_plan (fun V : World => ∀ j, V.cell? ⟨b, j, none⟩ = (#[.slice p6 n c6, .int .i64 (kN : Int), .slice q6 n6 d6] : Array Value)[j]?) 11 [(0, true), (1, true), (2, true), (3, true), (4, true), (5, true), (7, true), (8, true), (6, false), (9, false), (10, false)] (by kernel_rfl) (by kernel_rfl) (HS0.out _ (Below.refl _ _).drew) ?_
            iterate 5
              refine plan_read (v := ?_) rfl (by rfl) ?_ ?_
              rotate_left
              · intro w' hS
                try dsimp only at hS
                go_simp
                try with_reducible rfl
              try simp only [Act.put, List.setIfInBounds_toArray, List.set_cons_zero, List.set_cons_succ, List.getElem_toArray, List.getElem_cons_zero, List.getElem_cons_succ]
            refine plan_read (v := .slice q kN kN) rfl (by rfl) (by intro w' hS; go_simp) ?_
            try simp only [Act.put, List.setIfInBounds_toArray, List.set_cons_zero, List.set_cons_succ, List.getElem_toArray, List.getElem_cons_zero, List.getElem_cons_succ]
            iterate 2
              refine plan_read (v := ?_) rfl (by rfl) ?_ ?_
              rotate_left
              · intro w' hS
                try dsimp only at hS
                go_simp
                try with_reducible rfl
              try simp only [Act.put, List.setIfInBounds_toArray, List.set_cons_zero, List.set_cons_succ, List.getElem_toArray, List.getElem_cons_zero, List.getElem_cons_succ]
            obtain ⟨wa, hwa2⟩ : ∃ z, z = w9.drew.alloc (.cells #[] 26) := ⟨_, rfl⟩
            have HBa : Hid (Below w9.heap.size w9 wa) := Lib.hid (by rw [hwa2]; exact (Below.refl _ _).drew.alloc (Nat.le_refl _) _)
            have HOa : Hid (wa.ownsRow w9.heap.size 26 1 (.slice (some ⟨w9.heap.size, 0, none⟩) 0 0) 0 []) := Lib.hid (by rw [hwa2]; exact fresh_made (w := w9.drew) (Nat.le_refl _))
            refine plan_make (v := .slice (some ⟨w9.heap.size, 0, none⟩) 0 0) (w1 := wa) rfl (by rfl) (by rw [hwa2]; go_simp) (HS0.out _ HBa.out) ?_
            try simp only [Act.put, List.setIfInBounds_toArray, List.set_cons_zero, List.set_cons_succ, List.getElem_toArray, List.getElem_cons_zero, List.getElem_cons_succ]
            clear hwa2
            show wpOp _ _ _ 9 _ _ _
            refine op_wp rfl (by rfl) ?_
            try simp only [List.getElem_toArray, List.getElem_cons_zero, List.getElem_cons_succ]
            refine (wp_append_sl _ _ 22 rfl w9.heap.size 26 i0 (.int .u32 0) 1 4 Try.underlying22 HI.out.1 HI.out.2.1 HI.out.2.2.1 HI.out.2.2.2 rfl (by decide) _ 0 [] rfl HOa.out p6 n c6 (wdC L.mem) rfl (by rw [wdC_len, HML2.out, Nat.mul_one]) (HL9.out.below HBa.out) (wdC_one _) (by unfold maxLen; omega) (by omega) HBa.out.size ?_)
            intro v5 wb g1 g2 g3
            have hrr : wb.ownsRow w9.heap.size 26 1 v5 n (wdC L.mem) := by simpa using g1
            have HBb : Hid (Below w9.heap.size w9 wb) := Lib.hid (HBa.out.grown g2 HBa.out.size (fun k hk => by injection hk with hk; exact Nat.le_of_eq hk))
            obtain ⟨p5, c5, rfl, _⟩ := own_cap hrr
            have HRR := Lib.hid hrr
            clear g1 g2 g3 hrr HBa HOa HL9
            refine ⟨HS0.out _ HBb.out, ?_⟩
            try simp only [Act.put, List.setIfInBounds_toArray, List.set_cons_zero, List.set_cons_succ, List.getElem_toArray, List.getElem_cons_zero, List.getElem_cons_succ]
            obtain ⟨w7, hw7⟩ : ∃ w7, w7 = wb.alloc (.cells #[.slice p5 n c5] 22) := ⟨_, rfl⟩
            have HB7 : Hid (Below w9.heap.size w9 w7) := Lib.hid (by rw [hw7]; exact HBb.out.alloc HBb.out.size _)
            have HNW : Hid (Blk w7 wb.heap.size [Value.slice p5 n c5].toArray) := Lib.hid (by rw [hw7]; exact Blk.new _ _ _)
            have HRR7 : Hid (w7.ownsRow w9.heap.size 26 1 (.slice p5 n c5) n (wdC L.mem)) := Lib.hid (by rw [hw7]; exact own_below HRR.out ((Below.refl wb.heap.size wb).alloc (Nat.le_refl _) _))
            refine plan_make (v := .slice (some ⟨wb.heap.size, 0, none⟩) 1 1) (w1 := w7) rfl (by rfl) (by rw [hw7]; go_simp) (HS0.out _ HB7.out) ?_
            try simp only [Act.put, List.setIfInBounds_toArray, List.set_cons_zero, List.set_cons_succ, List.getElem_toArray, List.getElem_cons_zero, List.getElem_cons_succ]
            refine plan_nil ?_
            simp only [List.drop_succ_cons, List.drop_zero]
            have hb7 : b < w7.heap.size := Nat.lt_of_lt_of_le HBL9.out HB7.out.size
            have hkb : kN ≤ 101 := by have := HKN1.out; omega
            have HXX := Lib.hid (HSX.out.below HB7.out)
            have HOLD : Hid (∀ g, q = some g → ∀ j u, (xs.take kN)[j]? = some u → w7.cell? (g.add j) = some u) := Lib.hid (fun g e j u hj => sl_holds HXX.out (by have := HKN1.out; omega) g e j u hj)
            have HNN : Hid (q = none → kN = 0 ∧ kN = 0) := Lib.hid (fun e => by
              obtain ⟨bb, oo, _, h2, _⟩ := HXX.out (by have := HKN1.out; omega)
              rw [h2] at e; cases e)
            have HNEW : Hid (∀ j u, [Value.slice p5 n c5][j]? = some u → w7.cell? ((⟨wb.heap.size, 0, none⟩ : Addr).add j) = some u) := Lib.hid (fun j u hj => by
              have := HNW.out.c j
              rw [show (⟨wb.heap.size, 0, none⟩ : Addr).add j = ⟨wb.heap.size, j, none⟩ by (simp [Addr.add]; omega), this, List.getElem?_toArray]
              exact hj)
            clear hw7 HXX HSX HBb HRR HS0 HK9
            go_wp2_with (first | (at_builtin; refine wpList_append_grows _ rfl _ _ 43 rfl 22 i1 (.slice none 0 0) 1 24 Try.underlying43 HI22.out.1 HI22.out.2.1 HI22.out.2.2.1 HI22.out.2.2.2 rfl (by decide) q kN kN (xs.take kN) rfl HNN.out (by rw [HXL.out, Nat.mul_one]) HOLD.out ⟨wb.heap.size, 0, none⟩ 1 1 [.slice p5 n c5] rfl rfl HNEW.out (by intro u hu; rw [List.mem_singleton.1 hu]; rfl) (by omega) (by unfold maxLen; omega) (by omega) ?_))
            intro v8 w8 g1 g2
            obtain ⟨p8, c8, rfl, _⟩ := own_cap g1
            have hb8 : Below w7.heap.size w7 w8 := (Below.refl _ _).grown g2 (Nat.le_refl _) (fun g hg => by cases hg)
            have HB8' : Below w9.heap.size w9 w8 := HB7.out.trans (hb8.mono HB7.out.size)
            have HUX : Hid (UB w w8 b L2 p8 n (kN + 1) c8 (xs.take kN ++ [.slice p5 n c5]) (Ws.take kN ++ [L.mem])) := Lib.hid ⟨HU9.out.var.below HB8', Was.more (w := w9) (base := w9.heap.size) (base2 := w7.heap.size) (k := kN) (HU9.out.was.below HB8') HKNN.out HBL9.out hb7 (own_below HRR7.out hb8) g1, HU9.out.hb.trans (HB8'.mono HU9.out.hb.size), HU9.out.ge⟩
            have HI3 : Hid (Inv n L2 f kN (Ws.take kN ++ [L.mem]) (k + 1)) := Lib.hid (by have h := HI2.out; rw [← HKN1.out] at h; exact h)
            clear g1 g2 hb8 HB8' hb7 HI2 HOLD HNN HNEW HNW HRR7 HU9 HB7 HXL HX1 HI22 HBL9 HWL HWN HSP HS2 hsl
            obtain ⟨pz, mz, cz, qz, nz, dz, hk, hlo, hlc⟩ := HUX.out.var.lo
            have HK := Lib.hid hk
            have HMZ : Hid (mz = n) := Lib.hid (hlc.ml.symm.trans HI3.out.ml)
            rw [HMZ.out] at HK
            have hq := right_any _ _ L2 w8 hlo
            rw [right_iff.2 HI3.out.rt, HMZ.out] at hq
            have HQ := Lib.hid hq
            have kK := HK.out.c
            clear hk hlo hlc hq HMZ
            go_upto_region 37 with fail
            go_wp2_with fail
            refine HQ.out.mono ?_
            clear HQ kK
            rintro e wt ⟨rfl, hb⟩
            have HUT := Lib.hid (HUX.out.below hb)
            have kK := (HK.out.below hb).c
            have eN : ((n : Int) != (n : Int)) = false := by simp
            clear hb HUX HK
            go_wp2_with fail
            go_roundw
            case rel => exact ⟨k + 1, f, kN, L2, _, _, _, _, _, by omega, by omega, by go_num, rfl, rfl, HI3.out, HUT.out⟩
            case measure => simp [intOf]; omega
        · as_aux_lemma =>
            obtain ⟨y, hy⟩ : ∃ y, y = sp - f := ⟨_, rfl⟩
            obtain ⟨z, hz⟩ : ∃ z, z = y + 1 := ⟨_, rfl⟩
            obtain ⟨x, hx⟩ : ∃ x, x = t % z := ⟨_, rfl⟩
            obtain ⟨u, hu⟩ : ∃ u, u = f + x := ⟨_, rfl⟩
            have hxz : x < z := by rw [hx]; exact Nat.mod_lt _ (by omega)
            have hfu : f ≤ u := by omega
            have hus : u ≤ sp := by omega
            have hx5 : ((t : Int)).tmod (z : Int) = (x : Int) := by rw [Int.tmod_eq_emod_of_nonneg (by omega), hx]; exact (Int.natCast_emod t z).symm
            have hz0 : ¬ z = 0 := by omega
            have f1 : IntKind.i64.wrap ((sp : Int) - (f : Int)) = (y : Int) := by rw [IntKind.wrap_i64]; omega
            have f2 : wrap64 ((sp : Int) - (f : Int)) = (y : Int) := by unfold wrap64; omega
            have f3 : IntKind.i64.wrap ((y : Int) + 1) = (z : Int) := by rw [IntKind.wrap_i64]; omega
            have f4 : wrap64 ((y : Int) + 1) = (z : Int) := by unfold wrap64; omega
            have f5 : IntKind.i64.wrap ((f : Int) + (x : Int)) = (u : Int) := by rw [IntKind.wrap_i64]; omega
            have f6 : wrap64 ((f : Int) + (x : Int)) = (u : Int) := by unfold wrap64; omega
            clear hx hu hy hz hxz
            have kM := HKM.out.c
            go_upto_region 33 with fail
            clear f1 f2 f3 f4 f5 f6 hx5 hz0 kD kM er
            obtain ⟨hE, hSP, hMM, hI2⟩ := HINV.out.back hfu hus
            have hq := back_any (fun R => R = b) _ L (u : Int) w5 HLM.out HLT.out
            rw [hE] at hq
            obtain ⟨L2, hL2⟩ : ∃ z, z = backL L (u : Int) := ⟨_, rfl⟩
            rw [← hL2] at hq hSP hMM hI2
            have HI2 := Lib.hid hI2
            have HQC := Lib.hid hq
            have HSP := Lib.hid hSP
            have HMM := Lib.hid hMM
            have HMF := Lib.hid hI2.ml
            clear hq hI2 hE hL2 hSP hMM
            have kK := HKM.out.c
            go_wp2_with fail
            refine HQC.out.mono ?_
            clear HQC kK
            rintro e w6 ⟨vv, rfl, hlo, hb⟩
            have HB6 : Hid (Below w5.heap.size w5 w6) := Lib.hid hb
            obtain ⟨p6, m6, c6, q6, n6, d6, rfl, hcc, hoff⟩ := hlo
            obtain rfl : n = m6 := HMF.out.symm.trans hcc.ml
            have HL6 : Hid (Lo (fun R => R = b) w6 (.agg #[.slice p6 n c6, .int .i64 (u : Int), .slice q6 n6 d6]) L2) := Lib.hid ⟨p6, n, c6, q6, n6, d6, by rw [HSP.out], hcc, hoff⟩
            rw [HSP.out]
            clear hb hcc hoff
            go_upto_region 34 with fail
            obtain ⟨b2, hb2⟩ : ∃ z, z = w6.heap.size := ⟨_, rfl⟩
            obtain ⟨w8, hw8⟩ : ∃ z, z = w6.alloc (.cells #[.slice p6 n c6, .int .i64 (u : Int), .slice q6 n6 d6] 25) := ⟨_, rfl⟩
            have HA8 : Hid (Below w6.heap.size w6 w8) := Lib.hid (by rw [hw8]; exact (Below.refl _ _).alloc (Nat.le_refl _) _)
            have HK8 : Hid (Blk w8 b2 #[.slice p6 n c6, .int .i64 (u : Int), .slice q6 n6 d6]) := Lib.hid (by rw [hw8, hb2]; exact Blk.new _ _ _)
            have HL8 := Lib.hid (HL6.out.below HA8.out)
            have HB8 : Hid (Below w5.heap.size w5 w8) := Lib.hid (HB6.out.trans (HA8.out.mono HB6.out.size))
            have HU8 := Lib.hid (HU5.out.below HB8.out)
            rw [← hw8, ← hb2]
            clear hw8 hb2 HA8 HB6 HL6 HU5
            have hwn : u < N := by have := HU8.out.was.wl; have := HINV.out.wl; omega
            obtain ⟨gq, offq, pr, dr, rfl, hgl, hgc, hgs, hgn⟩ := HU8.out.was.at_ u hwn
            have HWO : Hid (∀ W, Below w8.heap.size w8 W → Calls Try.prog 20 #[.slice p6 n c6, .slice pr n dr] W fun e w' => e = .returned (.bool true) ∧ Below W.heap.size W w') := Lib.hid (fun W hW => by
              have h0 := HL8.out.below hW
              obtain ⟨p', m', c', q', n', d', e, hcc, _⟩ := h0
              injection e with e
              simp at e
              obtain ⟨⟨rfl, rfl, rfl⟩, _⟩ := e
              have hms := hcc.ms
              have hml := HMF.out
              have := words_any p6 pr c6 dr L2.mem W (by rw [hml]; exact hms) (by rw [hml, HMM.out]; exact hgs.below hW) (by rw [hml]; omega)
              rwa [hml] at this)
            have HS0 : Hid (∀ W, Below w8.heap.size w8 W → ((∀ j, W.cell? ⟨b2, j, none⟩ = (#[.slice p6 n c6, .int .i64 (u : Int), .slice q6 n6 d6] : Array Value)[j]?) ∧ W.cell? ⟨gq, offq + u, none⟩ = some (.slice pr n dr)) ∧ Below w8.heap.size w8 W) := Lib.hid (fun W hb => ⟨⟨(HK8.out.below hb).c, (hb.cell (p := ⟨gq, offq + u, none⟩) hgl).trans hgc⟩, hb⟩)
            have HKB := Lib.hid (HKM.out.below HB8.out)
            have hiI : (0 : Int) ≤ (u : Int) := by omega
            have hiI2 : (u : Int) < (N : Int) := by omega
            have eU : ((u : Int) != (u : Int)) = false := by simp
            clear hgl hgc hgs hgn HKM HD HB8
            refine region_plan (fun W : World => ((∀ j, W.cell? ⟨b2, j, none⟩ = (#[.slice p6 n c6, .int .i64 (u : Int), .slice q6 n6 d6] : Array Value)[j]?) ∧ W.cell? ⟨gq, offq + u, none⟩ = some (.slice pr n dr)) ∧ Below w8.heap.size w8 W) 16 [(0, true), (1, true), (2, true), (3, true), (4, true), (5, true), (6, true), (7, true), (8, true), (9, true), (10, true), (11, true), (12, true), (13, true), (14, true), (15, false)] (by kernel_rfl) (by kernel_rfl) (HS0.out _ (Below.refl _ _).drew) ?_
            iterate 15
              refine plan_read (v := ?_) rfl (by rfl) ?_ ?_
              rotate_left
              · intro w' hS
                try dsimp only at hS
                obtain ⟨⟨hS1, hS2⟩, hS3⟩ := hS
                go_simp
                try with_reducible rfl
              try simp only [Act.put, List.setIfInBounds_toArray, List.set_cons_zero, List.set_cons_succ, List.getElem_toArray, List.getElem_cons_zero, List.getElem_cons_succ]
            refine plan_call (F := 20) (args := ?_) rfl (by rfl) ?_ ?_
            rotate_left
            · go_simp
              rfl
            refine (HWO.out w8.drew (Below.refl _ _).drew).mono ?_
            rintro e w9 ⟨rfl, hb⟩
            have HB9 : Hid (Below w8.heap.size w8 w9) := Lib.hid ((Below.refl _ _).drew.trans hb)
            clear hb
            refine ⟨_, rfl, HS0.out _ HB9.out, ?_⟩
            try simp only [Act.put, List.setIfInBounds_toArray, List.set_cons_zero, List.set_cons_succ, List.getElem_toArray, List.getElem_cons_zero, List.getElem_cons_succ]
            refine plan_nil ?_
            simp only [List.drop_succ_cons, List.drop_zero]
            have HU9 := Lib.hid (HU8.out.below HB9.out)
            have HL9 := Lib.hid (HL8.out.below HB9.out)
            have HK9 := Lib.hid (HK8.out.below HB9.out)
            have HKB9 := Lib.hid (HKB.out.below HB9.out)
            have kX := HK9.out.c
            have kB := HKB9.out.c
            have fB := HKB9.out.f
            have lB := HKB9.out.lt
            clear HU8 HL8 HK8 HKB HS0 HWO HB9
            go_upto_region 37 with fail
            have HUA := Lib.hid (HU9.out.put HL9.out)
            obtain ⟨wa, hwa⟩ : ∃ z, z = ((w9.setCell ⟨b, 0, none⟩ (.slice p6 n c6)).setCell ⟨b, 1, none⟩ (.int .i64 (u : Int))).setCell ⟨b, 2, none⟩ (.slice q6 n6 d6) := ⟨_, rfl⟩
            rw [← hwa] at HUA ⊢
            clear hwa kB fB lB kX HU9 HK9 HL9 HKB9 hiI hiI2 eU
            obtain ⟨pz, mz, cz, qz, nz, dz, hk, hlo, hlc⟩ := HUA.out.var.lo
            have HK := Lib.hid hk
            have HMZ : Hid (mz = n) := Lib.hid (hlc.ml.symm.trans HI2.out.ml)
            rw [HMZ.out] at HK
            have hq := right_any _ _ L2 wa hlo
            rw [right_iff.2 HI2.out.rt, HMZ.out] at hq
            have HQ := Lib.hid hq
            have kK := HK.out.c
            clear hk hlo hlc hq HMZ
            go_upto_region 37 with fail
            go_wp2_with fail
            refine HQ.out.mono ?_
            clear HQ kK
            rintro e wt ⟨rfl, hb⟩
            have HUT := Lib.hid (HUA.out.below hb)
            have kK := (HK.out.below hb).c
            have eN : ((n : Int) != (n : Int)) = false := by simp
            clear hb HUA HK
            go_wp2_with fail
            go_roundw
            case rel => exact ⟨k + 1, f, u, L2, _, _, _, _, _, by omega, by omega, by go_num, rfl, rfl, HI2.out, HUT.out⟩
            case measure => simp [intOf]; omega
        · as_aux_lemma =>
            obtain ⟨y, hy⟩ : ∃ y, y = sp - f := ⟨_, rfl⟩
            obtain ⟨z, hz⟩ : ∃ z, z = y + 1 := ⟨_, rfl⟩
            obtain ⟨x, hx⟩ : ∃ x, x = t % z := ⟨_, rfl⟩
            obtain ⟨u, hu⟩ : ∃ u, u = f + x := ⟨_, rfl⟩
            have hxz : x < z := by rw [hx]; exact Nat.mod_lt _ (by omega)
            have hfu : f ≤ u := by omega
            have hus : u ≤ sp := by omega
            have hx5 : ((t : Int)).tmod (z : Int) = (x : Int) := by rw [Int.tmod_eq_emod_of_nonneg (by omega), hx]; exact (Int.natCast_emod t z).symm
            have hz0 : ¬ z = 0 := by omega
            have f1 : IntKind.i64.wrap ((sp : Int) - (f : Int)) = (y : Int) := by rw [IntKind.wrap_i64]; omega
            have f2 : wrap64 ((sp : Int) - (f : Int)) = (y : Int) := by unfold wrap64; omega
            have f3 : IntKind.i64.wrap ((y : Int) + 1) = (z : Int) := by rw [IntKind.wrap_i64]; omega
            have f4 : wrap64 ((y : Int) + 1) = (z : Int) := by unfold wrap64; omega
            have f5 : IntKind.i64.wrap ((f : Int) + (x : Int)) = (u : Int) := by rw [IntKind.wrap_i64]; omega
            have f6 : wrap64 ((f : Int) + (x : Int)) = (u : Int) := by unfold wrap64; omega
            clear hx hu hy hz hxz
            have kM := HKM.out.c
            go_upto_region 15 with fail
            clear f1 f2 f3 f4 f5 f6 hx5 hz0 kD kM er
            obtain ⟨hE, hMM, hRO, hI2⟩ := HINV.out.trim hfu hus
            have hq := trim_any (fun R => R = b) _ L (u : Int) w5 HLM.out HLT.out
            rw [hE] at hq
            have hsp2 : (trimL L (u : Int)).span = (sp : Int) := hI2.sp_
            obtain ⟨L2, hL2⟩ : ∃ z, z = trimL L (u : Int) := ⟨_, rfl⟩
            rw [← hL2] at hq hsp2 hMM hI2 hRO
            obtain ⟨r1, hr1⟩ : ∃ z, z = roomL L := ⟨_, rfl⟩
            obtain ⟨r2, hr2⟩ : ∃ z, z = roomL L2 := ⟨_, rfl⟩
            have HI2 := Lib.hid hI2
            have HQC := Lib.hid hq
            have HSP := Lib.hid hsp2
            have HMM := Lib.hid hMM
            have HMF := Lib.hid hI2.ml
            have eR : decide (r2 < r1) = false := decide_eq_false (by rw [hr1, hr2]; omega)
            have HR1 := Lib.hid hr1
            have HR2 := Lib.hid hr2
            clear hq hI2 hE hL2 hsp2 hMM hr1 hr2 hRO
            have kK := HKM.out.c
            go_wp2_with fail
            refine HQC.out.mono ?_
            clear HQC kK
            rintro e w6 ⟨vv, rfl, hlo, hb⟩
            have HB6 : Hid (Below w5.heap.size w5 w6) := Lib.hid hb
            obtain ⟨p6, m6, c6, q6, n6, d6, rfl, hcc, hoff⟩ := hlo
            obtain rfl : n = m6 := HMF.out.symm.trans hcc.ml
            have HL6 : Hid (Lo (fun R => R = b) w6 (.agg #[.slice p6 n c6, .int .i64 (sp : Int), .slice q6 n6 d6]) L2) := Lib.hid ⟨p6, n, c6, q6, n6, d6, by rw [HSP.out], hcc, hoff⟩
            rw [HSP.out]
            clear hb hcc hoff
            go_upto_region 16 with fail
            obtain ⟨b2, hb2⟩ : ∃ z, z = w6.heap.size := ⟨_, rfl⟩
            obtain ⟨w8, hw8⟩ : ∃ z, z = w6.alloc (.cells #[.slice p6 n c6, .int .i64 (sp : Int), .slice q6 n6 d6] 25) := ⟨_, rfl⟩
            have HA8 : Hid (Below w6.heap.size w6 w8) := Lib.hid (by rw [hw8]; exact (Below.refl _ _).alloc (Nat.le_refl _) _)
            have HK8 : Hid (Blk w8 b2 #[.slice p6 n c6, .int .i64 (sp : Int), .slice q6 n6 d6]) := Lib.hid (by rw [hw8, hb2]; exact Blk.new _ _ _)
            have HL8 := Lib.hid (HL6.out.below HA8.out)
            have HB8 : Hid (Below w5.heap.size w5 w8) := Lib.hid (HB6.out.trans (HA8.out.mono HB6.out.size))
            have HU8 := Lib.hid (HU5.out.below HB8.out)
            have HLM8 := Lib.hid (HLM.out.below HB8.out)
            have HKB := Lib.hid (HKM.out.below HB8.out)
            rw [← hw8, ← hb2]
            clear hw8 hb2 HA8 HB6 HL6 HU5 HLM
            have HWO : Hid (∀ W, Below w8.heap.size w8 W → Calls Try.prog 20 #[.slice p6 n c6, .slice pm n cm] W fun e w' => e = .returned (.bool true) ∧ Below W.heap.size W w') := Lib.hid (fun W hW => by
              have h0 := HL8.out.below hW
              obtain ⟨p', m', c', q', n', d', e, hcc, _⟩ := h0
              injection e with e
              simp at e
              obtain ⟨⟨rfl, rfl, rfl⟩, _⟩ := e
              have h1 := HLM8.out.below hW
              obtain ⟨p', m', c', q', n', d', e, hcd, _⟩ := h1
              injection e with e
              simp at e
              obtain ⟨⟨rfl, rfl, rfl⟩, _⟩ := e
              have hms := hcc.ms
              have hmt := hcd.ms
              have hml := HMF.out
              have := words_any p6 pm c6 cm L2.mem W (by rw [hml]; exact hms) (by rw [hml, HMM.out]; exact hmt) (by rw [hml]; omega)
              rwa [hml] at this)
            have HRA : Hid (∀ W, Below w8.heap.size w8 W → Calls Try.prog 19 #[.agg #[.slice p6 n c6, .int .i64 (sp : Int), .slice q6 n6 d6]] W fun e w' => e = .returned (.int .i64 r2) ∧ Below W.heap.size W w') := Lib.hid (fun W hW => by rw [HR2.out]; exact room_any _ _ _ _ (HL8.out.below hW))
            have HRB : Hid (∀ W, Below w8.heap.size w8 W → Calls Try.prog 19 #[.agg #[.slice pm n cm, .int .i64 (sp : Int), .slice qm nm dm]] W fun e w' => e = .returned (.int .i64 r1) ∧ Below W.heap.size W w') := Lib.hid (fun W hW => by rw [HR1.out]; exact room_any _ _ _ _ (HLM8.out.below hW))
            have HS0 : Hid (∀ W, Below w8.heap.size w8 W → ((∀ j, W.cell? ⟨b2, j, none⟩ = (#[.slice p6 n c6, .int .i64 (sp : Int), .slice q6 n6 d6] : Array Value)[j]?) ∧ ∀ j, W.cell? ⟨b, j, none⟩ = (#[.slice pm n cm, .int .i64 (sp : Int), .slice qm nm dm] : Array Value)[j]?) ∧ Below w8.heap.size w8 W) := Lib.hid (fun W hb => ⟨⟨(HK8.out.below hb).c, (HKB.out.below hb).c⟩, hb⟩)
            clear HKM HD HB8 HLT
            refine region_plan (fun W : World => ((∀ j, W.cell? ⟨b2, j, none⟩ = (#[.slice p6 n c6, .int .i64 (sp : Int), .slice q6 n6 d6] : Array Value)[j]?) ∧ ∀ j, W.cell? ⟨b, j, none⟩ = (#[.slice pm n cm, .int .i64 (sp : Int), .slice qm nm dm] : Array Value)[j]?) ∧ Below w8.heap.size w8 W) 15 [(0, true), (1, true), (2, true), (3, true), (4, true), (5, true), (6, true), (7, false), (8, true), (9, true), (10, true), (11, true), (13, true), (12, false), (14, false)] (by kernel_rfl) (by kernel_rfl) (HS0.out _ (Below.refl _ _).drew) ?_
            iterate 7
              refine plan_read (v := ?_) rfl (by rfl) ?_ ?_
              rotate_left
              · intro w' hS
                try dsimp only at hS
                obtain ⟨⟨hS1, hS2⟩, hS3⟩ := hS
                go_simp
                try with_reducible rfl
              try simp only [Act.put, List.setIfInBounds_toArray, List.set_cons_zero, List.set_cons_succ, List.getElem_toArray, List.getElem_cons_zero, List.getElem_cons_succ]
            refine plan_call (F := 20) (args := ?_) rfl (by rfl) ?_ ?_
            rotate_left
            · go_simp
              rfl
            refine (HWO.out w8.drew (Below.refl _ _).drew).mono ?_
            rintro e w9 ⟨rfl, hb⟩
            have HB9 : Hid (Below w8.heap.size w8 w9) := Lib.hid ((Below.refl _ _).drew.trans hb)
            clear hb
            refine ⟨_, rfl, HS0.out _ HB9.out, ?_⟩
            try simp only [Act.put, List.setIfInBounds_toArray, List.set_cons_zero, List.set_cons_succ, List.getElem_toArray, List.getElem_cons_zero, List.getElem_cons_succ]
            iterate 5
              refine plan_read (v := ?_) rfl (by rfl) ?_ ?_
              rotate_left
              · intro w' hS
                try dsimp only at hS
                obtain ⟨⟨hS1, hS2⟩, hS3⟩ := hS
                go_simp
                try with_reducible rfl
              try simp only [Act.put, List.setIfInBounds_toArray, List.set_cons_zero, List.set_cons_succ, List.getElem_toArray, List.getElem_cons_zero, List.getElem_cons_succ]
            refine plan_call (F := 19) (args := ?_) rfl (by rfl) ?_ ?_
            rotate_left
            · go_simp
              rfl
            refine (HRA.out w9 HB9.out).mono ?_
            rintro e wa ⟨rfl, hb⟩
            have HBa : Hid (Below w8.heap.size w8 wa) := Lib.hid (HB9.out.trans (hb.mono HB9.out.size))
            clear hb
            refine ⟨_, rfl, HS0.out _ HBa.out, ?_⟩
            try simp only [Act.put, List.setIfInBounds_toArray, List.set_cons_zero, List.set_cons_succ, List.getElem_toArray, List.getElem_cons_zero, List.getElem_cons_succ]
            refine plan_call (F := 19) (args := ?_) rfl (by rfl) ?_ ?_
            rotate_left
            · go_simp
              rfl
            refine (HRB.out wa HBa.out).mono ?_
            rintro e wb ⟨rfl, hb⟩
            have HBb : Hid (Below w8.heap.size w8 wb) := Lib.hid (HBa.out.trans (hb.mono HBa.out.size))
            clear hb
            refine ⟨_, rfl, HS0.out _ HBb.out, ?_⟩
            try simp only [Act.put, List.setIfInBounds_toArray, List.set_cons_zero, List.set_cons_succ, List.getElem_toArray, List.getElem_cons_zero, List.getElem_cons_succ]
            refine plan_nil ?_
            simp only [List.drop_succ_cons, List.drop_zero]
            have HU9 := Lib.hid (HU8.out.below HBb.out)
            have HL9 := Lib.hid (HL8.out.below HBb.out)
            have HK9 := Lib.hid (HK8.out.below HBb.out)
            have HKB9 := Lib.hid (HKB.out.below HBb.out)
            have kX := HK9.out.c
            have kB := HKB9.out.c
            have fB := HKB9.out.f
            have lB := HKB9.out.lt
            clear HU8 HL8 HK8 HKB HS0 HWO HRA HRB HB9 HBa HBb HLM8
            go_upto_region 37 with fail
            have HUA := Lib.hid (HU9.out.put HL9.out)
            obtain ⟨wc, hwc⟩ : ∃ z, z = ((wb.setCell ⟨b, 0, none⟩ (.slice p6 n c6)).setCell ⟨b, 1, none⟩ (.int .i64 (sp : Int))).setCell ⟨b, 2, none⟩ (.slice q6 n6 d6) := ⟨_, rfl⟩
            rw [← hwc] at HUA ⊢
            clear hwc kB fB lB kX HU9 HK9 HL9 HKB9 eR
            obtain ⟨pz, mz, cz, qz, nz, dz, hk, hlo, hlc⟩ := HUA.out.var.lo
            have HK := Lib.hid hk
            have HMZ : Hid (mz = n) := Lib.hid (hlc.ml.symm.trans HI2.out.ml)
            rw [HMZ.out] at HK
            have hq := right_any _ _ L2 wc hlo
            rw [right_iff.2 HI2.out.rt, HMZ.out] at hq
            have HQ := Lib.hid hq
            have kK := HK.out.c
            clear hk hlo hlc hq HMZ
            go_upto_region 37 with fail
            go_wp2_with fail
            refine HQ.out.mono ?_
            clear HQ kK
            rintro e wt ⟨rfl, hb⟩
            have HUT := Lib.hid (HUA.out.below hb)
            have kK := (HK.out.below hb).c
            have eN : ((n : Int) != (n : Int)) = false := by simp
            clear hb HUA HK
            go_wp2_with fail
            go_roundw
            case rel => exact ⟨k + 1, u, sp, L2, _, _, _, _, _, by omega, by omega, by go_num, rfl, rfl, HI2.out, HUT.out⟩
            case measure => simp [intOf]; omega
      · rw [decide_eq_false hgo]
        go_wp2_with fail
        go_ret
        exact ⟨rfl, HUB.out.hb⟩
end Go.Proofs.Ytbgllkjhgjoodaa
