/- CacheRight: the walk of the statement's function; no condition but that the cache reads. -/
import Derived.Test.YtoddmgaihggkjaaCacheRm
namespace Go.Proofs.Ytoddmgaihggkjaa
set_option linter.unusedVariables false
open Go.ChangeShapes Go.WideShapes Go.ChangeAt Go.RowKit

theorem blk_sl {w : World} {B n : Nat} {l : List Value} (h : Blk w B l.toArray) : Sl w (some ⟨B, 0, none⟩) n l := fun _ => ⟨B, 0, h.lt, rfl, fun j hj => by rw [Nat.zero_add, h.c j]; simp⟩
set_option maxHeartbeats 16000000 in
set_option maxRecDepth 100000 in
theorem right_main (p : Option Addr) (n c : Nat) (xs : List Value) (C : Ch) (a1 a2 : Int) (vx : Nat) (a4 a5 : Int) (w : World) (h : CcX w p n c xs C) (hx : vx < 4294967296) :
    Calls Try.prog 3 #[.agg #[.int .i64 C.sets, .int .i64 C.ways, .int .i64 C.clock, .slice p n c], .int .i64 a1, .int .i64 a2, .int .u32 vx, .int .i64 a4, .int .i64 a5] w fun e w' => e = .returned (.bool true) ∧ Below w.heap.size w w' := by
  have HX := Lib.hid h
  have HVX := Lib.hid hx
  have HSC : Hid (shortC C = true → Cc w p n c xs C ∧ n ≤ 10 ∧ ∀ k, (C.lines.getD k []).length ≤ 10) := Lib.hid (fun hs => short_cc h hs)
  clear h hx
  obtain ⟨w0, hw0⟩ : ∃ w0, w0 = w.alloc (.cells #[.int .i64 C.sets, .int .i64 C.ways, .int .i64 C.clock, .slice p n c] 24) := ⟨_, rfl⟩
  have HB0 : Hid (Below w.heap.size w w0) := Lib.hid (by rw [hw0]; exact (Below.refl _ _).alloc (Nat.le_refl _) _)
  have HA0 : Hid (Blk w0 w.heap.size #[.int .i64 C.sets, .int .i64 C.ways, .int .i64 C.clock, .slice p n c]) := Lib.hid (by rw [hw0]; exact Blk.new _ _ _)
  have HW0 := Lib.hid hw0
  clear hw0
  go_enter Try.func3, Try.ntmps3
  go_upto_region 1 with fail
  rw [← HW0.out]
  clear HW0
  go_wp2_with fail
  refine (awake_any _).mono ?_
  rintro e w1 ⟨rfl, hb1⟩
  have HA1 := Lib.hid (HA0.out.below hb1)
  have HB1 : Hid (Below w.heap.size w w1) := Lib.hid (HB0.out.trans (hb1.mono HB0.out.size))
  clear hb1 HA0 HB0
  have kA := HA1.out.c
  have hq := short_any p n c xs C w1 (HX.out.below HB1.out)
  go_wp2_with fail
  refine hq.mono ?_
  rintro e w2 ⟨rfl, hb2⟩
  have HA2 := Lib.hid (HA1.out.below hb2)
  have HB2 : Hid (Below w.heap.size w w2) := Lib.hid (HB1.out.trans (hb2.mono HB1.out.size))
  clear hb2 HA1 HB1 hq kA
  cases hs : shortC C with
  | false =>
    clear HSC HX
    go_wp2_with fail
    go_ret
    exact ⟨rfl, HB2.out⟩
  | true =>
    obtain ⟨hcc, hn10, hl10⟩ := HSC.out hs
    have HH := Lib.hid hcc
    have HL10 := Lib.hid hl10
    clear HSC HX hs hcc hl10
    have kA := HA2.out.c
    go_upto_region 6 with fail
    obtain ⟨bm, hbm⟩ : ∃ b, b = w2.heap.size := ⟨_, rfl⟩
    obtain ⟨w3, hw3⟩ : ∃ w3, w3 = w2.alloc (.cells #[.int .i64 C.sets, .int .i64 C.ways, .int .i64 C.clock, .slice p n c] 24) := ⟨_, rfl⟩
    have HB3 : Hid (Below w2.heap.size w2 w3) := Lib.hid (by rw [hw3]; exact (Below.refl _ _).alloc (Nat.le_refl _) _)
    have HM3 : Hid (Blk w3 bm #[.int .i64 C.sets, .int .i64 C.ways, .int .i64 C.clock, .slice p n c]) := Lib.hid (by rw [hw3, hbm]; exact Blk.new _ _ _)
    have HA3 := Lib.hid (HA2.out.below HB3.out)
    have HLT : Hid (w.heap.size < bm) := Lib.hid (by rw [hbm]; exact HA2.out.lt)
    have HBW3 : Hid (Below w.heap.size w w3) := Lib.hid (HB2.out.trans (HB3.out.mono HB2.out.size))
    rw [← hw3, ← hbm]
    clear hw3 hbm HB3 HA2 HB2 kA
    have kM := HM3.out.c
    have fM := HM3.out.f
    have lM := HM3.out.lt
    go_upto_region 7 with fail
    obtain ⟨w4, hw4⟩ : ∃ w4, w4 = w3.setCell ⟨bm, 3, none⟩ (.slice none 0 0) := ⟨_, rfl⟩
    have HM4 : Hid (Blk w4 bm #[.int .i64 C.sets, .int .i64 C.ways, .int .i64 C.clock, .slice none 0 0]) := Lib.hid (by rw [hw4]; exact HM3.out.set (n := 3) _ (by simp))
    have HA4 : Hid (Blk w4 w.heap.size #[.int .i64 C.sets, .int .i64 C.ways, .int .i64 C.clock, .slice p n c]) := Lib.hid (by rw [hw4]; exact HA3.out.other _ (by have := HLT.out; omega))
    have HB4 : Hid (Below w.heap.size w w4) := Lib.hid (by rw [hw4]; exact HBW3.out.setCell (p := ⟨bm, 3, none⟩) (by show w.heap.size ≤ bm; have := HLT.out; omega) _)
    rw [← hw4]
    clear hw4 kM fM lM HM3 HA3 HBW3
    have HZN := Lib.hid HH.out.zn
    obtain ⟨iA, hi, hz0, hz1, hz2⟩ := info_parts info30
    have HI := Lib.hid (And.intro hi (And.intro hz0 (And.intro hz1 hz2)))
    clear hi hz0 hz1 hz2
    obtain ⟨iB, hi, hz0, hz1, hz2⟩ := info_parts info28
    have HI3 := Lib.hid (And.intro hi (And.intro hz0 (And.intro hz1 hz2)))
    clear hi hz0 hz1 hz2
    obtain ⟨L, hL⟩ : ∃ L, L = C.lines := ⟨_, rfl⟩
    have HLE := Lib.hid hL
    obtain ⟨A, B, K, hA, hB, hK⟩ : ∃ A B K, A = C.sets ∧ B = C.ways ∧ K = C.clock := ⟨_, _, _, rfl, rfl, rfl⟩
    have HABK : Hid (A = C.sets ∧ B = C.ways ∧ K = C.clock) := Lib.hid ⟨hA, hB, hK⟩
    rw [← hA, ← hB, ← hK] at HM4 HA4 ⊢
    clear hA hB hK hL
    go_upto_region 8 with fail
    go_loopw [14] (fun s wr => ∃ j : Nat, j ≤ n ∧ s = .int .i64 j ∧ (∃ v ys, OwnG (bm + 1) wr v ys (L.take j) ∧ Blk wr bm #[.int .i64 A, .int .i64 B, .int .i64 K, v]) ∧ Blk wr w.heap.size #[.int .i64 A, .int .i64 B, .int .i64 K, .slice p n c] ∧ Below w.heap.size w wr) (fun s _ => n - (intOf s).toNat)
    case atStart => exact ⟨0, Nat.zero_le _, rfl, ⟨_, _, by rw [List.take_zero]; exact OwnG.none _ _, HM4.out⟩, HA4.out, HB4.out⟩
    case round =>
      obtain ⟨j, hj, rfl, ⟨v0, ys, ho, hm⟩, hk, hb⟩ := hrel
      clear HM4 HA4 HB4
      have HO := Lib.hid ho
      have HM := Lib.hid hm
      have HK := Lib.hid hk
      have HB := Lib.hid hb
      have htl : (L.take j).length = j := by rw [List.length_take, HLE.out, HZN.out]; omega
      have hrow := ho.row
      rw [htl] at hrow
      obtain ⟨pv, cv, rfl, hcv⟩ := own_cap hrow
      have HROW := Lib.hid hrow
      have HTL := Lib.hid htl
      clear ho hm hk hb hrow hcv htl
      have kA := HK.out.c
      have kM := HM.out.c
      by_cases hlt : j < n
      · have hltI : decide ((j : Int) < n) = true := decide_eq_true (by omega)
        have hjl : j < L.length := by rw [HLE.out, HZN.out]; exact hlt
        obtain ⟨b, off, q2, x, c2, hp, hrow⟩ := HH.out.setAt j hlt
        subst hp
        have htk := take_getD L [] j hjl
        have hl10 := HL10.out j
        obtain ⟨l, hl⟩ : ∃ l, l = L.getD j [] := ⟨_, rfl⟩
        have hl2 : C.lines.getD j [] = l := by rw [hl, HLE.out]
        rw [← hl] at htk
        rw [hl2] at hrow hl10
        have HR := Lib.hid hrow
        have HTK := Lib.hid htk
        have hx100 : x ≤ 10 := by rw [← hrow.len]; exact hl10
        have hjI : (0 : Int) ≤ (j : Int) := by omega
        have hjI2 : (j : Int) < (n : Int) := by omega
        clear hrow htk hl hl2 hl10 hjl
        have HS0 : Hid (∀ W, Below wr.heap.size wr W → ((∀ t, W.cell? ⟨bm, t, none⟩ = (#[.int .i64 A, .int .i64 B, .int .i64 K, .slice pv j cv] : Array Value)[t]?) ∧ (∀ t, W.cell? ⟨w.heap.size, t, none⟩ = (#[.int .i64 A, .int .i64 B, .int .i64 K, .slice (some ⟨b, off, none⟩) n c] : Array Value)[t]?) ∧ W.cell? ⟨b, off + j, none⟩ = some (.slice q2 x c2)) ∧ Below wr.heap.size wr W) := Lib.hid (fun W hb => ⟨⟨(HM.out.below hb).c, (HK.out.below hb).c, ((HR.out.below HB.out).below hb).cell⟩, hb⟩)
        go_upto_region 10 with fail
        refine region_plan (fun W : World => ((∀ t, W.cell? ⟨bm, t, none⟩ = (#[.int .i64 A, .int .i64 B, .int .i64 K, .slice pv j cv] : Array Value)[t]?) ∧ (∀ t, W.cell? ⟨w.heap.size, t, none⟩ = (#[.int .i64 A, .int .i64 B, .int .i64 K, .slice (some ⟨b, off, none⟩) n c] : Array Value)[t]?) ∧ W.cell? ⟨b, off + j, none⟩ = some (.slice q2 x c2)) ∧ Below wr.heap.size wr W) 10 [(0, true), (1, true), (3, true), (4, true), (5, true), (6, true), (7, true), (2, false), (8, false), (9, false)] (by kernel_rfl) (by kernel_rfl) (HS0.out _ (Below.refl _ _).drew) ?_
        iterate 7
          refine plan_read (v := ?_) rfl (by rfl) ?_ ?_
          rotate_left
          · intro w' hS
            try dsimp only at hS
            obtain ⟨⟨hS1, hS2, hS4⟩, hS3⟩ := hS
            go_simp
            try with_reducible rfl
          try simp only [Act.put, List.setIfInBounds_toArray, List.set_cons_zero, List.set_cons_succ, List.getElem_toArray, List.getElem_cons_zero, List.getElem_cons_succ]
        have HBA : Hid (Below wr.heap.size wr (wr.drew.alloc (.cells #[] 30))) := Lib.hid ((Below.refl _ _).drew.alloc (Nat.le_refl _) _)
        have HFM : Hid ((wr.drew.alloc (.cells #[] 30)).ownsRow wr.heap.size 30 4 (.slice (some ⟨wr.heap.size, 0, none⟩) 0 0) 0 []) := Lib.hid (fresh_made (w := wr.drew) (Nat.le_refl _))
        have HLX : Hid (l.length = x) := Lib.hid HR.out.len
        have HS1 : Hid (Sl (wr.drew.alloc (.cells #[] 30)) q2 x (lnC l)) := Lib.hid (by have := (((HR.out.below HB.out).below HBA.out).lm).sl; rwa [HR.out.len] at this)
        refine plan_make (v := .slice (some ⟨wr.heap.size, 0, none⟩) 0 0) (w1 := wr.drew.alloc (.cells #[] 30)) rfl (by rfl) (by go_simp) (HS0.out _ HBA.out) ?_
        try simp only [Act.put, List.setIfInBounds_toArray, List.set_cons_zero, List.set_cons_succ, List.getElem_toArray, List.getElem_cons_zero, List.getElem_cons_succ]
        show wpOp _ _ _ 8 _ _ _
        refine op_wp rfl (by rfl) ?_
        try simp only [List.getElem_toArray, List.getElem_cons_zero, List.getElem_cons_succ]
        refine (wp_append_sl _ _ 28 rfl wr.heap.size 30 iA _ 4 32 Try.underlying28 HI.out.1 HI.out.2.1 HI.out.2.2.1 HI.out.2.2.2 rfl (by decide) _ 0 [] rfl HFM.out q2 x c2 (lnC l) rfl (by rw [lnC_len, HLX.out]) HS1.out (lnC_one _) (by unfold maxLen; omega) (by omega) HBA.out.size ?_)
        intro v5 w6 g1 g2 g3
        have hrr : w6.ownsRow wr.heap.size 30 4 v5 x (lnC l) := by simpa using g1
        have HB6 : Hid (Below wr.heap.size wr w6) := Lib.hid (HBA.out.grown g2 HBA.out.size (fun k hk => by injection hk with hk; exact Nat.le_of_eq hk))
        obtain ⟨p5, c5, rfl, _⟩ := own_cap hrr
        have HRR := Lib.hid hrr
        clear g1 g2 g3 hrr HBA HFM HS1
        refine ⟨HS0.out _ HB6.out, ?_⟩
        try simp only [Act.put, List.setIfInBounds_toArray, List.set_cons_zero, List.set_cons_succ, List.getElem_toArray, List.getElem_cons_zero, List.getElem_cons_succ]
        have HB7 : Hid (Below wr.heap.size wr (w6.alloc (.cells #[.slice p5 x c5] 28))) := Lib.hid (HB6.out.alloc HB6.out.size _)
        refine plan_make (v := .slice (some ⟨w6.heap.size, 0, none⟩) 1 1) (w1 := w6.alloc (.cells #[.slice p5 x c5] 28)) rfl (by rfl) (by go_simp) (HS0.out _ HB7.out) ?_
        try simp only [Act.put, List.setIfInBounds_toArray, List.set_cons_zero, List.set_cons_succ, List.getElem_toArray, List.getElem_cons_zero, List.getElem_cons_succ]
        refine plan_nil ?_
        simp only [List.drop_succ_cons, List.drop_zero]
        have HNW : Hid (Blk (w6.alloc (.cells #[.slice p5 x c5] 28)) w6.heap.size [Value.slice p5 x c5].toArray) := Lib.hid (Blk.new _ _ _)
        have HRR7 := Lib.hid (own_below HRR.out ((Below.refl w6.heap.size w6).alloc (Nat.le_refl _) (.cells #[.slice p5 x c5] 28)))
        obtain ⟨w7, hw7⟩ : ∃ w7, w7 = w6.alloc (.cells #[.slice p5 x c5] 28) := ⟨_, rfl⟩
        rw [← hw7] at HB7 HNW HRR7 ⊢
        have HROW7 := Lib.hid (own_below HROW.out HB7.out)
        have HM7 := Lib.hid (HM.out.below HB7.out)
        have HK7 := Lib.hid (HK.out.below HB7.out)
        have HBW7 : Hid (Below w.heap.size w w7) := Lib.hid (HB.out.trans (HB7.out.mono HB.out.size))
        have HBL : Hid (bm + 1 ≤ wr.heap.size) := Lib.hid HM.out.lt
        clear hw7 HM HK HB HB6 HRR kA kM HS0
        go_wp2_with (first | (at_builtin; refine wpList_append_sl rfl _ _ 22 rfl (bm + 1) 28 iB (.slice none 0 0) 1 24 Try.underlying22 HI3.out.1 HI3.out.2.1 HI3.out.2.2.1 HI3.out.2.2.2 rfl (by decide) _ j ys rfl HROW7.out (some ⟨w6.heap.size, 0, none⟩) 1 1 [.slice p5 x c5] rfl rfl (blk_sl HNW.out) (by intro u hu; rw [List.mem_singleton.1 hu]; rfl) (by unfold maxLen; omega) (by omega) (Nat.le_trans HBL.out HB7.out.size) ?_))
        intro v8 w8 g1 g2 g3
        have hob : ∀ g, (Value.slice pv j cv).ownBlock = some g → bm + 1 ≤ g := fun g e => (HROW7.out.lt g e).1
        have HO8 : Hid (OwnG (bm + 1) w8 v8 (ys ++ [.slice p5 x c5]) (L.take (j + 1))) := Lib.hid (by
          rw [HTK.out]
          exact HO.out.step HBL.out HB7.out (by rw [HLX.out]; exact HRR7.out) (by rw [HTL.out]; exact g1) g2 g3)
        have HM8 := Lib.hid (HM7.out.grown g2 (fun e => by have := hob _ e; omega))
        have HK8 := Lib.hid (HK7.out.grown g2 (fun e => by have := hob _ e; have := HLT.out; omega))
        have HB8 : Hid (Below w.heap.size w w8) := Lib.hid (HBW7.out.grown g2 HBW7.out.size (fun g e => by have := hob g e; have := HLT.out; omega))
        obtain ⟨p8, c8, rfl, _⟩ := own_cap g1
        clear g1 g2 g3 hob HM7 HK7 HBW7 HROW7 HRR7 HNW HB7 HROW HO
        have kM := HM8.out.c
        have fM := HM8.out.f
        have lM := HM8.out.lt
        go_wp2_with fail
        have HO9 := Lib.hid (HO8.out.put (R := bm) (by omega) 3 (.slice p8 (j + 1) c8))
        have HM9 := Lib.hid (HM8.out.set (n := 3) (.slice p8 (j + 1) c8) (by simp))
        have HK9 := Lib.hid (HK8.out.other (B' := bm) (n := 3) (.slice p8 (j + 1) c8) (by have := HLT.out; omega))
        have HB9 : Hid (Below w.heap.size w (w8.setCell ⟨bm, 3, none⟩ (.slice p8 (j + 1) c8))) := Lib.hid (HB8.out.setCell (p := ⟨bm, 3, none⟩) (by show w.heap.size ≤ bm; have := HLT.out; omega) _)
        go_roundw
        case rel => exact ⟨j + 1, by omega, by go_num, ⟨_, _, HO9.out, HM9.out⟩, HK9.out, HB9.out⟩
        case measure => simp [intOf]; omega
      · have hltI : decide ((j : Int) < n) = false := decide_eq_false (by omega)
        obtain rfl : j = n := by omega
        go_upto_region 11 with fail
        have hLn : L.take j = L := by rw [List.take_of_length_le]; rw [HLE.out, HZN.out]; exact Nat.le_refl _
        have hCL : C = ⟨A, B, K, L⟩ := by rw [HABK.out.1, HABK.out.2.1, HABK.out.2.2, HLE.out]
        have ho := HO.out
        rw [hLn] at ho
        obtain ⟨pz, cz, ez, hcm⟩ := ho.cc (by rw [HLE.out, HZN.out]; omega) (fun k => by rw [HLE.out]; have := HL10.out k; omega) A B K
        rw [show L.length = j by rw [HLE.out, HZN.out]] at ez hcm
        injection ez with ez1 ez2 ez3
        subst ez1 ez3
        rw [← hCL] at hcm
        obtain ⟨m, hm⟩ : ∃ m, m = wr.heap.size := ⟨_, rfl⟩
        have hcc2 := HH.out.below HB.out
        have HVC5 : Hid (Var (fun R => m ≤ R) wr w.heap.size C) := Lib.hid ⟨p, j, c, xs, by rw [← HABK.out.1, ← HABK.out.2.1, ← HABK.out.2.2]; exact HK.out, hcc2, fun R hR => hcc2.off (by rw [← hm]; exact hR)⟩
        have HVM5 : Hid (Var (fun R => m ≤ R) wr bm C) := Lib.hid ⟨pv, j, cv, ys, by rw [← HABK.out.1, ← HABK.out.2.1, ← HABK.out.2.2]; exact HM.out, hcm, fun R hR => hcm.off (by rw [← hm]; exact hR)⟩
        have HMB : Hid (bm < m) := Lib.hid (by rw [hm]; exact HM.out.lt)
        have HMS : Hid (m ≤ wr.heap.size) := Lib.hid (Nat.le_of_eq hm)
        have HFL : Hid ((allC C).length ≤ 10000) := Lib.hid (by
          obtain ⟨_, _, e, _⟩ : ∃ p c : Nat, p = c ∧ True := ⟨0, 0, rfl, trivial⟩
          have h1 : C.lines.flatten.length ≤ 10000 := by
            have h2 := HZN.out
            have := tot_le C.lines j (by omega) (by omega) (fun k => by have := HL10.out k; omega)
            rw [← h2, List.take_length] at this
            omega
          unfold allC
          split
          · rw [(sortA_perm _).length_eq]; exact h1
          · exact Nat.zero_le _)
        have HB5 := HB
        clear ho hcm hcc2 hLn hCL ez2 hm HO HROW HTL HM HK HB kA kM hj hlt HH HL10 HABK HLE HZN HI HI3 hn10
        obtain ⟨w5, hw5⟩ : ∃ z, z = wr := ⟨_, rfl⟩
        rw [← hw5] at HVC5 HVM5 HB5 HMS ⊢
        clear hw5
        obtain ⟨X, hX⟩ : ∃ z, z = lookC C a1 := ⟨_, rfl⟩
        obtain ⟨H, hH⟩ : ∃ z, z = hasC C a1 := ⟨_, rfl⟩
        have HXE := Lib.hid hX
        have HHE := Lib.hid hH
        clear hX hH
        have HMS5 := HMS
        clear HMS
        obtain ⟨pq, nq, cq, xq, hkq, hcoq, hccq⟩ := HVM5.out.co
        have kq := hkq.c
        have hqq := look_any _ _ C a1 w5 hcoq
        rw [← HXE.out, ← HHE.out] at hqq
        have HQq := Lib.hid hqq
        clear hkq hcoq hccq hqq
        go_upto_region 11 with fail
        go_wp2_with fail
        refine HQq.out.mono ?_
        rintro e w6 ⟨rfl, hb⟩
        clear HQq kq
        have HMS6 : Hid (m ≤ w6.heap.size) := Lib.hid (Nat.le_trans HMS5.out hb.size)
        have HVC6 := Lib.hid (HVC5.out.below hb)
        have HVM6 := Lib.hid (HVM5.out.below hb)
        have HB6 : Hid (Below w.heap.size w w6) := Lib.hid (HB5.out.trans (Below.mono hb HB5.out.size))
        clear HVC5 HVM5 HB5
        clear hb
        go_upto_region 12 with fail
        obtain ⟨bx, hbx⟩ : ∃ z, z = w6.heap.size := ⟨_, rfl⟩
        obtain ⟨w7, hw7⟩ : ∃ z, z = w6.alloc (.cells #[.int .i64 X.addr, .int .i64 X.state, .int .u32 X.val, .int .i64 X.used] 30) := ⟨_, rfl⟩
        have HN7 : Hid (Below w6.heap.size w6 w7) := Lib.hid (by rw [hw7]; exact (Below.refl _ _).alloc (Nat.le_refl _) _)
        have HX7 : Hid (Blk w7 bx #[.int .i64 X.addr, .int .i64 X.state, .int .u32 X.val, .int .i64 X.used]) := Lib.hid (by rw [hw7, hbx]; exact Blk.new _ _ _)
        have HMbx : Hid (m ≤ bx) := Lib.hid (by rw [hbx]; exact HMS6.out)
        rw [← hw7, ← hbx]
        clear hw7 hbx
        have HVC7 := Lib.hid (HVC6.out.below HN7.out)
        have HVM7 := Lib.hid (HVM6.out.below HN7.out)
        have HB7 : Hid (Below w.heap.size w w7) := Lib.hid (HB6.out.trans (Below.mono HN7.out HB6.out.size))
        clear HVC6 HVM6 HB6
        have HMS7 : Hid (m ≤ w7.heap.size) := Lib.hid (Nat.le_trans HMS6.out HN7.out.size)
        clear HN7
        obtain ⟨pr, nr, cr, xr, hkr, hcor, hccr⟩ := HVC7.out.co
        have kr := hkr.c
        have hqr := reflook_any _ _ C a1 w7 hcor
        rw [← HXE.out, ← HHE.out] at hqr
        have HQr := Lib.hid hqr
        clear hkr hcor hccr hqr
        go_upto_region 12 with fail
        go_wp2_with fail
        refine HQr.out.mono ?_
        rintro e w8 ⟨rfl, hb⟩
        clear HQr kr
        have HMS8 : Hid (m ≤ w8.heap.size) := Lib.hid (Nat.le_trans HMS7.out hb.size)
        have HVC8 := Lib.hid (HVC7.out.below hb)
        have HVM8 := Lib.hid (HVM7.out.below hb)
        have HX8 := Lib.hid (HX7.out.below hb)
        have HB8 : Hid (Below w.heap.size w w8) := Lib.hid (HB7.out.trans (Below.mono hb HB7.out.size))
        clear HVC7 HVM7 HX7 HB7
        clear hb HXE HHE
        go_upto_region 13 with fail
        obtain ⟨by_, hby_⟩ : ∃ z, z = w8.heap.size := ⟨_, rfl⟩
        obtain ⟨w9, hw9⟩ : ∃ z, z = w8.alloc (.cells #[.int .i64 X.addr, .int .i64 X.state, .int .u32 X.val, .int .i64 X.used] 30) := ⟨_, rfl⟩
        have HN9 : Hid (Below w8.heap.size w8 w9) := Lib.hid (by rw [hw9]; exact (Below.refl _ _).alloc (Nat.le_refl _) _)
        have HY9 : Hid (Blk w9 by_ #[.int .i64 X.addr, .int .i64 X.state, .int .u32 X.val, .int .i64 X.used]) := Lib.hid (by rw [hw9, hby_]; exact Blk.new _ _ _)
        have HMby_ : Hid (m ≤ by_) := Lib.hid (by rw [hby_]; exact HMS8.out)
        have Hbxby_ : Hid (bx < by_) := Lib.hid (by rw [hby_]; exact HX8.out.lt)
        rw [← hw9, ← hby_]
        clear hw9 hby_
        have HVC9 := Lib.hid (HVC8.out.below HN9.out)
        have HVM9 := Lib.hid (HVM8.out.below HN9.out)
        have HX9 := Lib.hid (HX8.out.below HN9.out)
        have HB9 : Hid (Below w.heap.size w w9) := Lib.hid (HB8.out.trans (Below.mono HN9.out HB8.out.size))
        clear HVC8 HVM8 HX8 HB8
        have HMS9 : Hid (m ≤ w9.heap.size) := Lib.hid (Nat.le_trans HMS8.out HN9.out.size)
        clear HN9
        obtain ⟨ps, ns, cs, xs', hks, hcos, hccs⟩ := HVM9.out.co
        obtain ⟨pt, nt, ct, xt, hkt, hcot, hcct⟩ := HVC9.out.co
        have HKS := Lib.hid hks
        have HKT := Lib.hid hkt
        have HALL := Lib.hid (fun W (hW : Below w9.heap.size w9 W) => all_any _ _ C W (hcos.below hW))
        have HRAL := Lib.hid (fun W (hW : Below w9.heap.size w9 W) => refall_any _ _ C W (hcot.below hW))
        clear hks hkt hcos hcot hccs hcct
        have hne : ∀ W, (binOp .neq 30 (.agg #[.int .i64 X.addr, .int .i64 X.state, .int .u32 X.val, .int .i64 X.used]) (.agg #[.int .i64 X.addr, .int .i64 X.state, .int .u32 X.val, .int .i64 X.used])).run Try.prog W = .ok (.bool false) W := fun W => by
          rw [neq_line, (eqN_iff X X).2 rfl]; rfl
        have eH : (H != H) = false := by cases H <;> rfl
        obtain ⟨D, hD⟩ : ∃ z, z = allC C := ⟨_, rfl⟩
        rw [← hD] at HALL HRAL HFL
        clear hD
        have HS : Hid (∀ W, Below w9.heap.size w9 W → (∀ t, W.cell? ⟨bx, t, none⟩ = (#[.int .i64 X.addr, .int .i64 X.state, .int .u32 X.val, .int .i64 X.used] : Array Value)[t]?) ∧ (∀ t, W.cell? ⟨by_, t, none⟩ = (#[.int .i64 X.addr, .int .i64 X.state, .int .u32 X.val, .int .i64 X.used] : Array Value)[t]?) ∧ (∀ t, W.cell? ⟨bm, t, none⟩ = (#[.int .i64 C.sets, .int .i64 C.ways, .int .i64 C.clock, .slice ps ns cs] : Array Value)[t]?) ∧ ∀ t, W.cell? ⟨w.heap.size, t, none⟩ = (#[.int .i64 C.sets, .int .i64 C.ways, .int .i64 C.clock, .slice pt nt ct] : Array Value)[t]?) := Lib.hid (fun W hW => ⟨(HX9.out.below hW).c, (HY9.out.below hW).c, (HKS.out.below hW).c, (HKT.out.below hW).c⟩)
        refine region_plan (fun W : World => (∀ t, W.cell? ⟨bx, t, none⟩ = (#[.int .i64 X.addr, .int .i64 X.state, .int .u32 X.val, .int .i64 X.used] : Array Value)[t]?) ∧ (∀ t, W.cell? ⟨by_, t, none⟩ = (#[.int .i64 X.addr, .int .i64 X.state, .int .u32 X.val, .int .i64 X.used] : Array Value)[t]?) ∧ (∀ t, W.cell? ⟨bm, t, none⟩ = (#[.int .i64 C.sets, .int .i64 C.ways, .int .i64 C.clock, .slice ps ns cs] : Array Value)[t]?) ∧ ∀ t, W.cell? ⟨w.heap.size, t, none⟩ = (#[.int .i64 C.sets, .int .i64 C.ways, .int .i64 C.clock, .slice pt nt ct] : Array Value)[t]?) 14 [(0, true), (1, true), (2, true), (3, true), (4, true), (5, true), (6, true), (7, true), (8, true), (9, true), (11, true), (10, false), (12, false), (13, false)] (by kernel_rfl) (by kernel_rfl) (HS.out _ (Below.refl _ _).drew) ?_
        iterate 11
          refine plan_read (v := ?_) rfl (by rfl) ?_ ?_
          rotate_left
          · intro w' hS
            try dsimp only at hS
            obtain ⟨hS1, hS2, hS3, hS4⟩ := hS
            go_simp
            try with_reducible rfl
          try simp only [Act.put, List.setIfInBounds_toArray, List.set_cons_zero, List.set_cons_succ, List.getElem_toArray, List.getElem_cons_zero, List.getElem_cons_succ, eH]
        refine plan_call (F := 11) (args := ?_) rfl (by rfl) ?_ ?_
        rotate_left
        · go_simp
          rfl
        refine (HALL.out w9.drew (Below.refl _ _).drew).mono ?_
        rintro e w10 ⟨q1, d1, rfl, hd1, -, hl1, hb⟩
        have HN1 : Hid (Below w9.heap.size w9 w10) := Lib.hid ((Below.refl _ _).drew.trans hb)
        have HL1 := Lib.hid hl1
        clear hb hl1
        refine ⟨_, rfl, HS.out _ HN1.out, ?_⟩
        try simp only [Act.put, List.setIfInBounds_toArray, List.set_cons_zero, List.set_cons_succ, List.getElem_toArray, List.getElem_cons_zero, List.getElem_cons_succ]
        refine plan_call (F := 12) (args := ?_) rfl (by rfl) ?_ ?_
        rotate_left
        · go_simp
          rfl
        refine (HRAL.out w10 HN1.out).mono ?_
        rintro e w11 ⟨q2, d2, rfl, hd2, hl2, hb⟩
        have HN2 : Hid (Below w9.heap.size w9 w11) := Lib.hid (HN1.out.trans (hb.mono HN1.out.size))
        have HL2 := Lib.hid hl2
        have HL3 := Lib.hid (HL1.out.below hb)
        clear hb hl2 HL1
        refine ⟨_, rfl, HS.out _ HN2.out, ?_⟩
        try simp only [Act.put, List.setIfInBounds_toArray, List.set_cons_zero, List.set_cons_succ, List.getElem_toArray, List.getElem_cons_zero, List.getElem_cons_succ]
        refine plan_call (F := 10) (args := ?_) rfl (by rfl) ?_ ?_
        rotate_left
        · go_simp
          rfl
        refine (lines_any q1 q2 d1 d2 D w11 HL3.out HL2.out HFL.out).mono ?_
        rintro e w12 ⟨rfl, hb⟩
        have HN3 : Hid (Below w9.heap.size w9 w12) := Lib.hid (HN2.out.trans (hb.mono HN2.out.size))
        clear hb
        refine ⟨_, rfl, HS.out _ HN3.out, ?_⟩
        try simp only [Act.put, List.setIfInBounds_toArray, List.set_cons_zero, List.set_cons_succ, List.getElem_toArray, List.getElem_cons_zero, List.getElem_cons_succ]
        refine plan_nil ?_
        simp only [List.drop_succ_cons, List.drop_zero]
        clear HL3 HL2 HN1 HN2 HALL HRAL HFL hne hd1 hd2 HKS HKT HS eH
        have HMS12 : Hid (m ≤ w12.heap.size) := Lib.hid (Nat.le_trans HMS9.out HN3.out.size)
        have HVC12 := Lib.hid (HVC9.out.below HN3.out)
        have HVM12 := Lib.hid (HVM9.out.below HN3.out)
        have HX12 := Lib.hid (HX9.out.below HN3.out)
        have HY12 := Lib.hid (HY9.out.below HN3.out)
        have HB12 : Hid (Below w.heap.size w w12) := Lib.hid (HB9.out.trans (Below.mono HN3.out HB9.out.size))
        clear HVC9 HVM9 HX9 HY9 HB9
        clear HN3
        obtain ⟨UC, hUC⟩ : ∃ z, z = useC C a1 := ⟨_, rfl⟩
        have HEUC := Lib.hid hUC
        clear hUC
        obtain ⟨UE, hUE⟩ : ∃ z, z = useE C a1 := ⟨_, rfl⟩
        have HEUE := Lib.hid hUE
        clear hUE
        obtain ⟨pu, nu, cu, xu, hku, hcou, hccu⟩ := HVM12.out.co
        have ku := hku.c
        have hqu := use_any (fun R => m ≤ R ∧ R < w12.heap.size) _ C a1 w12 (hcou.weak (fun R hR => hR.1)) (fun R hR => hR.2)
        rw [← HEUC.out, ← HEUE.out] at hqu
        have HQu := Lib.hid hqu
        clear hku hcou hccu hqu
        go_upto_region 15 with fail
        go_wp2_with fail
        refine HQu.out.mono ?_
        rintro e w13 ⟨vu, rfl, ho, hb⟩
        clear HQu ku
        obtain ⟨qu, lu, du, yu, rfl, hcq, hof⟩ := ho
        have HO13 : Hid (Co (fun R => m ≤ R ∧ R < w12.heap.size) w13 (.agg #[.int .i64 UC.sets, .int .i64 UC.ways, .int .i64 UC.clock, .slice qu lu du]) UC) := Lib.hid ⟨_, _, _, _, rfl, hcq, hof⟩
        clear hcq hof
        have HMS13 : Hid (m ≤ w13.heap.size) := Lib.hid (Nat.le_trans HMS12.out hb.size)
        have HVC13 := Lib.hid (HVC12.out.below hb)
        have HVM13 := Lib.hid (HVM12.out.below hb)
        have HX13 := Lib.hid (HX12.out.below hb)
        have HY13 := Lib.hid (HY12.out.below hb)
        have HB13 : Hid (Below w.heap.size w w13) := Lib.hid (HB12.out.trans (Below.mono hb HB12.out.size))
        clear HVC12 HVM12 HX12 HY12 HB12
        clear hb
        go_upto_region 16 with fail
        obtain ⟨ba, hba⟩ : ∃ z, z = w13.heap.size := ⟨_, rfl⟩
        obtain ⟨w14, hw14⟩ : ∃ z, z = w13.alloc (.cells #[.int .i64 UC.sets, .int .i64 UC.ways, .int .i64 UC.clock, .slice qu lu du] 24) := ⟨_, rfl⟩
        have HN14 : Hid (Below w13.heap.size w13 w14) := Lib.hid (by rw [hw14]; exact (Below.refl _ _).alloc (Nat.le_refl _) _)
        have HVA14 : Hid (Var (fun R => m ≤ R ∧ R < w12.heap.size) w14 ba UC) := Lib.hid (by rw [hw14, hba]; exact Var.new HO13.out)
        have HMba : Hid (m ≤ ba) := Lib.hid (by rw [hba]; exact HMS13.out)
        have Hbxba : Hid (bx < ba) := Lib.hid (by rw [hba]; exact HX13.out.lt)
        have Hby_ba : Hid (by_ < ba) := Lib.hid (by rw [hba]; exact HY13.out.lt)
        rw [← hw14, ← hba]
        clear hw14 hba HO13
        have HVC14 := Lib.hid (HVC13.out.below HN14.out)
        have HVM14 := Lib.hid (HVM13.out.below HN14.out)
        have HX14 := Lib.hid (HX13.out.below HN14.out)
        have HY14 := Lib.hid (HY13.out.below HN14.out)
        have HB14 : Hid (Below w.heap.size w w14) := Lib.hid (HB13.out.trans (Below.mono HN14.out HB13.out.size))
        clear HVC13 HVM13 HX13 HY13 HB13
        have HMS14 : Hid (m ≤ w14.heap.size) := Lib.hid (Nat.le_trans HMS13.out HN14.out.size)
        clear HN14
        obtain ⟨pv, nv, cv, xv, hkv, hcov, hccv⟩ := HVC14.out.co
        have kv := hkv.c
        have hqv := refuse_any (fun R => m ≤ R ∧ R < w14.heap.size) _ C a1 w14 (hcov.weak (fun R hR => hR.1)) (fun R hR => hR.2)
        rw [← HEUC.out, ← HEUE.out] at hqv
        have HQv := Lib.hid hqv
        clear hkv hcov hccv hqv
        go_upto_region 16 with fail
        go_wp2_with fail
        refine HQv.out.mono ?_
        rintro e w15 ⟨vv, rfl, ho, hb⟩
        clear HQv kv
        obtain ⟨qv, lv, dv, yv, rfl, hcq, hof⟩ := ho
        have HO15 : Hid (Co (fun R => m ≤ R ∧ R < w14.heap.size) w15 (.agg #[.int .i64 UC.sets, .int .i64 UC.ways, .int .i64 UC.clock, .slice qv lv dv]) UC) := Lib.hid ⟨_, _, _, _, rfl, hcq, hof⟩
        clear hcq hof
        have HMS15 : Hid (m ≤ w15.heap.size) := Lib.hid (Nat.le_trans HMS14.out hb.size)
        have HVC15 := Lib.hid (HVC14.out.below hb)
        have HVM15 := Lib.hid (HVM14.out.below hb)
        have HX15 := Lib.hid (HX14.out.below hb)
        have HY15 := Lib.hid (HY14.out.below hb)
        have HVA15 := Lib.hid (HVA14.out.below hb)
        have HB15 : Hid (Below w.heap.size w w15) := Lib.hid (HB14.out.trans (Below.mono hb HB14.out.size))
        clear HVC14 HVM14 HX14 HY14 HVA14 HB14
        clear hb
        go_upto_region 17 with fail
        obtain ⟨bb, hbb⟩ : ∃ z, z = w15.heap.size := ⟨_, rfl⟩
        obtain ⟨w16, hw16⟩ : ∃ z, z = w15.alloc (.cells #[.int .i64 UC.sets, .int .i64 UC.ways, .int .i64 UC.clock, .slice qv lv dv] 24) := ⟨_, rfl⟩
        have HN16 : Hid (Below w15.heap.size w15 w16) := Lib.hid (by rw [hw16]; exact (Below.refl _ _).alloc (Nat.le_refl _) _)
        have HVB16 : Hid (Var (fun R => m ≤ R ∧ R < w14.heap.size) w16 bb UC) := Lib.hid (by rw [hw16, hbb]; exact Var.new HO15.out)
        have HMbb : Hid (m ≤ bb) := Lib.hid (by rw [hbb]; exact HMS15.out)
        have Hbxbb : Hid (bx < bb) := Lib.hid (by rw [hbb]; exact HX15.out.lt)
        have Hby_bb : Hid (by_ < bb) := Lib.hid (by rw [hbb]; exact HY15.out.lt)
        have Hbabb : Hid (ba < bb) := Lib.hid (by rw [hbb]; exact HVA15.out.lt2)
        rw [← hw16, ← hbb]
        clear hw16 hbb HO15
        have HVC16 := Lib.hid (HVC15.out.below HN16.out)
        have HVM16 := Lib.hid (HVM15.out.below HN16.out)
        have HX16 := Lib.hid (HX15.out.below HN16.out)
        have HY16 := Lib.hid (HY15.out.below HN16.out)
        have HVA16 := Lib.hid (HVA15.out.below HN16.out)
        have HB16 : Hid (Below w.heap.size w w16) := Lib.hid (HB15.out.trans (Below.mono HN16.out HB15.out.size))
        clear HVC15 HVM15 HX15 HY15 HVA15 HB15
        have HMS16 : Hid (m ≤ w16.heap.size) := Lib.hid (Nat.le_trans HMS15.out HN16.out.size)
        clear HN16
        obtain ⟨paa, naa, caa, xaa, hkaa, -, hcaa⟩ := HVA16.out.co
        obtain ⟨pba, nba, cba, xba, hkba, -, hcba⟩ := HVB16.out.co
        have eNa : naa = nba := by rw [← hcaa.zn, ← hcba.zn]
        subst eNa
        have hqa := same_any paa pba naa caa cba xaa xba UC w16 hcaa hcba
        have HQa := Lib.hid hqa
        have kaa := hkaa.c
        have kba := hkba.c
        have eE : (UE != UE) = false := by simp
        have HKA16 := Lib.hid hkaa
        have HKB16 := Lib.hid hkba
        clear hqa hkaa hkba hcaa hcba HVA16 HVB16
        go_upto_region 17 with fail
        go_wp2_with fail
        refine HQa.out.mono ?_
        rintro e w17 ⟨rfl, hb⟩
        clear HQa kaa kba
        have HMS17 : Hid (m ≤ w17.heap.size) := Lib.hid (Nat.le_trans HMS16.out hb.size)
        have HVC17 := Lib.hid (HVC16.out.below hb)
        have HVM17 := Lib.hid (HVM16.out.below hb)
        have HX17 := Lib.hid (HX16.out.below hb)
        have HY17 := Lib.hid (HY16.out.below hb)
        have HKA17 := Lib.hid (HKA16.out.below hb)
        have HKB17 := Lib.hid (HKB16.out.below hb)
        have HB17 : Hid (Below w.heap.size w w17) := Lib.hid (HB16.out.trans (Below.mono hb HB16.out.size))
        clear HVC16 HVM16 HX16 HY16 HKA16 HKB16 HB16
        clear hb
        go_upto_region 19 with fail
        clear eE
        have HORD : Hid (m ≤ bx ∧ bx < by_ ∧ by_ < ba ∧ ba < bb ∧ bm < m ∧ w.heap.size < bm) := Lib.hid ⟨HMbx.out, Hbxby_.out, Hby_ba.out, Hbabb.out, HMB.out, HLT.out⟩
        obtain ⟨DC, hDC⟩ : ∃ z, z = dropC C a1 := ⟨_, rfl⟩
        have HEDC := Lib.hid hDC
        clear hDC
        obtain ⟨DE, hDE⟩ : ∃ z, z = dropE C a1 := ⟨_, rfl⟩
        have HEDE := Lib.hid hDE
        clear hDE
        have HLTbx17 : Hid (bx < w17.heap.size) := Lib.hid (by have := HKB17.out.lt; have := HORD.out; omega)
        have HLTby_17 : Hid (by_ < w17.heap.size) := Lib.hid (by have := HKB17.out.lt; have := HORD.out; omega)
        have HLTba17 : Hid (ba < w17.heap.size) := Lib.hid (by have := HKB17.out.lt; have := HORD.out; omega)
        have HLTbb17 : Hid (bb < w17.heap.size) := Lib.hid (by have := HKB17.out.lt; have := HORD.out; omega)
        obtain ⟨pe, ne, ce, xe, hke, hcoe, hcce⟩ := HVM17.out.co
        have ke := hke.c
        have hqe := drop_any (fun R => m ≤ R ∧ R < w17.heap.size) _ C a1 w17 (hcoe.weak (fun R hR => hR.1)) (fun R hR => hR.2)
        rw [← HEDC.out, ← HEDE.out] at hqe
        have HQe := Lib.hid hqe
        clear hke hcoe hcce hqe
        go_upto_region 19 with fail
        go_wp2_with fail
        refine HQe.out.mono ?_
        rintro e w18 ⟨ve, rfl, ho, hb⟩
        clear HQe ke
        obtain ⟨qe, le, de, ye, rfl, hcq, hof⟩ := ho
        have HO18 : Hid (Co (fun R => m ≤ R ∧ R < w17.heap.size) w18 (.agg #[.int .i64 DC.sets, .int .i64 DC.ways, .int .i64 DC.clock, .slice qe le de]) DC) := Lib.hid ⟨_, _, _, _, rfl, hcq, hof⟩
        clear hcq hof
        have HMS18 : Hid (m ≤ w18.heap.size) := Lib.hid (Nat.le_trans HMS17.out hb.size)
        have HVC18 := Lib.hid (HVC17.out.below hb)
        have HVM18 := Lib.hid (HVM17.out.below hb)
        have HX18 := Lib.hid (HX17.out.below hb)
        have HY18 := Lib.hid (HY17.out.below hb)
        have HKA18 := Lib.hid (HKA17.out.below hb)
        have HKB18 := Lib.hid (HKB17.out.below hb)
        have HB18 : Hid (Below w.heap.size w w18) := Lib.hid (HB17.out.trans (Below.mono hb HB17.out.size))
        clear HVC17 HVM17 HX17 HY17 HKA17 HKB17 HB17
        clear hb
        have kk := HKA18.out.c
        have kf := HKA18.out.f
        have kl := HKA18.out.lt
        go_upto_region 20 with fail
        obtain ⟨w19, hw19⟩ : ∃ z, z = ((((w18.setCell ⟨ba, 0, none⟩ (.int .i64 DC.sets)).setCell ⟨ba, 1, none⟩ (.int .i64 DC.ways)).setCell ⟨ba, 2, none⟩ (.int .i64 DC.clock)).setCell ⟨ba, 3, none⟩ (.slice qe le de)) := ⟨_, rfl⟩
        have HVA19 : Hid (Var (fun R => m ≤ R ∧ R < w17.heap.size) w19 ba DC) := Lib.hid (by rw [hw19]; exact Var.put HKA18.out HO18.out ⟨HMba.out, by have := HKA18.out.lt; have := HLTba17.out; omega⟩)
        have HVC19 : Hid (Var (fun R => m ≤ R) w19 w.heap.size C) := Lib.hid (by rw [hw19]; exact HVC18.out.set4 HMba.out (by have := HMba.out; have := HMB.out; have := HLT.out; omega) _ _ _ _)
        have HVM19 : Hid (Var (fun R => m ≤ R) w19 bm C) := Lib.hid (by rw [hw19]; exact HVM18.out.set4 HMba.out (by have := HMba.out; have := HMB.out; have := HLT.out; omega) _ _ _ _)
        have HX19 := Lib.hid (set4_other HX18.out (R := ba) (by have := HORD.out; omega) (.int .i64 DC.sets) (.int .i64 DC.ways) (.int .i64 DC.clock) (.slice qe le de))
        rw [← hw19] at HX19
        have HY19 := Lib.hid (set4_other HY18.out (R := ba) (by have := HORD.out; omega) (.int .i64 DC.sets) (.int .i64 DC.ways) (.int .i64 DC.clock) (.slice qe le de))
        rw [← hw19] at HY19
        have HKB19 := Lib.hid (set4_other HKB18.out (R := ba) (by have := HORD.out; omega) (.int .i64 DC.sets) (.int .i64 DC.ways) (.int .i64 DC.clock) (.slice qe le de))
        rw [← hw19] at HKB19
        have HB19 : Hid (Below w.heap.size w w19) := Lib.hid (by rw [hw19]; exact set4_below HB18.out (by have := HMba.out; have := HMB.out; have := HLT.out; omega) _ _ _ _)
        have HMS19 : Hid (m ≤ w19.heap.size) := Lib.hid (by rw [hw19, size_set, size_set, size_set, size_set]; exact HMS18.out)
        rw [← hw19]
        clear hw19 HO18 kk kf kl HB18 HMS18 HVC18 HVM18 HX18 HY18 HKB18 HKA18
        have HLTbx19 : Hid (bx < w19.heap.size) := Lib.hid (by have := HKB19.out.lt; have := HORD.out; omega)
        have HLTby_19 : Hid (by_ < w19.heap.size) := Lib.hid (by have := HKB19.out.lt; have := HORD.out; omega)
        have HLTba19 : Hid (ba < w19.heap.size) := Lib.hid (by have := HKB19.out.lt; have := HORD.out; omega)
        have HLTbb19 : Hid (bb < w19.heap.size) := Lib.hid (by have := HKB19.out.lt; have := HORD.out; omega)
        obtain ⟨pf, nf, cf, xf, hkf, hcof, hccf⟩ := HVC19.out.co
        have kf := hkf.c
        have hqf := refdrop_any (fun R => m ≤ R ∧ R < w19.heap.size) _ C a1 w19 (hcof.weak (fun R hR => hR.1)) (fun R hR => hR.2)
        rw [← HEDC.out, ← HEDE.out] at hqf
        have HQf := Lib.hid hqf
        clear hkf hcof hccf hqf
        go_upto_region 20 with fail
        go_wp2_with fail
        refine HQf.out.mono ?_
        rintro e w20 ⟨vf, rfl, ho, hb⟩
        clear HQf kf
        obtain ⟨qf, lf, df, yf, rfl, hcq, hof⟩ := ho
        have HO20 : Hid (Co (fun R => m ≤ R ∧ R < w19.heap.size) w20 (.agg #[.int .i64 DC.sets, .int .i64 DC.ways, .int .i64 DC.clock, .slice qf lf df]) DC) := Lib.hid ⟨_, _, _, _, rfl, hcq, hof⟩
        clear hcq hof
        have HMS20 : Hid (m ≤ w20.heap.size) := Lib.hid (Nat.le_trans HMS19.out hb.size)
        have HVC20 := Lib.hid (HVC19.out.below hb)
        have HVM20 := Lib.hid (HVM19.out.below hb)
        have HX20 := Lib.hid (HX19.out.below hb)
        have HY20 := Lib.hid (HY19.out.below hb)
        have HKB20 := Lib.hid (HKB19.out.below hb)
        have HVA20 := Lib.hid (HVA19.out.below hb)
        have HB20 : Hid (Below w.heap.size w w20) := Lib.hid (HB19.out.trans (Below.mono hb HB19.out.size))
        clear HVC19 HVM19 HX19 HY19 HKB19 HVA19 HB19
        clear hb
        have kk := HKB20.out.c
        have kf := HKB20.out.f
        have kl := HKB20.out.lt
        go_upto_region 21 with fail
        obtain ⟨w21, hw21⟩ : ∃ z, z = ((((w20.setCell ⟨bb, 0, none⟩ (.int .i64 DC.sets)).setCell ⟨bb, 1, none⟩ (.int .i64 DC.ways)).setCell ⟨bb, 2, none⟩ (.int .i64 DC.clock)).setCell ⟨bb, 3, none⟩ (.slice qf lf df)) := ⟨_, rfl⟩
        have HVB21 : Hid (Var (fun R => m ≤ R ∧ R < w19.heap.size) w21 bb DC) := Lib.hid (by rw [hw21]; exact Var.put HKB20.out HO20.out ⟨HMbb.out, by have := HKB20.out.lt; have := HLTbb19.out; omega⟩)
        have HVC21 : Hid (Var (fun R => m ≤ R) w21 w.heap.size C) := Lib.hid (by rw [hw21]; exact HVC20.out.set4 HMbb.out (by have := HMbb.out; have := HMB.out; have := HLT.out; omega) _ _ _ _)
        have HVM21 : Hid (Var (fun R => m ≤ R) w21 bm C) := Lib.hid (by rw [hw21]; exact HVM20.out.set4 HMbb.out (by have := HMbb.out; have := HMB.out; have := HLT.out; omega) _ _ _ _)
        have HX21 := Lib.hid (set4_other HX20.out (R := bb) (by have := HORD.out; omega) (.int .i64 DC.sets) (.int .i64 DC.ways) (.int .i64 DC.clock) (.slice qf lf df))
        rw [← hw21] at HX21
        have HY21 := Lib.hid (set4_other HY20.out (R := bb) (by have := HORD.out; omega) (.int .i64 DC.sets) (.int .i64 DC.ways) (.int .i64 DC.clock) (.slice qf lf df))
        rw [← hw21] at HY21
        have HVA21 := Lib.hid (Var.set4 HVA20.out (R := bb) ⟨HMbb.out, by have := HLTbb17.out; omega⟩ (by have := HORD.out; omega) (.int .i64 DC.sets) (.int .i64 DC.ways) (.int .i64 DC.clock) (.slice qf lf df))
        rw [← hw21] at HVA21
        have HB21 : Hid (Below w.heap.size w w21) := Lib.hid (by rw [hw21]; exact set4_below HB20.out (by have := HMbb.out; have := HMB.out; have := HLT.out; omega) _ _ _ _)
        have HMS21 : Hid (m ≤ w21.heap.size) := Lib.hid (by rw [hw21, size_set, size_set, size_set, size_set]; exact HMS20.out)
        rw [← hw21]
        clear hw21 HO20 kk kf kl HB20 HMS20 HVC20 HVM20 HX20 HY20 HVA20 HKB20
        obtain ⟨pab, nab, cab, xab, hkab, -, hcab⟩ := HVA21.out.co
        obtain ⟨pbb, nbb, cbb, xbb, hkbb, -, hcbb⟩ := HVB21.out.co
        have eNb : nab = nbb := by rw [← hcab.zn, ← hcbb.zn]
        subst eNb
        have hqb := same_any pab pbb nab cab cbb xab xbb DC w21 hcab hcbb
        have HQb := Lib.hid hqb
        have kab := hkab.c
        have kbb := hkbb.c
        have eE : (DE != DE) = false := by simp
        have HKA21 := Lib.hid hkab
        have HKB21 := Lib.hid hkbb
        clear hqb hkab hkbb hcab hcbb HVA21 HVB21
        go_upto_region 21 with fail
        go_wp2_with fail
        refine HQb.out.mono ?_
        rintro e w22 ⟨rfl, hb⟩
        clear HQb kab kbb
        have HMS22 : Hid (m ≤ w22.heap.size) := Lib.hid (Nat.le_trans HMS21.out hb.size)
        have HVC22 := Lib.hid (HVC21.out.below hb)
        have HVM22 := Lib.hid (HVM21.out.below hb)
        have HX22 := Lib.hid (HX21.out.below hb)
        have HY22 := Lib.hid (HY21.out.below hb)
        have HKA22 := Lib.hid (HKA21.out.below hb)
        have HKB22 := Lib.hid (HKB21.out.below hb)
        have HB22 : Hid (Below w.heap.size w w22) := Lib.hid (HB21.out.trans (Below.mono hb HB21.out.size))
        clear HVC21 HVM21 HX21 HY21 HKA21 HKB21 HB21
        clear hb
        go_upto_region 23 with fail
        clear eE
        obtain ⟨PC, hPC⟩ : ∃ z, z = putC C a1 a2 vx := ⟨_, rfl⟩
        have HEPC := Lib.hid hPC
        clear hPC
        obtain ⟨PO, hPO⟩ : ∃ z, z = putO C a1 a2 := ⟨_, rfl⟩
        have HEPO := Lib.hid hPO
        clear hPO
        obtain ⟨PE, hPE⟩ : ∃ z, z = putE C a1 a2 := ⟨_, rfl⟩
        have HEPE := Lib.hid hPE
        clear hPE
        have HLTbx22 : Hid (bx < w22.heap.size) := Lib.hid (by have := HKB22.out.lt; have := HORD.out; omega)
        have HLTby_22 : Hid (by_ < w22.heap.size) := Lib.hid (by have := HKB22.out.lt; have := HORD.out; omega)
        have HLTba22 : Hid (ba < w22.heap.size) := Lib.hid (by have := HKB22.out.lt; have := HORD.out; omega)
        have HLTbb22 : Hid (bb < w22.heap.size) := Lib.hid (by have := HKB22.out.lt; have := HORD.out; omega)
        obtain ⟨pg, ng, cg, xg, hkg, hcog, hccg⟩ := HVM22.out.co
        have kg := hkg.c
        have hqg := put_any (fun R => m ≤ R ∧ R < w22.heap.size) _ C a1 a2 vx w22 (hcog.weak (fun R hR => hR.1)) (fun R hR => hR.2) HVX.out
        rw [← HEPC.out, ← HEPO.out, ← HEPE.out] at hqg
        have HQg := Lib.hid hqg
        clear hkg hcog hccg hqg
        go_upto_region 23 with fail
        go_wp2_with fail
        refine HQg.out.mono ?_
        rintro e w23 ⟨vg, rfl, ho, hb⟩
        clear HQg kg
        obtain ⟨qg, lg, dg, yg, rfl, hcq, hof⟩ := ho
        have HO23 : Hid (Co (fun R => m ≤ R ∧ R < w22.heap.size) w23 (.agg #[.int .i64 PC.sets, .int .i64 PC.ways, .int .i64 PC.clock, .slice qg lg dg]) PC) := Lib.hid ⟨_, _, _, _, rfl, hcq, hof⟩
        clear hcq hof
        have HMS23 : Hid (m ≤ w23.heap.size) := Lib.hid (Nat.le_trans HMS22.out hb.size)
        have HVC23 := Lib.hid (HVC22.out.below hb)
        have HVM23 := Lib.hid (HVM22.out.below hb)
        have HX23 := Lib.hid (HX22.out.below hb)
        have HY23 := Lib.hid (HY22.out.below hb)
        have HKA23 := Lib.hid (HKA22.out.below hb)
        have HKB23 := Lib.hid (HKB22.out.below hb)
        have HB23 : Hid (Below w.heap.size w w23) := Lib.hid (HB22.out.trans (Below.mono hb HB22.out.size))
        clear HVC22 HVM22 HX22 HY22 HKA22 HKB22 HB22
        clear hb
        have kk := HKA23.out.c
        have kf := HKA23.out.f
        have kl := HKA23.out.lt
        have lk := HX23.out.c
        have lf := HX23.out.f
        have ll := HX23.out.lt
        have hn1 : ba ≠ bx := by have := HORD.out; omega
        have hn2 : bx ≠ ba := by have := HORD.out; omega
        go_upto_region 24 with fail
        obtain ⟨w24m, hw24m⟩ : ∃ z, z = ((((w23.setCell ⟨ba, 0, none⟩ (.int .i64 PC.sets)).setCell ⟨ba, 1, none⟩ (.int .i64 PC.ways)).setCell ⟨ba, 2, none⟩ (.int .i64 PC.clock)).setCell ⟨ba, 3, none⟩ (.slice qg lg dg)) := ⟨_, rfl⟩
        have HVA24m : Hid (Var (fun R => m ≤ R ∧ R < w22.heap.size) w24m ba PC) := Lib.hid (by rw [hw24m]; exact Var.put HKA23.out HO23.out ⟨HMba.out, by have := HKA23.out.lt; have := HLTba22.out; omega⟩)
        have HVC24m : Hid (Var (fun R => m ≤ R) w24m w.heap.size C) := Lib.hid (by rw [hw24m]; exact HVC23.out.set4 HMba.out (by have := HMba.out; have := HMB.out; have := HLT.out; omega) _ _ _ _)
        have HVM24m : Hid (Var (fun R => m ≤ R) w24m bm C) := Lib.hid (by rw [hw24m]; exact HVM23.out.set4 HMba.out (by have := HMba.out; have := HMB.out; have := HLT.out; omega) _ _ _ _)
        have HX24m := Lib.hid (set4_other HX23.out (R := ba) (by have := HORD.out; omega) (.int .i64 PC.sets) (.int .i64 PC.ways) (.int .i64 PC.clock) (.slice qg lg dg))
        rw [← hw24m] at HX24m
        have HY24m := Lib.hid (set4_other HY23.out (R := ba) (by have := HORD.out; omega) (.int .i64 PC.sets) (.int .i64 PC.ways) (.int .i64 PC.clock) (.slice qg lg dg))
        rw [← hw24m] at HY24m
        have HKB24m := Lib.hid (set4_other HKB23.out (R := ba) (by have := HORD.out; omega) (.int .i64 PC.sets) (.int .i64 PC.ways) (.int .i64 PC.clock) (.slice qg lg dg))
        rw [← hw24m] at HKB24m
        have HB24m : Hid (Below w.heap.size w w24m) := Lib.hid (by rw [hw24m]; exact set4_below HB23.out (by have := HMba.out; have := HMB.out; have := HLT.out; omega) _ _ _ _)
        have HMS24m : Hid (m ≤ w24m.heap.size) := Lib.hid (by rw [hw24m, size_set, size_set, size_set, size_set]; exact HMS23.out)
        rw [← hw24m]
        clear hw24m HO23 kk kf kl HB23 HMS23 HVC23 HVM23 HX23 HY23 HKB23 HKA23
        obtain ⟨w24, hw24⟩ : ∃ z, z = ((((w24m.setCell ⟨bx, 0, none⟩ (.int .i64 PO.addr)).setCell ⟨bx, 1, none⟩ (.int .i64 PO.state)).setCell ⟨bx, 2, none⟩ (.int .u32 PO.val)).setCell ⟨bx, 3, none⟩ (.int .i64 PO.used)) := ⟨_, rfl⟩
        have HX24 : Hid (Blk w24 bx #[.int .i64 PO.addr, .int .i64 PO.state, .int .u32 PO.val, .int .i64 PO.used]) := Lib.hid (by rw [hw24]; exact set4_same HX24m.out _ _ _ _)
        have HVC24 : Hid (Var (fun R => m ≤ R) w24 w.heap.size C) := Lib.hid (by rw [hw24]; exact HVC24m.out.set4 HMbx.out (by have := HMbx.out; have := HMB.out; have := HLT.out; omega) _ _ _ _)
        have HVM24 : Hid (Var (fun R => m ≤ R) w24 bm C) := Lib.hid (by rw [hw24]; exact HVM24m.out.set4 HMbx.out (by have := HMbx.out; have := HMB.out; have := HLT.out; omega) _ _ _ _)
        have HY24 := Lib.hid (set4_other HY24m.out (R := bx) (by have := HORD.out; omega) (.int .i64 PO.addr) (.int .i64 PO.state) (.int .u32 PO.val) (.int .i64 PO.used))
        rw [← hw24] at HY24
        have HKB24 := Lib.hid (set4_other HKB24m.out (R := bx) (by have := HORD.out; omega) (.int .i64 PO.addr) (.int .i64 PO.state) (.int .u32 PO.val) (.int .i64 PO.used))
        rw [← hw24] at HKB24
        have HVA24 := Lib.hid (Var.set4 HVA24m.out (R := bx) ⟨HMbx.out, by have := HLTbx22.out; omega⟩ (by have := HORD.out; omega) (.int .i64 PO.addr) (.int .i64 PO.state) (.int .u32 PO.val) (.int .i64 PO.used))
        rw [← hw24] at HVA24
        have HB24 : Hid (Below w.heap.size w w24) := Lib.hid (by rw [hw24]; exact set4_below HB24m.out (by have := HMbx.out; have := HMB.out; have := HLT.out; omega) _ _ _ _)
        have HMS24 : Hid (m ≤ w24.heap.size) := Lib.hid (by rw [hw24, size_set, size_set, size_set, size_set]; exact HMS24m.out)
        rw [← hw24]
        clear hw24 HB24m HMS24m lk lf ll hn1 hn2 HVC24m HVM24m HX24m HY24m HKB24m HVA24m
        have HLTbx24 : Hid (bx < w24.heap.size) := Lib.hid (by have := HKB24.out.lt; have := HORD.out; omega)
        have HLTby_24 : Hid (by_ < w24.heap.size) := Lib.hid (by have := HKB24.out.lt; have := HORD.out; omega)
        have HLTba24 : Hid (ba < w24.heap.size) := Lib.hid (by have := HKB24.out.lt; have := HORD.out; omega)
        have HLTbb24 : Hid (bb < w24.heap.size) := Lib.hid (by have := HKB24.out.lt; have := HORD.out; omega)
        obtain ⟨ph, nh, ch, xh, hkh, hcoh, hcch⟩ := HVC24.out.co
        have kh := hkh.c
        have hqh := refput_any (fun R => m ≤ R ∧ R < w24.heap.size) _ C a1 a2 vx w24 (hcoh.weak (fun R hR => hR.1)) (fun R hR => hR.2)
        rw [← HEPC.out, ← HEPO.out, ← HEPE.out] at hqh
        have HQh := Lib.hid hqh
        clear hkh hcoh hcch hqh
        go_upto_region 24 with fail
        go_wp2_with fail
        refine HQh.out.mono ?_
        rintro e w25 ⟨vh, rfl, ho, hb⟩
        clear HQh kh
        obtain ⟨qh, lh, dh, yh, rfl, hcq, hof⟩ := ho
        have HO25 : Hid (Co (fun R => m ≤ R ∧ R < w24.heap.size) w25 (.agg #[.int .i64 PC.sets, .int .i64 PC.ways, .int .i64 PC.clock, .slice qh lh dh]) PC) := Lib.hid ⟨_, _, _, _, rfl, hcq, hof⟩
        clear hcq hof
        have HMS25 : Hid (m ≤ w25.heap.size) := Lib.hid (Nat.le_trans HMS24.out hb.size)
        have HVC25 := Lib.hid (HVC24.out.below hb)
        have HVM25 := Lib.hid (HVM24.out.below hb)
        have HX25 := Lib.hid (HX24.out.below hb)
        have HY25 := Lib.hid (HY24.out.below hb)
        have HKB25 := Lib.hid (HKB24.out.below hb)
        have HVA25 := Lib.hid (HVA24.out.below hb)
        have HB25 : Hid (Below w.heap.size w w25) := Lib.hid (HB24.out.trans (Below.mono hb HB24.out.size))
        clear HVC24 HVM24 HX24 HY24 HKB24 HVA24 HB24
        clear hb
        have kk := HKB25.out.c
        have kf := HKB25.out.f
        have kl := HKB25.out.lt
        have lk := HY25.out.c
        have lf := HY25.out.f
        have ll := HY25.out.lt
        have hn1 : bb ≠ by_ := by have := HORD.out; omega
        have hn2 : by_ ≠ bb := by have := HORD.out; omega
        go_upto_region 25 with fail
        obtain ⟨w26m, hw26m⟩ : ∃ z, z = ((((w25.setCell ⟨bb, 0, none⟩ (.int .i64 PC.sets)).setCell ⟨bb, 1, none⟩ (.int .i64 PC.ways)).setCell ⟨bb, 2, none⟩ (.int .i64 PC.clock)).setCell ⟨bb, 3, none⟩ (.slice qh lh dh)) := ⟨_, rfl⟩
        have HVB26m : Hid (Var (fun R => m ≤ R ∧ R < w24.heap.size) w26m bb PC) := Lib.hid (by rw [hw26m]; exact Var.put HKB25.out HO25.out ⟨HMbb.out, by have := HKB25.out.lt; have := HLTbb24.out; omega⟩)
        have HVC26m : Hid (Var (fun R => m ≤ R) w26m w.heap.size C) := Lib.hid (by rw [hw26m]; exact HVC25.out.set4 HMbb.out (by have := HMbb.out; have := HMB.out; have := HLT.out; omega) _ _ _ _)
        have HVM26m : Hid (Var (fun R => m ≤ R) w26m bm C) := Lib.hid (by rw [hw26m]; exact HVM25.out.set4 HMbb.out (by have := HMbb.out; have := HMB.out; have := HLT.out; omega) _ _ _ _)
        have HX26m := Lib.hid (set4_other HX25.out (R := bb) (by have := HORD.out; omega) (.int .i64 PC.sets) (.int .i64 PC.ways) (.int .i64 PC.clock) (.slice qh lh dh))
        rw [← hw26m] at HX26m
        have HY26m := Lib.hid (set4_other HY25.out (R := bb) (by have := HORD.out; omega) (.int .i64 PC.sets) (.int .i64 PC.ways) (.int .i64 PC.clock) (.slice qh lh dh))
        rw [← hw26m] at HY26m
        have HVA26m := Lib.hid (Var.set4 HVA25.out (R := bb) ⟨HMbb.out, by have := HLTbb22.out; omega⟩ (by have := HORD.out; omega) (.int .i64 PC.sets) (.int .i64 PC.ways) (.int .i64 PC.clock) (.slice qh lh dh))
        rw [← hw26m] at HVA26m
        have HB26m : Hid (Below w.heap.size w w26m) := Lib.hid (by rw [hw26m]; exact set4_below HB25.out (by have := HMbb.out; have := HMB.out; have := HLT.out; omega) _ _ _ _)
        have HMS26m : Hid (m ≤ w26m.heap.size) := Lib.hid (by rw [hw26m, size_set, size_set, size_set, size_set]; exact HMS25.out)
        rw [← hw26m]
        clear hw26m HO25 kk kf kl HB25 HMS25 HVC25 HVM25 HX25 HY25 HVA25 HKB25
        obtain ⟨w26, hw26⟩ : ∃ z, z = ((((w26m.setCell ⟨by_, 0, none⟩ (.int .i64 PO.addr)).setCell ⟨by_, 1, none⟩ (.int .i64 PO.state)).setCell ⟨by_, 2, none⟩ (.int .u32 PO.val)).setCell ⟨by_, 3, none⟩ (.int .i64 PO.used)) := ⟨_, rfl⟩
        have HY26 : Hid (Blk w26 by_ #[.int .i64 PO.addr, .int .i64 PO.state, .int .u32 PO.val, .int .i64 PO.used]) := Lib.hid (by rw [hw26]; exact set4_same HY26m.out _ _ _ _)
        have HVC26 : Hid (Var (fun R => m ≤ R) w26 w.heap.size C) := Lib.hid (by rw [hw26]; exact HVC26m.out.set4 HMby_.out (by have := HMby_.out; have := HMB.out; have := HLT.out; omega) _ _ _ _)
        have HVM26 : Hid (Var (fun R => m ≤ R) w26 bm C) := Lib.hid (by rw [hw26]; exact HVM26m.out.set4 HMby_.out (by have := HMby_.out; have := HMB.out; have := HLT.out; omega) _ _ _ _)
        have HX26 := Lib.hid (set4_other HX26m.out (R := by_) (by have := HORD.out; omega) (.int .i64 PO.addr) (.int .i64 PO.state) (.int .u32 PO.val) (.int .i64 PO.used))
        rw [← hw26] at HX26
        have HVA26 := Lib.hid (Var.set4 HVA26m.out (R := by_) ⟨HMby_.out, by have := HLTby_22.out; omega⟩ (by have := HORD.out; omega) (.int .i64 PO.addr) (.int .i64 PO.state) (.int .u32 PO.val) (.int .i64 PO.used))
        rw [← hw26] at HVA26
        have HVB26 := Lib.hid (Var.set4 HVB26m.out (R := by_) ⟨HMby_.out, by have := HLTby_24.out; omega⟩ (by have := HORD.out; omega) (.int .i64 PO.addr) (.int .i64 PO.state) (.int .u32 PO.val) (.int .i64 PO.used))
        rw [← hw26] at HVB26
        have HB26 : Hid (Below w.heap.size w w26) := Lib.hid (by rw [hw26]; exact set4_below HB26m.out (by have := HMby_.out; have := HMB.out; have := HLT.out; omega) _ _ _ _)
        have HMS26 : Hid (m ≤ w26.heap.size) := Lib.hid (by rw [hw26, size_set, size_set, size_set, size_set]; exact HMS26m.out)
        rw [← hw26]
        clear hw26 HB26m HMS26m lk lf ll hn1 hn2 HVC26m HVM26m HX26m HY26m HVA26m HVB26m
        obtain ⟨pac, nac, cac, xac, hkac, -, hcac⟩ := HVA26.out.co
        obtain ⟨pbc, nbc, cbc, xbc, hkbc, -, hcbc⟩ := HVB26.out.co
        have eNc : nac = nbc := by rw [← hcac.zn, ← hcbc.zn]
        subst eNc
        have hqc := same_any pac pbc nac cac cbc xac xbc PC w26 hcac hcbc
        have HQc := Lib.hid hqc
        have kac := hkac.c
        have kbc := hkbc.c
        have eE : (PE != PE) = false := by simp
        have HKA26 := Lib.hid hkac
        have HKB26 := Lib.hid hkbc
        clear hqc hkac hkbc hcac hcbc HVA26 HVB26
        go_upto_region 25 with fail
        go_wp2_with fail
        refine HQc.out.mono ?_
        rintro e w27 ⟨rfl, hb⟩
        clear HQc kac kbc
        have HMS27 : Hid (m ≤ w27.heap.size) := Lib.hid (Nat.le_trans HMS26.out hb.size)
        have HVC27 := Lib.hid (HVC26.out.below hb)
        have HVM27 := Lib.hid (HVM26.out.below hb)
        have HX27 := Lib.hid (HX26.out.below hb)
        have HY27 := Lib.hid (HY26.out.below hb)
        have HKA27 := Lib.hid (HKA26.out.below hb)
        have HKB27 := Lib.hid (HKB26.out.below hb)
        have HB27 : Hid (Below w.heap.size w w27) := Lib.hid (HB26.out.trans (Below.mono hb HB26.out.size))
        clear HVC26 HVM26 HX26 HY26 HKA26 HKB26 HB26
        clear hb
        have kx := HX27.out.c
        have ky := HY27.out.c
        have hne : ∀ W, (binOp .neq 30 (.agg #[.int .i64 PO.addr, .int .i64 PO.state, .int .u32 PO.val, .int .i64 PO.used]) (.agg #[.int .i64 PO.addr, .int .i64 PO.state, .int .u32 PO.val, .int .i64 PO.used])).run Try.prog W = .ok (.bool false) W := fun W => by
          rw [neq_line, (eqN_iff PO PO).2 rfl]; rfl
        go_upto_region 27 with fail
        clear eE kx ky hne
        obtain ⟨NC, hNC⟩ : ∃ z, z = newC a4 a5 := ⟨_, rfl⟩
        have HENC := Lib.hid hNC
        clear hNC
        obtain ⟨NE, hNE⟩ : ∃ z, z = newE a4 a5 := ⟨_, rfl⟩
        have HENE := Lib.hid hNE
        clear hNE
        have HLTbx27 : Hid (bx < w27.heap.size) := Lib.hid (by have := HKB27.out.lt; have := HORD.out; omega)
        have HLTby_27 : Hid (by_ < w27.heap.size) := Lib.hid (by have := HKB27.out.lt; have := HORD.out; omega)
        have HLTba27 : Hid (ba < w27.heap.size) := Lib.hid (by have := HKB27.out.lt; have := HORD.out; omega)
        have HLTbb27 : Hid (bb < w27.heap.size) := Lib.hid (by have := HKB27.out.lt; have := HORD.out; omega)
        have hqi := new_any a4 a5 w27
        rw [← HENC.out, ← HENE.out] at hqi
        go_upto_region 27 with fail
        go_wp2_with fail
        refine hqi.mono ?_
        clear hqi
        rintro e w28 ⟨vi, rfl, ho, hb⟩
        obtain ⟨qi, li, di, yi, rfl, hcq, hof⟩ := ho
        have HO28 : Hid (Co (fun R => m ≤ R ∧ R < w27.heap.size) w28 (.agg #[.int .i64 NC.sets, .int .i64 NC.ways, .int .i64 NC.clock, .slice qi li di]) NC) := Lib.hid ⟨_, _, _, _, rfl, hcq, fun R hR => hof R hR.2⟩
        clear hcq hof
        have HMS28 : Hid (m ≤ w28.heap.size) := Lib.hid (Nat.le_trans HMS27.out hb.size)
        have HVC28 := Lib.hid (HVC27.out.below hb)
        have HVM28 := Lib.hid (HVM27.out.below hb)
        have HX28 := Lib.hid (HX27.out.below hb)
        have HY28 := Lib.hid (HY27.out.below hb)
        have HKA28 := Lib.hid (HKA27.out.below hb)
        have HKB28 := Lib.hid (HKB27.out.below hb)
        have HB28 : Hid (Below w.heap.size w w28) := Lib.hid (HB27.out.trans (Below.mono hb HB27.out.size))
        clear HVC27 HVM27 HX27 HY27 HKA27 HKB27 HB27
        clear hb
        have kk := HKA28.out.c
        have kf := HKA28.out.f
        have kl := HKA28.out.lt
        go_upto_region 28 with fail
        obtain ⟨w29, hw29⟩ : ∃ z, z = ((((w28.setCell ⟨ba, 0, none⟩ (.int .i64 NC.sets)).setCell ⟨ba, 1, none⟩ (.int .i64 NC.ways)).setCell ⟨ba, 2, none⟩ (.int .i64 NC.clock)).setCell ⟨ba, 3, none⟩ (.slice qi li di)) := ⟨_, rfl⟩
        have HVA29 : Hid (Var (fun R => m ≤ R ∧ R < w27.heap.size) w29 ba NC) := Lib.hid (by rw [hw29]; exact Var.put HKA28.out HO28.out ⟨HMba.out, by have := HKA28.out.lt; have := HLTba27.out; omega⟩)
        have HVC29 : Hid (Var (fun R => m ≤ R) w29 w.heap.size C) := Lib.hid (by rw [hw29]; exact HVC28.out.set4 HMba.out (by have := HMba.out; have := HMB.out; have := HLT.out; omega) _ _ _ _)
        have HVM29 : Hid (Var (fun R => m ≤ R) w29 bm C) := Lib.hid (by rw [hw29]; exact HVM28.out.set4 HMba.out (by have := HMba.out; have := HMB.out; have := HLT.out; omega) _ _ _ _)
        have HX29 := Lib.hid (set4_other HX28.out (R := ba) (by have := HORD.out; omega) (.int .i64 NC.sets) (.int .i64 NC.ways) (.int .i64 NC.clock) (.slice qi li di))
        rw [← hw29] at HX29
        have HY29 := Lib.hid (set4_other HY28.out (R := ba) (by have := HORD.out; omega) (.int .i64 NC.sets) (.int .i64 NC.ways) (.int .i64 NC.clock) (.slice qi li di))
        rw [← hw29] at HY29
        have HKB29 := Lib.hid (set4_other HKB28.out (R := ba) (by have := HORD.out; omega) (.int .i64 NC.sets) (.int .i64 NC.ways) (.int .i64 NC.clock) (.slice qi li di))
        rw [← hw29] at HKB29
        have HB29 : Hid (Below w.heap.size w w29) := Lib.hid (by rw [hw29]; exact set4_below HB28.out (by have := HMba.out; have := HMB.out; have := HLT.out; omega) _ _ _ _)
        have HMS29 : Hid (m ≤ w29.heap.size) := Lib.hid (by rw [hw29, size_set, size_set, size_set, size_set]; exact HMS28.out)
        rw [← hw29]
        clear hw29 HO28 kk kf kl HB28 HMS28 HVC28 HVM28 HX28 HY28 HKB28 HKA28
        have HLTbx29 : Hid (bx < w29.heap.size) := Lib.hid (by have := HKB29.out.lt; have := HORD.out; omega)
        have HLTby_29 : Hid (by_ < w29.heap.size) := Lib.hid (by have := HKB29.out.lt; have := HORD.out; omega)
        have HLTba29 : Hid (ba < w29.heap.size) := Lib.hid (by have := HKB29.out.lt; have := HORD.out; omega)
        have HLTbb29 : Hid (bb < w29.heap.size) := Lib.hid (by have := HKB29.out.lt; have := HORD.out; omega)
        have hqk := refnew_any a4 a5 w29
        rw [← HENC.out, ← HENE.out] at hqk
        go_upto_region 28 with fail
        go_wp2_with fail
        refine hqk.mono ?_
        clear hqk
        rintro e w30 ⟨vk, rfl, ho, hb⟩
        obtain ⟨qk, lk, dk, yk, rfl, hcq, hof⟩ := ho
        have HO30 : Hid (Co (fun R => m ≤ R ∧ R < w29.heap.size) w30 (.agg #[.int .i64 NC.sets, .int .i64 NC.ways, .int .i64 NC.clock, .slice qk lk dk]) NC) := Lib.hid ⟨_, _, _, _, rfl, hcq, fun R hR => hof R hR.2⟩
        clear hcq hof
        have HMS30 : Hid (m ≤ w30.heap.size) := Lib.hid (Nat.le_trans HMS29.out hb.size)
        have HVC30 := Lib.hid (HVC29.out.below hb)
        have HVM30 := Lib.hid (HVM29.out.below hb)
        have HX30 := Lib.hid (HX29.out.below hb)
        have HY30 := Lib.hid (HY29.out.below hb)
        have HKB30 := Lib.hid (HKB29.out.below hb)
        have HVA30 := Lib.hid (HVA29.out.below hb)
        have HB30 : Hid (Below w.heap.size w w30) := Lib.hid (HB29.out.trans (Below.mono hb HB29.out.size))
        clear HVC29 HVM29 HX29 HY29 HKB29 HVA29 HB29
        clear hb
        have kk := HKB30.out.c
        have kf := HKB30.out.f
        have kl := HKB30.out.lt
        go_upto_region 29 with fail
        obtain ⟨w31, hw31⟩ : ∃ z, z = ((((w30.setCell ⟨bb, 0, none⟩ (.int .i64 NC.sets)).setCell ⟨bb, 1, none⟩ (.int .i64 NC.ways)).setCell ⟨bb, 2, none⟩ (.int .i64 NC.clock)).setCell ⟨bb, 3, none⟩ (.slice qk lk dk)) := ⟨_, rfl⟩
        have HVB31 : Hid (Var (fun R => m ≤ R ∧ R < w29.heap.size) w31 bb NC) := Lib.hid (by rw [hw31]; exact Var.put HKB30.out HO30.out ⟨HMbb.out, by have := HKB30.out.lt; have := HLTbb29.out; omega⟩)
        have HVC31 : Hid (Var (fun R => m ≤ R) w31 w.heap.size C) := Lib.hid (by rw [hw31]; exact HVC30.out.set4 HMbb.out (by have := HMbb.out; have := HMB.out; have := HLT.out; omega) _ _ _ _)
        have HVM31 : Hid (Var (fun R => m ≤ R) w31 bm C) := Lib.hid (by rw [hw31]; exact HVM30.out.set4 HMbb.out (by have := HMbb.out; have := HMB.out; have := HLT.out; omega) _ _ _ _)
        have HX31 := Lib.hid (set4_other HX30.out (R := bb) (by have := HORD.out; omega) (.int .i64 NC.sets) (.int .i64 NC.ways) (.int .i64 NC.clock) (.slice qk lk dk))
        rw [← hw31] at HX31
        have HY31 := Lib.hid (set4_other HY30.out (R := bb) (by have := HORD.out; omega) (.int .i64 NC.sets) (.int .i64 NC.ways) (.int .i64 NC.clock) (.slice qk lk dk))
        rw [← hw31] at HY31
        have HVA31 := Lib.hid (Var.set4 HVA30.out (R := bb) ⟨HMbb.out, by have := HLTbb27.out; omega⟩ (by have := HORD.out; omega) (.int .i64 NC.sets) (.int .i64 NC.ways) (.int .i64 NC.clock) (.slice qk lk dk))
        rw [← hw31] at HVA31
        have HB31 : Hid (Below w.heap.size w w31) := Lib.hid (by rw [hw31]; exact set4_below HB30.out (by have := HMbb.out; have := HMB.out; have := HLT.out; omega) _ _ _ _)
        have HMS31 : Hid (m ≤ w31.heap.size) := Lib.hid (by rw [hw31, size_set, size_set, size_set, size_set]; exact HMS30.out)
        rw [← hw31]
        clear hw31 HO30 kk kf kl HB30 HMS30 HVC30 HVM30 HX30 HY30 HVA30 HKB30
        obtain ⟨pa, na, ca, xa, hka, -, hca⟩ := HVA31.out.co
        obtain ⟨pb, nb, cb, xb, hkb, -, hcb⟩ := HVB31.out.co
        have eN : na = nb := by rw [← hca.zn, ← hcb.zn]
        subst eN
        obtain ⟨ps, ns, cs, xs', hks, hcos, hccs⟩ := HVM31.out.co
        obtain ⟨pt, nt, ct, xt, hkt, hcot, hcct⟩ := HVC31.out.co
        have eN : ns = nt := by rw [← hccs.zn, ← hcct.zn]
        subst eN
        have HKA := Lib.hid hka
        have HKB := Lib.hid hkb
        have HKS := Lib.hid hks
        have HKT := Lib.hid hkt
        have HSA := Lib.hid (fun W (hW : Below w31.heap.size w31 W) => same_any pa pb na ca cb xa xb NC W (hca.below hW) (hcb.below hW))
        have HSC := Lib.hid (fun W (hW : Below w31.heap.size w31 W) => same_any ps pt ns cs ct xs' xt C W (hccs.below hW) (hcct.below hW))
        have HRI := Lib.hid (fun W (hW : Below w31.heap.size w31 W) => right_any _ _ C W (hcos.below hW))
        have HRR := Lib.hid (fun W (hW : Below w31.heap.size w31 W) => refright_any _ _ C W (hcot.below hW))
        obtain ⟨r, hr⟩ : ∃ z, z = rightC C := ⟨_, rfl⟩
        rw [← hr] at HRI HRR
        clear hr hka hkb hks hkt hca hcb hcos hcot hccs hcct HVA31 HVB31 HVM31 HVC31 HX31 HY31 HENC HENE HEPC HEPO HEPE HEUC HEUE HEDC HEDE
        have eE : (NE == NE) = true := by simp
        have eR : (r == r) = true := by cases r <;> rfl
        have HS : Hid (∀ W, Below w31.heap.size w31 W → (∀ t, W.cell? ⟨ba, t, none⟩ = (#[.int .i64 NC.sets, .int .i64 NC.ways, .int .i64 NC.clock, .slice pa na ca] : Array Value)[t]?) ∧ (∀ t, W.cell? ⟨bb, t, none⟩ = (#[.int .i64 NC.sets, .int .i64 NC.ways, .int .i64 NC.clock, .slice pb na cb] : Array Value)[t]?) ∧ (∀ t, W.cell? ⟨bm, t, none⟩ = (#[.int .i64 C.sets, .int .i64 C.ways, .int .i64 C.clock, .slice ps ns cs] : Array Value)[t]?) ∧ ∀ t, W.cell? ⟨w.heap.size, t, none⟩ = (#[.int .i64 C.sets, .int .i64 C.ways, .int .i64 C.clock, .slice pt ns ct] : Array Value)[t]?) := Lib.hid (fun W hW => ⟨(HKA.out.below hW).c, (HKB.out.below hW).c, (HKS.out.below hW).c, (HKT.out.below hW).c⟩)
        refine region_plan (fun W : World => (∀ t, W.cell? ⟨ba, t, none⟩ = (#[.int .i64 NC.sets, .int .i64 NC.ways, .int .i64 NC.clock, .slice pa na ca] : Array Value)[t]?) ∧ (∀ t, W.cell? ⟨bb, t, none⟩ = (#[.int .i64 NC.sets, .int .i64 NC.ways, .int .i64 NC.clock, .slice pb na cb] : Array Value)[t]?) ∧ (∀ t, W.cell? ⟨bm, t, none⟩ = (#[.int .i64 C.sets, .int .i64 C.ways, .int .i64 C.clock, .slice ps ns cs] : Array Value)[t]?) ∧ ∀ t, W.cell? ⟨w.heap.size, t, none⟩ = (#[.int .i64 C.sets, .int .i64 C.ways, .int .i64 C.clock, .slice pt ns ct] : Array Value)[t]?) 18 [(0, true), (1, true), (2, false), (3, true), (4, true), (5, true), (6, true), (7, true), (8, true), (9, true), (11, true), (10, false), (12, false), (13, true), (14, true), (15, true), (16, true), (17, true)] (by kernel_rfl) (by kernel_rfl) (HS.out _ (Below.refl _ _).drew) ?_
        iterate 2
          refine plan_read (v := ?_) rfl (by rfl) ?_ ?_
          rotate_left
          · intro w' hS
            try dsimp only at hS
            obtain ⟨hS1, hS2, hS3, hS4⟩ := hS
            go_simp
            try with_reducible rfl
          try simp only [Act.put, List.setIfInBounds_toArray, List.set_cons_zero, List.set_cons_succ, List.getElem_toArray, List.getElem_cons_zero, List.getElem_cons_succ, eE, eR]
        refine plan_call (F := 15) (args := ?_) rfl (by rfl) ?_ ?_
        rotate_left
        · go_simp
          rfl
        refine (HSA.out w31.drew (Below.refl _ _).drew).mono ?_
        rintro e w32 ⟨rfl, hb⟩
        have HN1 : Hid (Below w31.heap.size w31 w32) := Lib.hid ((Below.refl _ _).drew.trans hb)
        clear hb
        refine ⟨_, rfl, HS.out _ HN1.out, ?_⟩
        try simp only [Act.put, List.setIfInBounds_toArray, List.set_cons_zero, List.set_cons_succ, List.getElem_toArray, List.getElem_cons_zero, List.getElem_cons_succ]
        iterate 8
          refine plan_read (v := ?_) rfl (by rfl) ?_ ?_
          rotate_left
          · intro w' hS
            try dsimp only at hS
            obtain ⟨hS1, hS2, hS3, hS4⟩ := hS
            go_simp
            try with_reducible rfl
          try simp only [Act.put, List.setIfInBounds_toArray, List.set_cons_zero, List.set_cons_succ, List.getElem_toArray, List.getElem_cons_zero, List.getElem_cons_succ, eE, eR]
        refine plan_call (F := 22) (args := ?_) rfl (by rfl) ?_ ?_
        rotate_left
        · go_simp
          rfl
        refine (HRI.out w32 HN1.out).mono ?_
        rintro e w33 ⟨rfl, hb⟩
        have HN2 : Hid (Below w31.heap.size w31 w33) := Lib.hid (HN1.out.trans (hb.mono HN1.out.size))
        clear hb
        refine ⟨_, rfl, HS.out _ HN2.out, ?_⟩
        try simp only [Act.put, List.setIfInBounds_toArray, List.set_cons_zero, List.set_cons_succ, List.getElem_toArray, List.getElem_cons_zero, List.getElem_cons_succ]
        refine plan_call (F := 23) (args := ?_) rfl (by rfl) ?_ ?_
        rotate_left
        · go_simp
          rfl
        refine (HRR.out w33 HN2.out).mono ?_
        rintro e w34 ⟨rfl, hb⟩
        have HN3 : Hid (Below w31.heap.size w31 w34) := Lib.hid (HN2.out.trans (hb.mono HN2.out.size))
        clear hb
        refine ⟨_, rfl, HS.out _ HN3.out, ?_⟩
        try simp only [Act.put, List.setIfInBounds_toArray, List.set_cons_zero, List.set_cons_succ, List.getElem_toArray, List.getElem_cons_zero, List.getElem_cons_succ]
        iterate 5
          refine plan_read (v := ?_) rfl (by rfl) ?_ ?_
          rotate_left
          · intro w' hS
            try dsimp only at hS
            obtain ⟨hS1, hS2, hS3, hS4⟩ := hS
            go_simp
            try with_reducible rfl
          try simp only [Act.put, List.setIfInBounds_toArray, List.set_cons_zero, List.set_cons_succ, List.getElem_toArray, List.getElem_cons_zero, List.getElem_cons_succ, eE, eR]
        refine plan_nil ?_
        simp only [List.drop_succ_cons, List.drop_zero]
        have hq := HSC.out w34 HN3.out
        go_wp2_with fail
        refine hq.mono ?_
        rintro e w35 ⟨rfl, hb⟩
        have HB35 : Hid (Below w.heap.size w w35) := Lib.hid (HB31.out.trans ((HN3.out.trans (hb.mono HN3.out.size)).mono HB31.out.size))
        clear hb hq
        go_wp2_with fail
        go_ret
        exact ⟨rfl, HB35.out⟩
end Go.Proofs.Ytoddmgaihggkjaa
