/- PoolKeeps: the walk of the statement's function. -/
import Derived.Test.YtpmheaeiemnjeaaPoolB6
import Derived.Deep.CutBlock
namespace Go.Proofs.Ytpmheaeiemnjeaa
set_option linter.unusedVariables false
open Go.ChangeShapes Go.WideShapes Go.ChangeAt Go.RowKit

theorem info53 : (Try.prog.info? 53).map (fun i => (i.zero, i.size, i.bytes)) = some (some (.agg #[.int .u8 0, .int .u8 0, .int .u8 0, .int .u8 0, .int .u8 0, .int .u8 0, .int .u8 0, .int .u8 0, .int .u8 0, .int .u8 0, .int .u8 0, .int .u8 0, .int .u8 0, .int .u8 0, .int .u8 0, .int .u8 0, .int .u8 0, .int .u8 0, .int .u8 0]), 19, 19) := by kernel_rfl
theorem own_mono {w : World} {base base' : Nat} {e : TypeId} {size : Nat} {v : Value} {n : Nat} {xs : List Value} (h : w.ownsRow base e size v n xs) (hb : base' ≤ base) : w.ownsRow base' e size v n xs := by
  obtain ⟨h1, h2 | ⟨g, c, cur, e1, e2, e3⟩⟩ := h
  · exact ⟨h1, .inl h2⟩
  · exact ⟨h1, .inr ⟨g, c, cur, e1, Nat.le_trans hb e2, e3⟩⟩
/-- To leave a walk at a place. -/
theorem stop_here {p : Prop} (h : Hid p) : p := h.out
/-- A row stays where one of unlike elements grows. -/
theorem own_keep {w w' : World} {b b' : Nat} {e e' : TypeId} {s s' n n' : Nat} {v v' : Value} {xs xs' : List Value} (h : w.ownsRow b e s v n xs) (h' : w.ownsRow b' e' s' v' n' xs') (hne : e ≠ e') (hg : w.grownBy w' v'.ownBlock) : w'.ownsRow b e s v n xs := by
  refine h.kept hg ?_
  cases hv : v.ownBlock with
  | none => exact .inl rfl
  | some g => exact .inr (fun e2 => own_apart h h' hne g hv e2.symm)
set_option maxHeartbeats 16000000 in
set_option maxRecDepth 100000 in
theorem keeps_main (p0 : Option Addr) (n c : Nat) (ds : List Dd) (w : World) (hz : ds.length = n) (hnm : n ≤ maxLen) (hfit : ∀ k, (ds.getD k dd0).Fits) (h : Els w p0 12 n (fun k => (ds.getD k dd0).row)) :
    Calls Try.prog 4 #[.slice p0 n c] w fun e w' => e = .returned (.bool true) ∧ Below w.heap.size w w' := by
  have HE := Lib.hid h
  have HF := Lib.hid hfit
  unfold maxLen at hnm
  clear h hz hfit
  go_enter Try.func4, Try.ntmps4
  go_wp2_with fail
  refine (awake_any _).mono ?_
  rintro e w1 ⟨rfl, hb1⟩
  have HB1 : Hid (Below w.heap.size w w1) := Lib.hid hb1
  clear hb1
  obtain ⟨i0, hi0, hz0, hz1, hz2⟩ := info_parts info27
  have HI0 := Lib.hid (And.intro hi0 (And.intro hz0 (And.intro hz1 hz2)))
  obtain ⟨i3, hi3, hy0, hy1, hy2⟩ := info_parts info53
  have HI3 := Lib.hid (And.intro hi3 (And.intro hy0 (And.intro hy1 hy2)))
  clear hi0 hz0 hz1 hz2 hi3 hy0 hy1 hy2
  go_wp2_with fail
  obtain ⟨W, hW⟩ : ∃ W, W = w1.alloc (.cells #[.slice none 0 0] 24) := ⟨_, rfl⟩
  have HBW : Hid (Below w.heap.size w W) := Lib.hid (by rw [hW]; exact HB1.out.alloc HB1.out.size _)
  have HKW : Hid (Blk W w1.heap.size #[.slice none 0 0]) := Lib.hid (by rw [hW]; exact Blk.new _ _ _)
  have HS1 : Hid (w.heap.size ≤ w1.heap.size) := Lib.hid HB1.out.size
  rw [← hW]
  obtain ⟨R, hR⟩ : ∃ R, R = w1.heap.size := ⟨_, rfl⟩
  rw [← hR] at HKW HS1 ⊢
  clear hW HB1 hR
  go_loopw [4, 5, 6] (fun s4 s5 s6 wr => ∃ j : Nat, j ≤ n ∧ s6 = .int .i64 j ∧ (∃ M Z p cp xs, Kept2 M Z ∧ Blk wr R #[.slice p M.length cp] ∧ Pl wr p xs (mixS M Z) ∧ wr.ownsRow (R + 1) 27 9 s4 M.length (rowsM M) ∧ wr.ownsRow (R + 1) 53 19 s5 M.length (rowsZ Z)) ∧ Below w.heap.size w wr) (fun _ _ s6 _ => n - (intOf s6).toNat)
  case atStart => exact ⟨0, Nat.zero_le _, rfl, ⟨[], [], none, 0, [], Kept2.nil, HKW.out, Pl.nil _ _, World.ownsRow_nil _ _ _ _, World.ownsRow_nil _ _ _ _⟩, HBW.out⟩
  case round =>
    obtain ⟨j, hj, rfl, ⟨M, Z, p, cp, xs, hkz, hk, hp, ho4, ho5⟩, hb⟩ := hrel
    clear HKW HBW
    by_cases hlt : j < n
    · by_cases h100 : j < 100
      · have hlt' : (j : Int) < (n : Int) := by omega
        have d100 : decide ((j : Int) < 100) = true := decide_eq_true (by omega)
        obtain ⟨s, hs⟩ : ∃ s, s = M.length := ⟨_, rfl⟩
        obtain ⟨pv, cv, rfl, hels⟩ := own_els ho4
        obtain ⟨pz, cz, rfl, hslz⟩ := Sl.own ho5
        rw [← hs] at hk ho4 ho5 hels hslz ⊢
        have hs64 : s ≤ 64 := by rw [hs]; exact hkz.few
        have HSL := Lib.hid hs
        have HKZ := Lib.hid hkz
        have HK := Lib.hid hk
        have HP := Lib.hid hp
        have HO4 := Lib.hid ho4
        have HO5 := Lib.hid ho5
        have HEL := Lib.hid hels
        have HZL := Lib.hid hslz
        have HB := Lib.hid hb
        have HWL : Hid (R < wr.heap.size) := Lib.hid hk.lt
        have HD5 := Lib.hid (own_apart ho4 ho5 (by decide))
        clear hs hkz hk hp ho4 ho5 hels hslz hb
        obtain ⟨b, off, hbl, rfl, hcell⟩ := HE.out (by omega)
        have hc12 := hcell j hlt
        dsimp only at hc12
        have hft := HF.out j
        obtain ⟨dd, hdd⟩ : ∃ dd, dd = ds.getD j dd0 := ⟨_, rfl⟩
        rw [← hdd] at hc12 hft
        obtain ⟨xd, ⟨rmk, rmf, rmt, rml, rmo, rma, rmown, rmn, rmv⟩, xp, xb⟩ := dd
        obtain ⟨n0, n1, n2, n3, n4, n5, n6, n7, n8, n9, n10, n11⟩ : Twelve wr b (off + j * 12) (.int .u8 xd) (.int .i64 rmk) (.int .i64 rmf) (.int .i64 rmt) (.int .i64 rml) (.int .i64 rmo) (.int .i64 rma) (.bool rmown) (.int .u32 rmn) (.int .u32 rmv) (.int .u8 xp) (.int .u8 xb) := (Twelve.of hc12).below HB.out hbl
        obtain ⟨fd, fn, fv, fp, fb⟩ := hft
        dsimp only at fd fn fv fp fb
        clear hdd hc12 hcell
        obtain ⟨m, hm⟩ : ∃ m : Msg, m = ⟨rmk, rmf, rmt, rml, rmo, rma, rmown, rmn, rmv⟩ := ⟨_, rfl⟩
        have HROW : Hid (m.row = #[.int .i64 rmk, .int .i64 rmf, .int .i64 rmt, .int .i64 rml, .int .i64 rmo, .int .i64 rma, .bool rmown, .int .u32 rmn, .int .u32 rmv]) := Lib.hid (by rw [hm]; rfl)
        have HMN : Hid (m.n < 4294967296 ∧ m.v < 4294967296) := Lib.hid (by rw [hm]; exact ⟨fn, fv⟩)
        clear hm fn fv
        go_upto_region 10 with fail
        obtain ⟨WA, hW⟩ : ∃ WA, WA = wr.alloc (.cells #[.int .u8 xd, .int .i64 rmk, .int .i64 rmf, .int .i64 rmt, .int .i64 rml, .int .i64 rmo, .int .i64 rma, .bool rmown, .int .u32 rmn, .int .u32 rmv, .int .u8 xp, .int .u8 xb] 51) := ⟨_, rfl⟩
        have HBA : Hid (Below wr.heap.size wr WA) := Lib.hid (by rw [hW]; exact (Below.refl _ _).alloc (Nat.le_refl _) _)
        have HK7 : Hid (Blk WA wr.heap.size #[.int .u8 xd, .int .i64 rmk, .int .i64 rmf, .int .i64 rmt, .int .i64 rml, .int .i64 rmo, .int .i64 rma, .bool rmown, .int .u32 rmn, .int .u32 rmv, .int .u8 xp, .int .u8 xb]) := Lib.hid (by rw [hW]; exact Blk.new _ _ _)
        rw [← hW]
        obtain ⟨B7, hB7⟩ : ∃ B, B = wr.heap.size := ⟨_, rfl⟩
        have HR7 : Hid (R < B7) := Lib.hid (by rw [hB7]; exact HWL.out)
        rw [← hB7] at HK7 ⊢
        have HKA := Lib.hid (HK.out.below HBA.out)
        have HPA := Lib.hid (HP.out.below HBA.out)
        have HO4A := Lib.hid (own_below HO4.out HBA.out)
        have HO5A := Lib.hid (own_below HO5.out HBA.out)
        have HELA := Lib.hid (HEL.out.below HBA.out)
        have HZLA := Lib.hid (HZL.out.below HBA.out)
        have HWA : Hid (Below w.heap.size w WA) := Lib.hid (HB.out.trans (HBA.out.mono HB.out.size))
        have HRA : Hid (R < WA.heap.size) := Lib.hid HKA.out.lt
        clear hW n0 n1 n2 n3 n4 n5 n6 n7 n8 n9 n10 n11 HK HP HO4 HO5 HEL HZL HBA HWL HB hB7
        obtain ⟨k, hk⟩ : ∃ k, k = if s = 0 then 0 else xp % s := ⟨_, rfl⟩
        have k7 := HK7.out.c
        go_upto_if 42 with fail
        go_cut [8] (fun s8 wc => s8 = .int .i64 k ∧ wc = WA)
        case first =>
          as_aux_lemma =>
          by_cases hs0 : s = 0
          · have d0 : ¬ 0 < s := by omega
            have d1 : decide (0 < s) = false := decide_eq_false d0
            rw [if_pos hs0] at hk
            subst hk
            go_wp2_with fail
            go_meet
            case rel => exact ⟨rfl, rfl⟩
          · have d0 : 0 < s := by omega
            have d1 : decide (0 < s) = true := decide_eq_true d0
            have np0 : ((s : Int) == 0) = false := by simp; omega
            have np1 : (s : Int) ≠ 0 := by omega
            rw [if_neg hs0] at hk
            go_wp2_with fail
            go_meet
            case rel => exact ⟨by rw [hk]; congr 1, rfl⟩
        case rest =>
          obtain ⟨rfl, rfl⟩ := hcut
          have HKK := Lib.hid hk
          clear hk
          have h5 : xd % 5 = 0 ∨ xd % 5 = 1 ∨ xd % 5 = 2 ∨ xd % 5 = 3 ∨ xd % 5 = 4 := by omega
          rcases h5 with h5 | h5 | h5 | h5 | h5
          · as_aux_lemma =>
              have h5e : ((xd : Int) % 5) = 0 := by omega
              have h5t : Int.tmod (xd : Int) 5 = 0 := by rw [Int.tmod_eq_emod_of_nonneg (by omega)]; exact h5e
              clear h5 HD5
              obtain ⟨D, hD⟩ : ∃ D, D = sendP (mixS M Z) m := ⟨_, rfl⟩
              obtain ⟨E, hE⟩ : ∃ E, E = sendE (mixS M Z) m := ⟨_, rfl⟩
              obtain ⟨d, hd⟩ : ∃ d, d = D.length := ⟨_, rfl⟩
              have hc := send_any p s cp xs (mixS M Z) m wc (by rw [HKZ.out.mlen, HSL.out]) HPA.out HMN.out.1 HMN.out.2
              rw [HROW.out, ← hD, ← hE, ← hd] at hc
              have HD := Lib.hid hD
              have HEQ := Lib.hid hE
              have HDL := Lib.hid hd
              clear hD hE hd
              have kR := HKA.out.c
              have k7 := HK7.out.c
              go_wp2_with fail
              refine hc.mono ?_
              clear hc kR k7
              rintro e w2 ⟨q, cq, ys, rfl, ho⟩
              obtain ⟨W2, hW2⟩ : ∃ W, W = w2.alloc (.cells #[.slice q d cq] 24) := ⟨_, rfl⟩
              have HB2 : Hid (Below wc.heap.size wc W2) := Lib.hid (by rw [hW2]; exact ho.below.alloc ho.below.size _)
              have HQ2 : Hid (Pl W2 q ys D) := Lib.hid (by rw [hW2]; exact ho.pl.below ((Below.refl _ _).alloc (Nat.le_refl _) _))
              have HQO : Hid (Off (fun b => b < wc.heap.size) q ys D) := Lib.hid ho.off
              have HK9 : Hid (Blk W2 w2.heap.size #[.slice q d cq]) := Lib.hid (by rw [hW2]; exact Blk.new _ _ _)
              obtain ⟨B9, hB9⟩ : ∃ B, B = w2.heap.size := ⟨_, rfl⟩
              have HL9 : Hid (wc.heap.size ≤ B9) := Lib.hid (by rw [hB9]; exact ho.below.size)
              rw [← hB9] at HK9
              clear ho
              go_upto_region 24 with fail
              rw [← hW2]
              try rw [← hB9]
              clear hW2 hB9
              have HKR2 := Lib.hid (HKA.out.below HB2.out)
              have HK72 := Lib.hid (HK7.out.below HB2.out)
              have HO42 := Lib.hid (own_below HO4A.out HB2.out)
              have HO52 := Lib.hid (own_below HO5A.out HB2.out)
              have HW2 : Hid (Below w.heap.size w W2) := Lib.hid (HWA.out.trans (HB2.out.mono HWA.out.size))
              have HLT4 : Hid (∀ g, (Value.slice pv s cv).ownBlock = some g → R + 1 ≤ g ∧ g < wc.heap.size) := Lib.hid (fun g e => HO4A.out.lt g e)
              have HLT5 : Hid (∀ g, (Value.slice pz s cz).ownBlock = some g → R + 1 ≤ g ∧ g < wc.heap.size) := Lib.hid (fun g e => HO5A.out.lt g e)
              clear HKA HK7 HPA HO4A HO5A HELA HZLA HWA
              have hmay := rmay_any m W2
              rw [HROW.out] at hmay
              obtain ⟨mb, hmb⟩ : ∃ b, b = mayM m := ⟨_, rfl⟩
              rw [← hmb] at hmay
              have hmc : mayM m = mb := hmb.symm
              clear hmb
              by_cases h64 : s < 64
              · have d64 : decide (s < 64) = true := decide_eq_true h64
                have d64i : decide ((s : Int) < 64) = true := decide_eq_true (by omega)
                have k7 := HK72.out.c
                cases mb with
                | true =>
                  as_aux_lemma =>
                    have hgood : Good m := ⟨hmc, HMN.out.1, HMN.out.2⟩
                    have hks := keep_send_ok HKZ.out hgood (by rw [← HSL.out]; exact h64)
                    have hE0 : E = 0 := by rw [HEQ.out, hks.2]
                    have hDD : D = mixS (M ++ [m]) (Z ++ [zer]) := by rw [HD.out, hks.1]
                    have HKZ' : Hid (Kept2 (M ++ [m]) (Z ++ [zer])) := Lib.hid (HKZ.out.snoc hgood Zed.zer (by rw [← HSL.out]; exact h64))
                    have hd1 : d = s + 1 := by rw [HDL.out, hDD, HKZ'.out.mlen, List.length_append, ← HSL.out]; rfl
                    subst hE0 hd1
                    have HDD := Lib.hid hDD
                    clear hks hDD HEQ HD HDL
                    go_wp2_with fail
                    refine hmay.mono ?_
                    clear hmay
                    rintro e w3 ⟨rfl, hb3⟩
                    obtain ⟨X1, hX1⟩ : ∃ W, W = w3.alloc (.cells #[.int .i64 rmk, .int .i64 rmf, .int .i64 rmt, .int .i64 rml, .int .i64 rmo, .int .i64 rma, .bool rmown, .int .u32 rmn, .int .u32 rmv] 27) := ⟨_, rfl⟩
                    have HX1 : Hid (Below W2.heap.size W2 X1) := Lib.hid (by rw [hX1]; exact hb3.alloc hb3.size _)
                    have HNB : Hid (Blk X1 w3.heap.size #[.int .i64 rmk, .int .i64 rmf, .int .i64 rmt, .int .i64 rml, .int .i64 rmo, .int .i64 rma, .bool rmown, .int .u32 rmn, .int .u32 rmv]) := Lib.hid (by rw [hX1]; exact Blk.new _ _ _)
                    have HO41 := Lib.hid (own_below HO42.out HX1.out)
                    have HO51 := Lib.hid (own_below HO52.out HX1.out)
                    have HQ1 := Lib.hid (HQ2.out.below HX1.out)
                    have HKR1 := Lib.hid (HKR2.out.below HX1.out)
                    have HK91 := Lib.hid (HK9.out.below HX1.out)
                    have HS2 : Hid (wc.heap.size ≤ W2.heap.size) := Lib.hid HB2.out.size
                    have HWX1 : Hid (Below w.heap.size w X1) := Lib.hid (HW2.out.trans (HX1.out.mono HW2.out.size))
                    have k7 := (HK72.out.below hb3).c
                    clear hb3 HK72
                    have HWB1 : Hid (Below wc.heap.size wc (w3.alloc (.cells #[.int .i64 rmk, .int .i64 rmf, .int .i64 rmt, .int .i64 rml, .int .i64 rmo, .int .i64 rma, .bool rmown, .int .u32 rmn, .int .u32 rmv] 27))) := Lib.hid (by rw [← hX1]; exact HB2.out.trans (HX1.out.mono HB2.out.size))
                    rw [hX1] at HO41 HNB
                    go_wp2_with (first | (refine wpList_build48 _ _ _ _ _ _ _ _ _ rfl ?_; simp only [Act.put, List.setIfInBounds_toArray, List.set_cons_zero, List.set_cons_succ]) | (at_builtin; refine wpList_append_sl rfl _ _ 48 rfl (R + 1) 27 i0 (.agg #[.int .i64 0, .int .i64 0, .int .i64 0, .int .i64 0, .int .i64 0, .int .i64 0, .bool false, .int .u32 0, .int .u32 0]) 9 64 Try.underlying48 HI0.out.1 HI0.out.2.1 HI0.out.2.2.1 HI0.out.2.2.2 rfl (by decide) _ _ _ rfl HO41.out (some ⟨w3.heap.size, 0, none⟩) 1 1 [.int .i64 rmk, .int .i64 rmf, .int .i64 rmt, .int .i64 rml, .int .i64 rmo, .int .i64 rma, .bool rmown, .int .u32 rmn, .int .u32 rmv] rfl rfl (blk_sl HNB.out) (by intro u hu; simp only [List.mem_cons, List.not_mem_nil, or_false] at hu; rcases hu with rfl | rfl | rfl | rfl | rfl | rfl | rfl | rfl | rfl <;> rfl) (by unfold maxLen; omega) (by omega) (by have := HRA.out; have := HWB1.out.size; omega) ?_))
                    intro v4 X2 g1 g2 g3
                    try rw [← hX1] at g2
                    try rw [← hX1] at g3
                    have HO4b : Hid (X2.ownsRow (R + 1) 27 9 v4 (s + 1) (rowsM (M ++ [m]))) := Lib.hid (by rw [rowsM_app, HROW.out]; exact g1)
                    have HO5b := Lib.hid (own_keep HO51.out (by rw [← hX1] at HO41; exact HO41.out) (by decide) g2)
                    have HQb := Lib.hid (HQ1.out.grown g2 (HQO.out.sub (fun b e => (HLT4.out b e).2)))
                    have HKRb := Lib.hid (HKR1.out.grown g2 (fun e => by have := (HLT4.out _ e).1; omega))
                    have HK9b := Lib.hid (HK91.out.grown g2 (fun e => by have := (HLT4.out _ e).2; have := HL9.out; omega))
                    have HWb := Lib.hid (HWX1.out.grown g2 HWX1.out.size (fun g e => by have := (HLT4.out g e).1; have := HS1.out; omega))
                    have HWCb : Hid (wc.heap.size ≤ X2.heap.size) := Lib.hid (Nat.le_trans HWB1.out.size (by rw [← hX1]; exact g2.size))
                    clear g1 g2 g3 hX1 HNB HO41 HO51 HQ1 HKR1 HK91 HWX1 HX1 HO42 HO52 HQ2 HKR2 HK9 k7 HWB1
                    obtain ⟨X3, hX3⟩ : ∃ W, W = X2.alloc (.cells #[.int .u8 0, .int .u8 0, .int .u8 0, .int .u8 0, .int .u8 0, .int .u8 0, .int .u8 0, .int .u8 0, .int .u8 0, .int .u8 0, .int .u8 0, .int .u8 0, .int .u8 0, .int .u8 0, .int .u8 0, .int .u8 0, .int .u8 0, .int .u8 0, .int .u8 0] 53) := ⟨_, rfl⟩
                    have HX3 : Hid (Below X2.heap.size X2 X3) := Lib.hid (by rw [hX3]; exact (Below.refl _ _).alloc (Nat.le_refl _) _)
                    have HNB : Hid (Blk X3 X2.heap.size #[.int .u8 0, .int .u8 0, .int .u8 0, .int .u8 0, .int .u8 0, .int .u8 0, .int .u8 0, .int .u8 0, .int .u8 0, .int .u8 0, .int .u8 0, .int .u8 0, .int .u8 0, .int .u8 0, .int .u8 0, .int .u8 0, .int .u8 0, .int .u8 0, .int .u8 0]) := Lib.hid (by rw [hX3]; exact Blk.new _ _ _)
                    have HO4c := Lib.hid (own_below HO4b.out HX3.out)
                    have HO5c := Lib.hid (own_below HO5b.out HX3.out)
                    have HQc := Lib.hid (HQb.out.below HX3.out)
                    have HKRc := Lib.hid (HKRb.out.below HX3.out)
                    have HK9c := Lib.hid (HK9b.out.below HX3.out)
                    have HWc : Hid (Below w.heap.size w X3) := Lib.hid (HWb.out.trans (HX3.out.mono HWb.out.size))
                    have HSX : Hid (R + 1 ≤ X2.heap.size) := Lib.hid (by have := HRA.out; have := HWCb.out; omega)
                    have HO5d : Hid ((X2.alloc (.cells #[.int .u8 0, .int .u8 0, .int .u8 0, .int .u8 0, .int .u8 0, .int .u8 0, .int .u8 0, .int .u8 0, .int .u8 0, .int .u8 0, .int .u8 0, .int .u8 0, .int .u8 0, .int .u8 0, .int .u8 0, .int .u8 0, .int .u8 0, .int .u8 0, .int .u8 0] 53)).ownsRow (R + 1) 53 19 (.slice pz s cz) s (rowsZ Z)) := Lib.hid (by rw [← hX3]; exact HO5c.out)
                    have HNBd : Hid (Blk (X2.alloc (.cells #[.int .u8 0, .int .u8 0, .int .u8 0, .int .u8 0, .int .u8 0, .int .u8 0, .int .u8 0, .int .u8 0, .int .u8 0, .int .u8 0, .int .u8 0, .int .u8 0, .int .u8 0, .int .u8 0, .int .u8 0, .int .u8 0, .int .u8 0, .int .u8 0, .int .u8 0] 53)) X2.heap.size #[.int .u8 0, .int .u8 0, .int .u8 0, .int .u8 0, .int .u8 0, .int .u8 0, .int .u8 0, .int .u8 0, .int .u8 0, .int .u8 0, .int .u8 0, .int .u8 0, .int .u8 0, .int .u8 0, .int .u8 0, .int .u8 0, .int .u8 0, .int .u8 0, .int .u8 0]) := Lib.hid (by rw [← hX3]; exact HNB.out)
                    go_wp2_with (first | (refine wpList_build49 _ _ _ _ _ _ _ _ _ _ _ _ _ _ _ _ _ _ _ rfl ?_; simp only [Act.put, List.setIfInBounds_toArray, List.set_cons_zero, List.set_cons_succ]) | (at_builtin; refine wpList_append_sl rfl _ _ 49 rfl (R + 1) 53 i3 (.agg #[.int .u8 0, .int .u8 0, .int .u8 0, .int .u8 0, .int .u8 0, .int .u8 0, .int .u8 0, .int .u8 0, .int .u8 0, .int .u8 0, .int .u8 0, .int .u8 0, .int .u8 0, .int .u8 0, .int .u8 0, .int .u8 0, .int .u8 0, .int .u8 0, .int .u8 0]) 19 19 Try.underlying49 HI3.out.1 HI3.out.2.1 HI3.out.2.2.1 HI3.out.2.2.2 rfl (by decide) _ _ _ rfl HO5d.out (some ⟨X2.heap.size, 0, none⟩) 1 1 [.int .u8 0, .int .u8 0, .int .u8 0, .int .u8 0, .int .u8 0, .int .u8 0, .int .u8 0, .int .u8 0, .int .u8 0, .int .u8 0, .int .u8 0, .int .u8 0, .int .u8 0, .int .u8 0, .int .u8 0, .int .u8 0, .int .u8 0, .int .u8 0, .int .u8 0] rfl rfl (blk_sl HNBd.out) (by intro u hu; simp only [List.mem_cons, List.not_mem_nil, or_false] at hu; rcases hu with rfl | rfl | rfl | rfl | rfl | rfl | rfl | rfl | rfl | rfl | rfl | rfl | rfl | rfl | rfl | rfl | rfl | rfl | rfl <;> rfl) (by unfold maxLen; omega) (by omega) (by rw [World.size_alloc]; have := HSX.out; omega) ?_))
                    intro v5 X4 g1 g2 g3
                    try rw [← hX3] at g2
                    try rw [← hX3] at g3
                    have HO5e : Hid (X4.ownsRow (R + 1) 53 19 v5 (s + 1) (rowsZ (Z ++ [zer]))) := Lib.hid (by rw [rowsZ_app]; exact g1)
                    have HO4e := Lib.hid (own_keep HO4c.out HO5c.out (by decide) g2)
                    have HQe := Lib.hid (HQc.out.grown g2 (HQO.out.sub (fun b e => (HLT5.out b e).2)))
                    have HKRe := Lib.hid (HKRc.out.grown g2 (fun e => by have := (HLT5.out _ e).1; omega))
                    have HK9e := Lib.hid (HK9c.out.grown g2 (fun e => by have := (HLT5.out _ e).2; have := HL9.out; omega))
                    have HWe := Lib.hid (HWc.out.grown g2 HWc.out.size (fun g e => by have := (HLT5.out g e).1; have := HS1.out; omega))
                    clear g1 g2 g3 hX3 HNB HO4b HO5b HQb HKRb HK9b HWb HO4c HO5c HQc HKRc HK9c HWc HX3 HO5d HNBd
                    have kR := HKRe.out.c
                    have fR := HKRe.out.f
                    have lR := HKRe.out.lt
                    have k9 := HK9e.out.c
                    go_upto_region 58 with fail
                    have HKRf := Lib.hid (HKRe.out.set (n := 0) (.slice q (s + 1) cq) (by simp))
                    have HO4f := Lib.hid (own_off HO4e.out (Nat.lt_succ_self R) 0 (.slice q (s + 1) cq))
                    have HO5f := Lib.hid (own_off HO5e.out (Nat.lt_succ_self R) 0 (.slice q (s + 1) cq))
                    have HQf : Hid (Pl (X4.setCell ⟨R, 0, none⟩ (.slice q (s + 1) cq)) q ys (mixS (M ++ [m]) (Z ++ [zer]))) := Lib.hid (by rw [← HDD.out]; exact HQe.out.set (R := R) (HQO.out.sub (fun b e => by have := HRA.out; omega)) 0 (.slice q (s + 1) cq))
                    have HWf := Lib.hid (HWe.out.setCell (p := ⟨R, 0, none⟩) (by show w.heap.size ≤ R; exact HS1.out) (.slice q (s + 1) cq))
                    obtain ⟨V, hV⟩ : ∃ V, V = X4.setCell ⟨R, 0, none⟩ (.slice q (s + 1) cq) := ⟨_, rfl⟩
                    rw [← hV] at HKRf HO4f HO5f HQf HWf ⊢
                    have HLN : Hid (s + 1 = (M ++ [m]).length) := Lib.hid (by rw [List.length_append, ← HSL.out]; rfl)
                    obtain ⟨p4, c4, rfl, _⟩ := own_cap HO4f.out
                    clear hV HO4e HO5e HQe HKRe HK9e HWe kR fR lR k9
                    have kR := HKRf.out.c
                    have hc := pright_any q (s + 1) cq ys (mixS (M ++ [m]) (Z ++ [zer])) V (by rw [HKZ'.out.mlen, ← HLN.out]) HQf.out
                    rw [HKZ'.out.right] at hc
                    go_wp2_with fail
                    refine hc.mono ?_
                    clear hc kR
                    rintro e v ⟨rfl, hb⟩
                    have HTB := Lib.hid hb
                    clear hb
                    go_wp2_with fail
                    go_roundw
                    case rel =>
                      refine ⟨j + 1, by omega, by go_num, ⟨(M ++ [m]), (Z ++ [zer]), q, cq, ys, HKZ'.out, ?_⟩, HWf.out.trans (HTB.out.mono HWf.out.size)⟩
                      rw [← HLN.out]
                      exact ⟨HKRf.out.below HTB.out, HQf.out.below HTB.out, own_below HO4f.out HTB.out, own_below HO5f.out HTB.out⟩
                    case measure => simp [intOf]; omega
                | false =>
                  as_aux_lemma =>
                    have hks := keep_send_no HKZ.out (m := m) (.inl hmc)
                    have hE1 : E = 1 ∨ E = 6 := by rw [HEQ.out]; exact hks.2
                    have hDD : D = mixS M Z := by rw [HD.out, hks.1]
                    have hd1 : d = s := by rw [HDL.out, hDD, HKZ.out.mlen, ← HSL.out]
                    subst hd1
                    have HDD := Lib.hid hDD
                    have hE0 : (E == 0) = false := by rcases hE1 with h | h <;> rw [h] <;> rfl
                    clear hks hDD HEQ HD HDL hE1
                    go_wp2_with fail
                    refine hmay.mono ?_
                    clear hmay
                    rintro e w3 ⟨rfl, hb3⟩
                    have HKR3 := Lib.hid (HKR2.out.below hb3)
                    have HK93 := Lib.hid (HK9.out.below hb3)
                    have HO43 := Lib.hid (own_below HO42.out hb3)
                    have HO53 := Lib.hid (own_below HO52.out hb3)
                    have HQ3 := Lib.hid (HQ2.out.below hb3)
                    have HW3 : Hid (Below w.heap.size w w3) := Lib.hid (HW2.out.trans (hb3.mono HW2.out.size))
                    clear hb3 k7 HKR2 HK9 HO42 HO52 HQ2 HW2 HK72
                    have kR := HKR3.out.c
                    have fR := HKR3.out.f
                    have lR := HKR3.out.lt
                    have k9 := HK93.out.c
                    go_upto_region 58 with fail
                    have HKRf := Lib.hid (HKR3.out.set (n := 0) (.slice q d cq) (by simp))
                    have HO4f := Lib.hid (own_off HO43.out (Nat.lt_succ_self R) 0 (.slice q d cq))
                    have HO5f := Lib.hid (own_off HO53.out (Nat.lt_succ_self R) 0 (.slice q d cq))
                    have HQf : Hid (Pl (w3.setCell ⟨R, 0, none⟩ (.slice q d cq)) q ys (mixS M Z)) := Lib.hid (by rw [← HDD.out]; exact HQ3.out.set (R := R) (HQO.out.sub (fun b e => by have := HRA.out; omega)) 0 (.slice q d cq))
                    have HWf := Lib.hid (HW3.out.setCell (p := ⟨R, 0, none⟩) (by show w.heap.size ≤ R; exact HS1.out) (.slice q d cq))
                    obtain ⟨V, hV⟩ : ∃ V, V = w3.setCell ⟨R, 0, none⟩ (.slice q d cq) := ⟨_, rfl⟩
                    rw [← hV] at HKRf HO4f HO5f HQf HWf ⊢
                    clear hV kR fR lR k9
                    have kR := HKRf.out.c
                    have hc := pright_any q (d) cq ys (mixS M Z) V (by rw [HKZ.out.mlen, ← HSL.out]) HQf.out
                    rw [HKZ.out.right] at hc
                    go_wp2_with fail
                    refine hc.mono ?_
                    clear hc kR
                    rintro e v ⟨rfl, hb⟩
                    have HTB := Lib.hid hb
                    clear hb
                    go_wp2_with fail
                    go_roundw
                    case rel =>
                      refine ⟨j + 1, by omega, by go_num, ⟨M, Z, q, cq, ys, HKZ.out, ?_⟩, HWf.out.trans (HTB.out.mono HWf.out.size)⟩
                      rw [← HSL.out]
                      exact ⟨HKRf.out.below HTB.out, HQf.out.below HTB.out, own_below HO4f.out HTB.out, own_below HO5f.out HTB.out⟩
                    case measure => simp [intOf]; omega
              · as_aux_lemma =>
                  have hs64e : Hid (s = 64) := Lib.hid (by omega)
                  have d64 : decide (s < 64) = false := decide_eq_false h64
                  have d64i : decide ((s : Int) < 64) = false := decide_eq_false (by omega)
                  clear hmay
                  have hks := keep_send_no HKZ.out (m := m) (.inr (by rw [← HSL.out]; exact hs64e.out))
                  have hE1 : E = 1 ∨ E = 6 := by rw [HEQ.out]; exact hks.2
                  have hDD : D = mixS M Z := by rw [HD.out, hks.1]
                  have hd1 : d = s := by rw [HDL.out, hDD, HKZ.out.mlen, ← HSL.out]
                  subst hd1
                  have HDD := Lib.hid hDD
                  have hE0 : (E == 0) = false := by rcases hE1 with h | h <;> rw [h] <;> rfl
                  clear hks hDD HEQ HD HDL hE1
                  have kR := HKR2.out.c
                  have fR := HKR2.out.f
                  have lR := HKR2.out.lt
                  have k9 := HK9.out.c
                  go_upto_region 58 with fail
                  have HKRf := Lib.hid (HKR2.out.set (n := 0) (.slice q d cq) (by simp))
                  have HO4f := Lib.hid (own_off HO42.out (Nat.lt_succ_self R) 0 (.slice q d cq))
                  have HO5f := Lib.hid (own_off HO52.out (Nat.lt_succ_self R) 0 (.slice q d cq))
                  have HQf : Hid (Pl (W2.setCell ⟨R, 0, none⟩ (.slice q d cq)) q ys (mixS M Z)) := Lib.hid (by rw [← HDD.out]; exact HQ2.out.set (R := R) (HQO.out.sub (fun b e => by have := HRA.out; omega)) 0 (.slice q d cq))
                  have HWf := Lib.hid (HW2.out.setCell (p := ⟨R, 0, none⟩) (by show w.heap.size ≤ R; exact HS1.out) (.slice q d cq))
                  obtain ⟨V, hV⟩ : ∃ V, V = W2.setCell ⟨R, 0, none⟩ (.slice q d cq) := ⟨_, rfl⟩
                  rw [← hV] at HKRf HO4f HO5f HQf HWf ⊢
                  clear hV kR fR lR k9
                  have kR := HKRf.out.c
                  have hc := pright_any q (d) cq ys (mixS M Z) V (by rw [HKZ.out.mlen, ← HSL.out]) HQf.out
                  rw [HKZ.out.right] at hc
                  go_wp2_with fail
                  refine hc.mono ?_
                  clear hc kR
                  rintro e v ⟨rfl, hb⟩
                  have HTB := Lib.hid hb
                  clear hb
                  go_wp2_with fail
                  go_roundw
                  case rel =>
                    refine ⟨j + 1, by omega, by go_num, ⟨M, Z, q, cq, ys, HKZ.out, ?_⟩, HWf.out.trans (HTB.out.mono HWf.out.size)⟩
                    rw [← HSL.out]
                    exact ⟨HKRf.out.below HTB.out, HQf.out.below HTB.out, own_below HO4f.out HTB.out, own_below HO5f.out HTB.out⟩
                  case measure => simp [intOf]; omega
          · as_aux_lemma =>
              have h5e : ((xd : Int) % 5) = 1 := by omega
              have h5t : Int.tmod (xd : Int) 5 = 1 := by rw [Int.tmod_eq_emod_of_nonneg (by omega)]; exact h5e
              clear h5 HD5
              go_upto_block 2 with fail
              go_cut [4, 5] (fun s4 s5 wd => ∃ M' Z' q cq ys d, Kept2 M' Z' ∧ d = M'.length ∧ wd.ownsRow (R + 1) 27 9 s4 d (rowsM M') ∧ wd.ownsRow (R + 1) 53 19 s5 d (rowsZ Z') ∧ Blk wd R #[.slice q d cq] ∧ Pl wd q ys (mixS M' Z') ∧ Below w.heap.size w wd)
              case first =>
                as_aux_lemma =>
                  obtain ⟨D, hD⟩ : ∃ D, D = dropP (mixS M Z) (k : Int) := ⟨_, rfl⟩
                  obtain ⟨E, hE⟩ : ∃ E, E = takeE (mixS M Z) (k : Int) := ⟨_, rfl⟩
                  obtain ⟨TM, hTM⟩ : ∃ m, m = takeM (mixS M Z) (k : Int) := ⟨_, rfl⟩
                  obtain ⟨d, hd⟩ : ∃ d, d = D.length := ⟨_, rfl⟩
                  have hc := take_any p s cp xs (mixS M Z) (k : Int) wc (by rw [HKZ.out.mlen, HSL.out]) HPA.out
                  obtain ⟨trk, trf, trt, trl, tro, tra, trown, trn, trv, htm⟩ := msg_parts TM
                  rw [← hD, ← hE, ← hd, ← hTM, htm] at hc
                  have HD := Lib.hid hD
                  have HEQ := Lib.hid hE
                  have HDL := Lib.hid hd
                  have HTM := Lib.hid hTM
                  have HTR := Lib.hid htm
                  clear hD hE hd hTM htm
                  have kR := HKA.out.c
                  have k7 := HK7.out.c
                  go_upto_region 30 with fail
                  go_wp2_with fail
                  refine hc.mono ?_
                  clear hc kR k7 h5e h5t
                  rintro e w2 ⟨q, cq, ys, rfl, ho⟩
                  go_upto_region 31 with fail
                  obtain ⟨X0, hX⟩ : ∃ X, X = (w2.alloc (.cells #[.slice q d cq] 24)).alloc (.cells #[.int .i64 trk, .int .i64 trf, .int .i64 trt, .int .i64 trl, .int .i64 tro, .int .i64 tra, .bool trown, .int .u32 trn, .int .u32 trv] 27) := ⟨_, rfl⟩
                  have hbX : Below w2.heap.size w2 X0 := by rw [hX]; exact ((Below.refl _ _).alloc (Nat.le_refl _) _).alloc (by simp) _
                  have HB2 : Hid (Below wc.heap.size wc X0) := Lib.hid (ho.below.trans (hbX.mono ho.below.size))
                  have HQX : Hid (Pl X0 q ys D) := Lib.hid (ho.pl.below hbX)
                  have HQO : Hid (Off (fun b => b < wc.heap.size) q ys D) := Lib.hid ho.off
                  have HKX : Hid (Blk X0 w2.heap.size #[.slice q d cq]) := Lib.hid (by rw [hX]; exact (Blk.new _ _ _).alloc _)
                  have HTX : Hid (Blk X0 (w2.heap.size + 1) #[.int .i64 trk, .int .i64 trf, .int .i64 trt, .int .i64 trl, .int .i64 tro, .int .i64 tra, .bool trown, .int .u32 trn, .int .u32 trv]) := Lib.hid (by
                    rw [hX]
                    have := Blk.new (w2.alloc (.cells #[.slice q d cq] 24)) #[.int .i64 trk, .int .i64 trf, .int .i64 trt, .int .i64 trl, .int .i64 tro, .int .i64 tra, .bool trown, .int .u32 trn, .int .u32 trv] 27
                    rw [size_new] at this
                    exact this)
                  rw [← hX]
                  clear hX hbX ho
                  have HKRX := Lib.hid (HKA.out.below HB2.out)
                  have HPX := Lib.hid (HPA.out.below HB2.out)
                  have HO4X := Lib.hid (own_below HO4A.out HB2.out)
                  have HO5X := Lib.hid (own_below HO5A.out HB2.out)
                  have HELX := Lib.hid (HELA.out.below HB2.out)
                  have HZLX := Lib.hid (HZLA.out.below HB2.out)
                  have HWX : Hid (Below w.heap.size w X0) := Lib.hid (HWA.out.trans (HB2.out.mono HWA.out.size))
                  clear HKA HK7 HPA HO4A HO5A HELA HZLA HWA HB2
                  by_cases hs0 : s = 0
                  · as_aux_lemma =>
                      have d0 : ((s : Int) == 0) = true := by simp; omega
                      have hE7 : E = 7 := by
                        rw [HEQ.out]
                        unfold takeE
                        rw [keep_none HKZ.out (by rw [← HSL.out]; exact hs0)]
                        rfl
                      subst hE7
                      have HS0 := Lib.hid hs0
                      have hs0' : (s : Int) = 0 := by omega
                      clear hs0 HEQ HD HDL
                      go_wp2_with fail
                      go_roundw
                      case rel =>
                        refine ⟨j + 1, by omega, by go_num, ⟨M, Z, p, cp, xs, HKZ.out, ?_⟩, HWX.out⟩
                        rw [← HSL.out]
                        exact ⟨HKRX.out, HPX.out, HO4X.out, HO5X.out⟩
                      case measure => simp [intOf]; omega
                  · as_aux_lemma =>
                      have d0 : 0 < s := by omega
                      have d1 : ((s : Int) == 0) = false := by simp; omega
                      have d2 : ¬ (s : Int) = 0 := by omega
                      have hkk : k < s := by
                        have := HKK.out
                        rw [if_neg hs0] at this
                        rw [this]
                        exact Nat.mod_lt _ d0
                      have hkM : k < M.length := by rw [← HSL.out]; exact hkk
                      obtain ⟨z, hz⟩ : ∃ z, z = Z.getD k [] := ⟨_, rfl⟩
                      have hzed : Zed z := by rw [hz]; exact HKZ.out.gz k hkM
                      have HZ := Lib.hid hz
                      have HZED := Lib.hid hzed
                      obtain ⟨gB, e5, _, _, _, _⟩ := own_go HO5X.out d0
                      subst e5
                      have HZC : Hid (∀ K, K < 19 → X0.cell? ⟨gB, k * 19 + K, none⟩ = some (.int .u8 (z.getD K 0 : Nat))) := Lib.hid (fun K hK => by
                        rw [HO5X.out.cellAt (k * 19 + K) (by omega), rowsZ_at HKZ.out.zed k K (by rw [HKZ.out.len]; exact hkM) hK, hz])
                      have hkI : (0 : Int) ≤ (k : Int) := by omega
                      have hkI2 : (k : Int) < (s : Int) := by omega
                      clear hs0 hz hzed
                      obtain ⟨WR, hWR⟩ : ∃ W, W = wr := ⟨_, rfl⟩
                      subst hWR
                      go_upto_block 3 with fail
                      go_cut [14] (fun s14 wd => s14 = .int .i64 ((bitsZ z 19 : Nat) : Int) ∧ X0 = wd)
                      case first =>
                        as_aux_lemma =>
                          go_wp2_with fail
                          go_loopw [14, 15] (fun s14 s15 wr => ∃ K : Nat, K ≤ 19 ∧ s15 = .int .i64 K ∧ s14 = .int .i64 ((bitsZ z K : Nat) : Int) ∧ X0 = wr) (fun _ s15 _ => 19 - (intOf s15).toNat)
                          case atStart => exact ⟨0, by omega, rfl, rfl, rfl⟩
                          case round =>
                            obtain ⟨K, hK, rfl, rfl, rfl⟩ := hrel
                            by_cases hlt : K < 19
                            · have hltI : decide ((K : Int) < 19) = true := decide_eq_true (by omega)
                              have hKI : (0 : Int) ≤ (K : Int) := by omega
                              have hKI2 : (K : Int) < 19 := by omega
                              have hzk := HZC.out K hlt
                              obtain ⟨y, hy⟩ : ∃ y, y = z.getD K 0 := ⟨_, rfl⟩
                              rw [← hy] at hzk
                              have hy256 : y < 256 := by rw [hy]; exact HZED.out.at_lt K
                              obtain ⟨T, hT⟩ : ∃ T, T = bitsZ z K := ⟨_, rfl⟩
                              have hTle : T ≤ 8 * K := by rw [hT]; exact bitsZ_le z K
                              rw [← hT]
                              have HY := Lib.hid hy
                              have HT := Lib.hid hT
                              clear hy hT
                              go_wp2_with fail
                              go_loopw [14, 16] (fun s14 s16 wr => ∃ b : Nat, b ≤ 8 ∧ s16 = .int .i64 b ∧ s14 = .int .i64 ((T + bitsN y b : Nat) : Int) ∧ X0 = wr) (fun _ s16 _ => 8 - (intOf s16).toNat)
                              case atStart => exact ⟨0, by omega, rfl, rfl, rfl⟩
                              case round =>
                                obtain ⟨b, hb, rfl, rfl, rfl⟩ := hrel
                                by_cases hbl : b < 8
                                · have hbI : decide ((b : Int) < 8) = true := decide_eq_true (by omega)
                                  have wb : IntKind.u64.wrap (b : Int) = (b : Int) := by simp [IntKind.wrap, IntKind.bits, IntKind.signed]; omega
                                  obtain ⟨u, hu⟩ : ∃ u, u = y / 2 ^ b := ⟨_, rfl⟩
                                  have hu256 : u < 256 := by rw [hu]; exact Nat.lt_of_le_of_lt (Nat.div_le_self _ _) hy256
                                  obtain ⟨U, hU⟩ : ∃ U, U = T + bitsN y b := ⟨_, rfl⟩
                                  have hUle : U ≤ 8 * K + 8 := by have := bitsN_le y b; omega
                                  rw [← hU]
                                  have HUQ : Hid (y / 2 ^ b = u) := Lib.hid hu.symm
                                  have HU := Lib.hid hU
                                  have hbs : bitsN y (b + 1) = bitsN y b + (if u % 2 = 1 then 1 else 0) := by rw [hu]; rfl
                                  clear hu hU
                                  by_cases hbit : u % 2 = 1
                                  · have HBN : Hid (bitsN y (b + 1) = bitsN y b + 1) := Lib.hid (by rw [hbs, if_pos hbit])
                                    have HUT := Lib.hid hbit
                                    clear hbs hbit
                                    go_wp2_with (first | (refine wpList_shr2 u y b HUQ.out hy256 hbl rfl rfl ?_; simp only [Act.put, List.setIfInBounds_toArray, List.set_cons_zero, List.set_cons_succ]) | (refine wpList_and2 1 u HUT.out hu256 rfl rfl ?_; simp only [Act.put, List.setIfInBounds_toArray, List.set_cons_zero, List.set_cons_succ]))
                                    go_roundw
                                    case rel => exact ⟨b + 1, by omega, by go_num, by rw [HBN.out, HU.out]; go_num, trivial⟩
                                    case measure => simp [intOf]; omega
                                  · have HBN : Hid (bitsN y (b + 1) = bitsN y b) := Lib.hid (by rw [hbs, if_neg hbit]; rfl)
                                    have HUT : Hid (u % 2 = 0) := Lib.hid (by omega)
                                    clear hbs hbit
                                    go_wp2_with (first | (refine wpList_shr2 u y b HUQ.out hy256 hbl rfl rfl ?_; simp only [Act.put, List.setIfInBounds_toArray, List.set_cons_zero, List.set_cons_succ]) | (refine wpList_and2 0 u HUT.out hu256 rfl rfl ?_; simp only [Act.put, List.setIfInBounds_toArray, List.set_cons_zero, List.set_cons_succ]))
                                    go_roundw
                                    case rel => exact ⟨b + 1, by omega, by go_num, by rw [HBN.out, HU.out], trivial⟩
                                    case measure => simp [intOf]; omega
                                · have hbI : decide ((b : Int) < 8) = false := decide_eq_false (by omega)
                                  have hb8 : b = 8 := by omega
                                  subst hb8
                                  go_wp2_with fail
                                  go_roundw
                                  case rel => exact ⟨K + 1, by omega, by go_num, by rw [HT.out, HY.out]; rfl, trivial⟩
                                  case measure => simp [intOf]; omega
                            · have hltI : decide ((K : Int) < 19) = false := decide_eq_false (by omega)
                              have hK19 : K = 19 := by omega
                              subst hK19
                              go_wp2_with fail
                              go_meet
                              case rel => exact ⟨rfl, rfl⟩
                      case rest =>
                        as_aux_lemma =>
                          obtain ⟨rfl, rfl⟩ := hcut
                          obtain ⟨C, hC⟩ : ∃ C, C = bitsZ z 19 := ⟨_, rfl⟩
                          rw [← hC]
                          have HC := Lib.hid hC
                          clear hC HZC
                          obtain ⟨gA, e4, _, _, _, _⟩ := own_go HO4X.out d0
                          subst e4
                          have hnk : ∀ j, j < 9 → X0.cell? ⟨gA, k * 9 + j, none⟩ = (M.getD k m0).row[j]? := fun j hj => by
                            rw [HO4X.out.cellAt (k * 9 + j) (by omega), rowsM_at M k j hkM hj]
                          obtain ⟨ek, ef, et, el, eo, ea, eown, en, ev, hem⟩ := msg_parts (M.getD k m0)
                          rw [hem] at hnk
                          have HRM0 : Hid (X0.rangeAt gA (k * 9) [.int .i64 ek, .int .i64 ef, .int .i64 et, .int .i64 el, .int .i64 eo, .int .i64 ea, .bool eown, .int .u32 en, .int .u32 ev]) := Lib.hid (fun j v hv => by rw [hnk j (List.getElem?_eq_some_iff.1 hv).1]; simpa using hv)
                          have HEM := Lib.hid hem
                          clear hnk hem
                          go_upto_region 43 with fail
                          go_cut [181] (fun s181 wd => s181 = .bool false ∧ X0.drew = wd)
                          case first =>
                            as_aux_lemma =>
                              by_cases hc0 : C = 0
                              · obtain ⟨hE0, htr⟩ := take0_pack HKZ.out hkM HZ.out HC.out hc0 HEQ.out HTM.out HTR.out HEM.out
                                have HTX' := HTX.out
                                rw [htr] at HTX'
                                have hRT : X0.drew.rangeAt (w2.heap.size + 1) 0 [.int .i64 ek, .int .i64 ef, .int .i64 et, .int .i64 el, .int .i64 eo, .int .i64 ea, .bool eown, .int .u32 en, .int .u32 ev] := range_blk HTX'.drew rfl
                                have hRM : X0.drew.rangeAt gA (k * 9) [.int .i64 ek, .int .i64 ef, .int .i64 et, .int .i64 el, .int .i64 eo, .int .i64 ea, .bool eown, .int .u32 en, .int .u32 ev] := HRM0.out
                                obtain ⟨h00, h01, h02⟩ := take0_nums hE0 hc0
                                clear hc0 hE0 htr HTX'
                                refine region_plan (fun w' : World => w' = X0.drew) 21 [(0, true), (1, true), (2, true), (3, true), (4, true), (5, true), (6, true), (7, true), (8, true), (9, true), (10, true), (11, true), (12, true), (13, true), (14, true), (15, true), (16, true), (17, true), (18, true), (19, true), (20, true)] (by kernel_rfl) (by kernel_rfl) rfl ?_
                                iterate 6
                                  refine plan_read (v := ?_) rfl (by rfl) ?_ ?_
                                  rotate_left
                                  · intro w' hS
                                    try dsimp only at hS
                                    subst hS
                                    go_simp
                                    try with_reducible rfl
                                  try simp only [Act.put, List.setIfInBounds_toArray, List.set_cons_zero, List.set_cons_succ, List.getElem_toArray, List.getElem_cons_zero, List.getElem_cons_succ]
                                refine plan_read (v := .agg #[.int .i64 ek, .int .i64 ef, .int .i64 et, .int .i64 el, .int .i64 eo, .int .i64 ea, .bool eown, .int .u32 en, .int .u32 ev]) rfl (by rfl) (fun w' hS => by rw [hS]; exact load_run _ _ _ _ _ _ _ _ _ (w2.heap.size + 1) 0 [.int .i64 ek, .int .i64 ef, .int .i64 et, .int .i64 el, .int .i64 eo, .int .i64 ea, .bool eown, .int .u32 en, .int .u32 ev] _ rfl hRT Try.underlying27 rfl size27) ?_
                                try simp only [Act.put, List.setIfInBounds_toArray, List.set_cons_zero, List.set_cons_succ, List.getElem_toArray, List.getElem_cons_zero, List.getElem_cons_succ]
                                iterate 3
                                  refine plan_read (v := ?_) rfl (by rfl) ?_ ?_
                                  rotate_left
                                  · intro w' hS
                                    try dsimp only at hS
                                    subst hS
                                    go_simp
                                    try with_reducible rfl
                                  try simp only [Act.put, List.setIfInBounds_toArray, List.set_cons_zero, List.set_cons_succ, List.getElem_toArray, List.getElem_cons_zero, List.getElem_cons_succ]
                                refine plan_read (v := .agg #[.int .i64 ek, .int .i64 ef, .int .i64 et, .int .i64 el, .int .i64 eo, .int .i64 ea, .bool eown, .int .u32 en, .int .u32 ev]) rfl (by rfl) (fun w' hS => by rw [hS]; exact load_run _ _ _ _ _ _ _ _ _ gA (k * 9) [.int .i64 ek, .int .i64 ef, .int .i64 et, .int .i64 el, .int .i64 eo, .int .i64 ea, .bool eown, .int .u32 en, .int .u32 ev] _ rfl hRM Try.underlying27 rfl size27) ?_
                                try simp only [Act.put, List.setIfInBounds_toArray, List.set_cons_zero, List.set_cons_succ, List.getElem_toArray, List.getElem_cons_zero, List.getElem_cons_succ]
                                refine plan_read (v := .bool false) rfl (by rfl) (fun w' hS => neq_run _ w' _ _ _ _ _ _ _ _ ek ef et el eo ea eown en ev rfl rfl) ?_
                                try simp only [Act.put, List.setIfInBounds_toArray, List.set_cons_zero, List.set_cons_succ, List.getElem_toArray, List.getElem_cons_zero, List.getElem_cons_succ]
                                iterate 6
                                  refine plan_read (v := ?_) rfl (by rfl) ?_ ?_
                                  rotate_left
                                  · intro w' hS
                                    try dsimp only at hS
                                    subst hS
                                    go_simp
                                    try with_reducible rfl
                                  try simp only [Act.put, List.setIfInBounds_toArray, List.set_cons_zero, List.set_cons_succ, List.getElem_toArray, List.getElem_cons_zero, List.getElem_cons_succ]
                                iterate 2
                                  refine plan_skip rfl (by rfl) ?_
                                  try simp only [Act.put, List.setIfInBounds_toArray, List.set_cons_zero, List.set_cons_succ, List.getElem_toArray, List.getElem_cons_zero, List.getElem_cons_succ]
                                iterate 1
                                  refine plan_read (v := ?_) rfl (by rfl) ?_ ?_
                                  rotate_left
                                  · intro w' hS
                                    try dsimp only at hS
                                    subst hS
                                    go_simp
                                    try with_reducible rfl
                                  try simp only [Act.put, List.setIfInBounds_toArray, List.set_cons_zero, List.set_cons_succ, List.getElem_toArray, List.getElem_cons_zero, List.getElem_cons_succ]
                                refine plan_nil ?_
                                simp only [List.drop_succ_cons, List.drop_zero]
                                go_wp2_with fail
                                go_meet
                                case rel => exact ⟨rfl, rfl⟩
                              · by_cases hc1 : C = 1
                                · have hE5 : E = 5 := by rw [HEQ.out]; exact keep_take1 HKZ.out hkM (by rw [← HZ.out, ← HC.out]; exact hc1)
                                  subst hc1 hE5
                                  have h00 : ((1 : Int) == 0) = false := by decide
                                  have h01 : ((1 : Int) == 1) = true := by decide
                                  have h02 : ((5 : Int) != 5) = false := by decide
                                  refine region_plan (fun w' : World => w' = X0.drew) 21 [(0, true), (1, true), (2, true), (3, true), (4, true), (5, true), (6, true), (7, true), (8, true), (9, true), (10, true), (11, true), (12, true), (13, true), (14, true), (15, true), (16, true), (17, true), (18, true), (19, true), (20, true)] (by kernel_rfl) (by kernel_rfl) rfl ?_
                                  iterate 3
                                    refine plan_read (v := ?_) rfl (by rfl) ?_ ?_
                                    rotate_left
                                    · intro w' hS
                                      try dsimp only at hS
                                      subst hS
                                      go_simp
                                      try with_reducible rfl
                                    try simp only [Act.put, List.setIfInBounds_toArray, List.set_cons_zero, List.set_cons_succ, List.getElem_toArray, List.getElem_cons_zero, List.getElem_cons_succ]
                                  iterate 10
                                    refine plan_skip rfl (by rfl) ?_
                                    try simp only [Act.put, List.setIfInBounds_toArray, List.set_cons_zero, List.set_cons_succ, List.getElem_toArray, List.getElem_cons_zero, List.getElem_cons_succ]
                                  iterate 8
                                    refine plan_read (v := ?_) rfl (by rfl) ?_ ?_
                                    rotate_left
                                    · intro w' hS
                                      try dsimp only at hS
                                      subst hS
                                      go_simp
                                      try with_reducible rfl
                                    try simp only [Act.put, List.setIfInBounds_toArray, List.set_cons_zero, List.set_cons_succ, List.getElem_toArray, List.getElem_cons_zero, List.getElem_cons_succ]
                                  refine plan_nil ?_
                                  simp only [List.drop_succ_cons, List.drop_zero]
                                  go_wp2_with fail
                                  go_meet
                                  case rel => exact ⟨rfl, rfl⟩
                                · have h00 : ((C : Int) == 0) = false := by simp; omega
                                  have h01 : ((C : Int) == 1) = false := by rw [beq_eq_false_iff_ne]; omega
                                  have h02 : ¬ (C : Int) = 0 := by omega
                                  clear hc0 hc1
                                  refine region_plan (fun w' : World => w' = X0.drew) 21 [(0, true), (1, true), (2, true), (3, true), (4, true), (5, true), (6, true), (7, true), (8, true), (9, true), (10, true), (11, true), (12, true), (13, true), (14, true), (15, true), (16, true), (17, true), (18, true), (19, true), (20, true)] (by kernel_rfl) (by kernel_rfl) rfl ?_
                                  iterate 3
                                    refine plan_read (v := ?_) rfl (by rfl) ?_ ?_
                                    rotate_left
                                    · intro w' hS
                                      try dsimp only at hS
                                      subst hS
                                      go_simp
                                      try with_reducible rfl
                                    try simp only [Act.put, List.setIfInBounds_toArray, List.set_cons_zero, List.set_cons_succ, List.getElem_toArray, List.getElem_cons_zero, List.getElem_cons_succ]
                                  iterate 10
                                    refine plan_skip rfl (by rfl) ?_
                                    try simp only [Act.put, List.setIfInBounds_toArray, List.set_cons_zero, List.set_cons_succ, List.getElem_toArray, List.getElem_cons_zero, List.getElem_cons_succ]
                                  iterate 5
                                    refine plan_read (v := ?_) rfl (by rfl) ?_ ?_
                                    rotate_left
                                    · intro w' hS
                                      try dsimp only at hS
                                      subst hS
                                      go_simp
                                      try with_reducible rfl
                                    try simp only [Act.put, List.setIfInBounds_toArray, List.set_cons_zero, List.set_cons_succ, List.getElem_toArray, List.getElem_cons_zero, List.getElem_cons_succ]
                                  iterate 2
                                    refine plan_skip rfl (by rfl) ?_
                                    try simp only [Act.put, List.setIfInBounds_toArray, List.set_cons_zero, List.set_cons_succ, List.getElem_toArray, List.getElem_cons_zero, List.getElem_cons_succ]
                                  iterate 1
                                    refine plan_read (v := ?_) rfl (by rfl) ?_ ?_
                                    rotate_left
                                    · intro w' hS
                                      try dsimp only at hS
                                      subst hS
                                      go_simp
                                      try with_reducible rfl
                                    try simp only [Act.put, List.setIfInBounds_toArray, List.set_cons_zero, List.set_cons_succ, List.getElem_toArray, List.getElem_cons_zero, List.getElem_cons_succ]
                                  refine plan_nil ?_
                                  simp only [List.drop_succ_cons, List.drop_zero]
                                  go_wp2_with fail
                                  go_meet
                                  case rel => exact ⟨rfl, rfl⟩
                          case rest =>
                            as_aux_lemma =>
                              obtain ⟨rfl, hwd⟩ := hcut
                              have HKR0 := Lib.hid HKRX.out.drew
                              have HQ0 := Lib.hid (HQX.out.below (Below.refl _ _).drew)
                              have HK0 := Lib.hid HKX.out.drew
                              have HO40 := Lib.hid HO4X.out.drew
                              have HO50 := Lib.hid HO5X.out.drew
                              have HW0 := Lib.hid HWX.out.drew
                              rw [hwd] at HKR0 HQ0 HK0 HO40 HO50 HW0
                              obtain ⟨V0, hV0⟩ : ∃ V, V = wc := ⟨_, rfl⟩
                              rw [← hV0] at HKR0 HQ0 HK0 HO40 HO50 HW0 ⊢
                              clear hV0 hwd HKRX HQX HKX HO4X HO5X HWX HPX HELX HZLX HTX HRM0
                              obtain ⟨B9, hB9⟩ : ∃ B, B = w2.heap.size := ⟨_, rfl⟩
                              rw [← hB9] at HK0 ⊢
                              clear hB9
                              have hDD : D = mixS (M.eraseIdx k) (Z.eraseIdx k) := by rw [HD.out, keep_drop HKZ.out hkM]
                              have HKZC : Hid (Kept2 (M.eraseIdx k) (Z.eraseIdx k)) := Lib.hid (HKZ.out.cut k hkM)
                              have HDC : Hid (d = (M.eraseIdx k).length) := Lib.hid (by rw [HDL.out, hDD, HKZC.out.mlen])
                              have HDN : Hid (d = s - 1) := Lib.hid (by rw [HDC.out, List.length_eraseIdx, if_pos hkM, ← HSL.out])
                              have HDD := Lib.hid hDD
                              clear hDD HEQ HD HDL HTM HTR HC HZ HZED HEM
                              obtain ⟨cA, hcA⟩ : ∃ c, c = cv := ⟨_, rfl⟩
                              obtain ⟨cB, hcB⟩ : ∃ c, c = cz := ⟨_, rfl⟩
                              subst hcA hcB
                              obtain ⟨oA, hoA⟩ : ∃ o, o = if cA = k + 1 then 0 else (k + 1) * 9 := ⟨_, rfl⟩
                              obtain ⟨oB, hoB⟩ : ∃ o, o = if cB = k + 1 then 0 else (k + 1) * 19 := ⟨_, rfl⟩
                              have hpA := own_parts HO40.out HSL.out k hkk
                              have hpB := own_partsZ HKZ.out.zed HO50.out (by rw [HKZ.out.len]; exact HSL.out) k hkk
                              rw [← hoA] at hpA
                              rw [← hoB] at hpB
                              have HSLA := Lib.hid hpA.1
                              have HSHA := Lib.hid hpA.2
                              have HSLB := Lib.hid hpB.1
                              have HSHB := Lib.hid hpB.2
                              have HLNA1 : Hid ((rowsM (M.take k)).length = k * 9) := Lib.hid (by rw [rowsM_len, List.length_take, ← HSL.out, Nat.min_eq_left (Nat.le_of_lt hkk)])
                              have HLNA2 : Hid ((rowsM (M.drop (k + 1))).length = (s - (k + 1)) * 9) := Lib.hid (by rw [rowsM_len, List.length_drop, ← HSL.out])
                              have HLNB1 : Hid ((rowsZ (Z.take k)).length = k * 19) := Lib.hid (by rw [rowsZ_len (fun z h => HKZ.out.zed z (List.mem_of_mem_take h)), List.length_take, HKZ.out.len, ← HSL.out, Nat.min_eq_left (Nat.le_of_lt hkk)])
                              have HLNB2 : Hid ((rowsZ (Z.drop (k + 1))).length = (s - (k + 1)) * 19) := Lib.hid (by rw [rowsZ_len (fun z h => HKZ.out.zed z (List.mem_of_mem_drop h)), List.length_drop, HKZ.out.len, ← HSL.out])
                              obtain ⟨_, _, eA, hcapA⟩ := own_cap HO40.out
                              obtain ⟨_, _, eB, hcapB⟩ := own_cap HO50.out
                              injection eA with _ _ eA
                              injection eB with _ _ eB
                              subst eA eB
                              have HCA : Hid (k ≤ cA ∧ 0 < cA) := Lib.hid ⟨by omega, by omega⟩
                              have HCB : Hid (k ≤ cB ∧ 0 < cB) := Lib.hid ⟨by omega, by omega⟩
                              have HOEA := Lib.hid hoA
                              have HOEB := Lib.hid hoB
                              clear hpA hpB hoA hoB hcapA hcapB
                              have HS0 : Hid (∀ W, Below V0.heap.size V0 W → W.cell? ⟨B9, 0, none⟩ = some (.slice q d cq)) := Lib.hid (fun W hb => (hb.cell (p := ⟨B9, 0, none⟩) HK0.out.lt).trans (HK0.out.c 0))
                              have HLEAF : Hid (∀ U v4 v5, Below V0.heap.size V0 U → U.ownsRow V0.heap.size 27 9 v4 ((0 + k) + (s - (k + 1))) (([] ++ rowsM (M.take k)) ++ rowsM (M.drop (k + 1))) → U.ownsRow V0.heap.size 53 19 v5 ((0 + k) + (s - (k + 1))) (([] ++ rowsZ (Z.take k)) ++ rowsZ (Z.drop (k + 1))) → ((U.setCell ⟨R, 0, none⟩ (.slice q d cq)).ownsRow (R + 1) 27 9 v4 d (rowsM (M.eraseIdx k)) ∧ (U.setCell ⟨R, 0, none⟩ (.slice q d cq)).ownsRow (R + 1) 53 19 v5 d (rowsZ (Z.eraseIdx k)) ∧ Blk (U.setCell ⟨R, 0, none⟩ (.slice q d cq)) R #[.slice q d cq] ∧ Pl (U.setCell ⟨R, 0, none⟩ (.slice q d cq)) q ys (mixS (M.eraseIdx k) (Z.eraseIdx k)) ∧ Below w.heap.size w (U.setCell ⟨R, 0, none⟩ (.slice q d cq)))) := Lib.hid (fun U v4 v5 hb h4 h5 => by
                                have hdd : (0 + k) + (s - (k + 1)) = d := by rw [HDN.out]; omega
                                have hRV : R + 1 ≤ V0.heap.size := HKR0.out.lt
                                rw [hdd, List.nil_append, ← rowsM_cut] at h4
                                rw [hdd, List.nil_append, ← rowsZ_cut] at h5
                                refine ⟨own_off (own_mono h4 hRV) (Nat.lt_succ_self R) 0 _, own_off (own_mono h5 hRV) (Nat.lt_succ_self R) 0 _, (HKR0.out.below hb).set (n := 0) _ (by simp), ?_, ((HW0.out.trans (hb.mono HW0.out.size)).setCell (p := ⟨R, 0, none⟩) (by show w.heap.size ≤ R; exact HS1.out) _)⟩
                                rw [← HDD.out]
                                exact (HQ0.out.below hb).set (R := R) (HQO.out.sub (fun b e => by have := HRA.out; omega)) 0 _)
                              have hkI : (0 : Int) ≤ (k : Int) := by omega
                              have wk1 : IntKind.i64.wrap ((k : Int) + 1) = (k : Int) + 1 := by simp [IntKind.wrap, IntKind.bits, IntKind.signed]; omega
                              clear HO40 HO50 HK0
                              go_upto_region 45 with fail
                              refine region_plan3 (fun w' : World => w'.cell? ⟨B9, 0, none⟩ = some (.slice q d cq)) 21 (.read 0 (.read 2 (.read 3 (.read 4 (.read 6 (.read 7 (.read 8 (.read 9 (.read 12 (.read 13 (.read 14 (.read 16 (.read 17 (.read 18 (.read 19 (.two 1 11 (.two 5 11 (.two 10 11 (.one 11 (.one 15 (.one 20 .stop))) (.one 10 (.one 15 (.one 20 .stop)))) (.one 5 (.one 10 (.one 15 (.one 20 .stop))))) (.one 1 (.one 5 (.one 10 (.one 15 (.one 20 .stop))))))))))))))))))))) (by kernel_rfl) (by kernel_rfl) (HS0.out _ (Below.refl _ _).drew) ?_
                              iterate 3
                                refine plan3_read (v := ?_) rfl (by rfl) ?_ ?_
                                rotate_left
                                · intro w' hS
                                  try dsimp only at hS
                                  go_simp
                                  try with_reducible rfl
                                try simp only [Act.put, List.setIfInBounds_toArray, List.set_cons_zero, List.set_cons_succ, List.getElem_toArray, List.getElem_cons_zero, List.getElem_cons_succ]
                              refine plan3_read (v := .slice (some ⟨gA, 0, none⟩) k cA) rfl (by rfl) (fun w' hS => cutlo48_run _ w' _ _ _ _ _ _ _ gA s cA k HCA.out.1 HCA.out.2 (by go_simp) (by go_simp)) ?_
                              try simp only [Act.put, List.setIfInBounds_toArray, List.set_cons_zero, List.set_cons_succ, List.getElem_toArray, List.getElem_cons_zero, List.getElem_cons_succ]
                              iterate 3
                                refine plan3_read (v := ?_) rfl (by rfl) ?_ ?_
                                rotate_left
                                · intro w' hS
                                  try dsimp only at hS
                                  go_simp
                                  try with_reducible rfl
                                try simp only [Act.put, List.setIfInBounds_toArray, List.set_cons_zero, List.set_cons_succ, List.getElem_toArray, List.getElem_cons_zero, List.getElem_cons_succ]
                              refine plan3_read (v := .slice (some ⟨gA, oA, none⟩) (s - (k + 1)) (cA - (k + 1))) rfl (by rfl) (fun w' hS => by rw [HOEA.out]; exact cuthi48_run _ w' _ _ _ _ _ _ _ gA s cA k (by omega) (by go_simp) (by go_simp)) ?_
                              try simp only [Act.put, List.setIfInBounds_toArray, List.set_cons_zero, List.set_cons_succ, List.getElem_toArray, List.getElem_cons_zero, List.getElem_cons_succ]
                              iterate 2
                                refine plan3_read (v := ?_) rfl (by rfl) ?_ ?_
                                rotate_left
                                · intro w' hS
                                  try dsimp only at hS
                                  go_simp
                                  try with_reducible rfl
                                try simp only [Act.put, List.setIfInBounds_toArray, List.set_cons_zero, List.set_cons_succ, List.getElem_toArray, List.getElem_cons_zero, List.getElem_cons_succ]
                              refine plan3_read (v := .slice (some ⟨gB, 0, none⟩) k cB) rfl (by rfl) (fun w' hS => cutlo49_run _ w' _ _ _ _ _ _ _ gB s cB k HCB.out.1 HCB.out.2 (by go_simp) (by go_simp)) ?_
                              try simp only [Act.put, List.setIfInBounds_toArray, List.set_cons_zero, List.set_cons_succ, List.getElem_toArray, List.getElem_cons_zero, List.getElem_cons_succ]
                              iterate 3
                                refine plan3_read (v := ?_) rfl (by rfl) ?_ ?_
                                rotate_left
                                · intro w' hS
                                  try dsimp only at hS
                                  go_simp
                                  try with_reducible rfl
                                try simp only [Act.put, List.setIfInBounds_toArray, List.set_cons_zero, List.set_cons_succ, List.getElem_toArray, List.getElem_cons_zero, List.getElem_cons_succ]
                              refine plan3_read (v := .slice (some ⟨gB, oB, none⟩) (s - (k + 1)) (cB - (k + 1))) rfl (by rfl) (fun w' hS => by rw [HOEB.out]; exact cuthi49_run _ w' _ _ _ _ _ _ _ gB s cB k (by omega) (by go_simp) (by go_simp)) ?_
                              try simp only [Act.put, List.setIfInBounds_toArray, List.set_cons_zero, List.set_cons_succ, List.getElem_toArray, List.getElem_cons_zero, List.getElem_cons_succ]
                              have HUZ : Hid (Below V0.heap.size V0 V0.drew) := Lib.hid (Below.refl _ _).drew
                              refine plan3_two ?_ ?_
                              · as_aux_lemma =>
                                  refine op_make (v := .slice (some ⟨V0.drew.heap.size, 0, none⟩) 0 0) (w1 := V0.drew.alloc (.cells #[] 27)) rfl (by rfl) (build480_run _ _ _ _ _ _ _) ?_
                                  obtain ⟨u1, hu1⟩ : ∃ u, u = V0.drew.alloc (.cells #[] 27) := ⟨_, rfl⟩
                                  have HU2 : Hid (Below V0.heap.size V0 u1) := Lib.hid (by rw [hu1]; exact HUZ.out.alloc HUZ.out.size _)
                                  have HF3 : Hid (u1.ownsRow V0.heap.size 27 9 (.slice (some ⟨V0.drew.heap.size, 0, none⟩) 0 0) 0 []) := Lib.hid (by rw [hu1]; exact fresh_made HUZ.out.size)
                                  rw [← hu1]
                                  clear hu1
                                  refine ⟨HS0.out _ HU2.out, ?_⟩
                                  try simp only [Act.put, List.setIfInBounds_toArray, List.set_cons_zero, List.set_cons_succ, List.getElem_toArray, List.getElem_cons_zero, List.getElem_cons_succ]
                                  refine plan3_two ?_ ?_
                                  · as_aux_lemma =>
                                      refine op_wp rfl (by rfl) ?_
                                      try simp only [List.getElem_toArray, List.getElem_cons_zero, List.getElem_cons_succ]
                                      refine wp_append_sl _ _ 48 rfl V0.heap.size 27 i0 (.agg #[.int .i64 0, .int .i64 0, .int .i64 0, .int .i64 0, .int .i64 0, .int .i64 0, .bool false, .int .u32 0, .int .u32 0]) 9 64 Try.underlying48 HI0.out.1 HI0.out.2.1 HI0.out.2.2.1 HI0.out.2.2.2 rfl (by decide) (.slice (some ⟨V0.drew.heap.size, 0, none⟩) 0 0) 0 [] rfl HF3.out (some ⟨gA, 0, none⟩) k cA (rowsM (M.take k)) rfl HLNA1.out (HSLA.out.below HU2.out) (rowsM_one _) (by unfold maxLen; omega) (by omega) HU2.out.size ?_
                                      intro vu4 u4 g1 g2 g3
                                      have HU5 : Hid (Below V0.heap.size V0 u4) := Lib.hid (HU2.out.grown g2 HU2.out.size (fun g e => (HF3.out.lt g e).1))
                                      have HF6 := Lib.hid g1
                                      clear g1 g2 g3
                                      refine ⟨HS0.out _ HU5.out, ?_⟩
                                      try simp only [Act.put, List.setIfInBounds_toArray, List.set_cons_zero, List.set_cons_succ]
                                      refine plan3_two ?_ ?_
                                      · as_aux_lemma =>
                                          refine op_wp rfl (by rfl) ?_
                                          try simp only [List.getElem_toArray, List.getElem_cons_zero, List.getElem_cons_succ]
                                          refine wp_append_sl _ _ 48 rfl V0.heap.size 27 i0 (.agg #[.int .i64 0, .int .i64 0, .int .i64 0, .int .i64 0, .int .i64 0, .int .i64 0, .bool false, .int .u32 0, .int .u32 0]) 9 64 Try.underlying48 HI0.out.1 HI0.out.2.1 HI0.out.2.2.1 HI0.out.2.2.2 rfl (by decide) vu4 (0 + k) ([] ++ (rowsM (M.take k))) rfl HF6.out (some ⟨gA, oA, none⟩) (s - (k + 1)) (cA - (k + 1)) (rowsM (M.drop (k + 1))) rfl HLNA2.out (HSHA.out.below HU5.out) (rowsM_one _) (by unfold maxLen; omega) (by omega) HU5.out.size ?_
                                          intro vu7 u7 g1 g2 g3
                                          have HU8 : Hid (Below V0.heap.size V0 u7) := Lib.hid (HU5.out.grown g2 HU5.out.size (fun g e => (HF6.out.lt g e).1))
                                          have HF9 := Lib.hid g1
                                          clear g1 g2 g3
                                          refine ⟨HS0.out _ HU8.out, ?_⟩
                                          try simp only [Act.put, List.setIfInBounds_toArray, List.set_cons_zero, List.set_cons_succ]
                                          refine plan3_one ?_
                                          refine op_make (v := .slice (some ⟨u7.heap.size, 0, none⟩) 0 0) (w1 := u7.alloc (.cells #[] 53)) rfl (by rfl) (build490_run _ _ _ _ _ _ _) ?_
                                          obtain ⟨u10, hu10⟩ : ∃ u, u = u7.alloc (.cells #[] 53) := ⟨_, rfl⟩
                                          have HU11 : Hid (Below V0.heap.size V0 u10) := Lib.hid (by rw [hu10]; exact HU8.out.alloc HU8.out.size _)
                                          have HF12 : Hid (u10.ownsRow V0.heap.size 53 19 (.slice (some ⟨u7.heap.size, 0, none⟩) 0 0) 0 []) := Lib.hid (by rw [hu10]; exact fresh_made HU8.out.size)
                                          have HF13 := Lib.hid (own_below HF9.out (by rw [hu10]; exact (Below.refl _ _).alloc (Nat.le_refl _) _ : Below u7.heap.size u7 u10))
                                          rw [← hu10]
                                          clear hu10
                                          refine ⟨HS0.out _ HU11.out, ?_⟩
                                          try simp only [Act.put, List.setIfInBounds_toArray, List.set_cons_zero, List.set_cons_succ, List.getElem_toArray, List.getElem_cons_zero, List.getElem_cons_succ]
                                          refine plan3_one ?_
                                          refine op_wp rfl (by rfl) ?_
                                          try simp only [List.getElem_toArray, List.getElem_cons_zero, List.getElem_cons_succ]
                                          refine wp_append_sl _ _ 49 rfl V0.heap.size 53 i3 (.agg #[.int .u8 0, .int .u8 0, .int .u8 0, .int .u8 0, .int .u8 0, .int .u8 0, .int .u8 0, .int .u8 0, .int .u8 0, .int .u8 0, .int .u8 0, .int .u8 0, .int .u8 0, .int .u8 0, .int .u8 0, .int .u8 0, .int .u8 0, .int .u8 0, .int .u8 0]) 19 19 Try.underlying49 HI3.out.1 HI3.out.2.1 HI3.out.2.2.1 HI3.out.2.2.2 rfl (by decide) (.slice (some ⟨u7.heap.size, 0, none⟩) 0 0) 0 [] rfl HF12.out (some ⟨gB, 0, none⟩) k cB (rowsZ (Z.take k)) rfl HLNB1.out (HSLB.out.below HU11.out) (rowsZ_one _) (by unfold maxLen; omega) (by omega) HU11.out.size ?_
                                          intro vu14 u14 g1 g2 g3
                                          have HU15 : Hid (Below V0.heap.size V0 u14) := Lib.hid (HU11.out.grown g2 HU11.out.size (fun g e => (HF12.out.lt g e).1))
                                          have HF16 := Lib.hid g1
                                          have HF17 := Lib.hid (own_keep HF13.out HF12.out (by decide) g2)
                                          clear g1 g2 g3
                                          refine ⟨HS0.out _ HU15.out, ?_⟩
                                          try simp only [Act.put, List.setIfInBounds_toArray, List.set_cons_zero, List.set_cons_succ]
                                          refine plan3_one ?_
                                          refine op_wp rfl (by rfl) ?_
                                          try simp only [List.getElem_toArray, List.getElem_cons_zero, List.getElem_cons_succ]
                                          refine wp_append_sl _ _ 49 rfl V0.heap.size 53 i3 (.agg #[.int .u8 0, .int .u8 0, .int .u8 0, .int .u8 0, .int .u8 0, .int .u8 0, .int .u8 0, .int .u8 0, .int .u8 0, .int .u8 0, .int .u8 0, .int .u8 0, .int .u8 0, .int .u8 0, .int .u8 0, .int .u8 0, .int .u8 0, .int .u8 0, .int .u8 0]) 19 19 Try.underlying49 HI3.out.1 HI3.out.2.1 HI3.out.2.2.1 HI3.out.2.2.2 rfl (by decide) vu14 (0 + k) ([] ++ (rowsZ (Z.take k))) rfl HF16.out (some ⟨gB, oB, none⟩) (s - (k + 1)) (cB - (k + 1)) (rowsZ (Z.drop (k + 1))) rfl HLNB2.out (HSHB.out.below HU15.out) (rowsZ_one _) (by unfold maxLen; omega) (by omega) HU15.out.size ?_
                                          intro vu18 u18 g1 g2 g3
                                          have HU19 : Hid (Below V0.heap.size V0 u18) := Lib.hid (HU15.out.grown g2 HU15.out.size (fun g e => (HF16.out.lt g e).1))
                                          have HF20 := Lib.hid g1
                                          have HF21 := Lib.hid (own_keep HF17.out HF16.out (by decide) g2)
                                          clear g1 g2 g3
                                          refine ⟨HS0.out _ HU19.out, ?_⟩
                                          try simp only [Act.put, List.setIfInBounds_toArray, List.set_cons_zero, List.set_cons_succ]
                                          refine plan3_stop ?_
                                          simp only [List.drop_succ_cons, List.drop_zero]
                                          have kR := (HKR0.out.below HU19.out).c
                                          have fR := (HKR0.out.below HU19.out).f
                                          have lR := (HKR0.out.below HU19.out).lt
                                          go_wp2_with fail
                                          go_meet
                                          case rel =>
                                            obtain ⟨a1, a2, a3, a4, a5⟩ := HLEAF.out _ _ _ HU19.out HF21.out HF20.out
                                            exact ⟨M.eraseIdx k, Z.eraseIdx k, q, cq, ys, d, HKZC.out, HDC.out, a1, a2, a3, a4, a5⟩
                                      · as_aux_lemma =>
                                          refine op_make (v := .slice (some ⟨u4.heap.size, 0, none⟩) 0 0) (w1 := u4.alloc (.cells #[] 53)) rfl (by rfl) (build490_run _ _ _ _ _ _ _) ?_
                                          obtain ⟨u22, hu22⟩ : ∃ u, u = u4.alloc (.cells #[] 53) := ⟨_, rfl⟩
                                          have HU23 : Hid (Below V0.heap.size V0 u22) := Lib.hid (by rw [hu22]; exact HU5.out.alloc HU5.out.size _)
                                          have HF24 : Hid (u22.ownsRow V0.heap.size 53 19 (.slice (some ⟨u4.heap.size, 0, none⟩) 0 0) 0 []) := Lib.hid (by rw [hu22]; exact fresh_made HU5.out.size)
                                          have HF25 := Lib.hid (own_below HF6.out (by rw [hu22]; exact (Below.refl _ _).alloc (Nat.le_refl _) _ : Below u4.heap.size u4 u22))
                                          rw [← hu22]
                                          clear hu22
                                          refine ⟨HS0.out _ HU23.out, ?_⟩
                                          try simp only [Act.put, List.setIfInBounds_toArray, List.set_cons_zero, List.set_cons_succ, List.getElem_toArray, List.getElem_cons_zero, List.getElem_cons_succ]
                                          refine plan3_one ?_
                                          refine op_wp rfl (by rfl) ?_
                                          try simp only [List.getElem_toArray, List.getElem_cons_zero, List.getElem_cons_succ]
                                          refine wp_append_sl _ _ 48 rfl V0.heap.size 27 i0 (.agg #[.int .i64 0, .int .i64 0, .int .i64 0, .int .i64 0, .int .i64 0, .int .i64 0, .bool false, .int .u32 0, .int .u32 0]) 9 64 Try.underlying48 HI0.out.1 HI0.out.2.1 HI0.out.2.2.1 HI0.out.2.2.2 rfl (by decide) vu4 (0 + k) ([] ++ (rowsM (M.take k))) rfl HF25.out (some ⟨gA, oA, none⟩) (s - (k + 1)) (cA - (k + 1)) (rowsM (M.drop (k + 1))) rfl HLNA2.out (HSHA.out.below HU23.out) (rowsM_one _) (by unfold maxLen; omega) (by omega) HU23.out.size ?_
                                          intro vu26 u26 g1 g2 g3
                                          have HU27 : Hid (Below V0.heap.size V0 u26) := Lib.hid (HU23.out.grown g2 HU23.out.size (fun g e => (HF25.out.lt g e).1))
                                          have HF28 := Lib.hid g1
                                          have HF29 := Lib.hid (own_keep HF24.out HF25.out (by decide) g2)
                                          clear g1 g2 g3
                                          refine ⟨HS0.out _ HU27.out, ?_⟩
                                          try simp only [Act.put, List.setIfInBounds_toArray, List.set_cons_zero, List.set_cons_succ]
                                          refine plan3_one ?_
                                          refine op_wp rfl (by rfl) ?_
                                          try simp only [List.getElem_toArray, List.getElem_cons_zero, List.getElem_cons_succ]
                                          refine wp_append_sl _ _ 49 rfl V0.heap.size 53 i3 (.agg #[.int .u8 0, .int .u8 0, .int .u8 0, .int .u8 0, .int .u8 0, .int .u8 0, .int .u8 0, .int .u8 0, .int .u8 0, .int .u8 0, .int .u8 0, .int .u8 0, .int .u8 0, .int .u8 0, .int .u8 0, .int .u8 0, .int .u8 0, .int .u8 0, .int .u8 0]) 19 19 Try.underlying49 HI3.out.1 HI3.out.2.1 HI3.out.2.2.1 HI3.out.2.2.2 rfl (by decide) (.slice (some ⟨u4.heap.size, 0, none⟩) 0 0) 0 [] rfl HF29.out (some ⟨gB, 0, none⟩) k cB (rowsZ (Z.take k)) rfl HLNB1.out (HSLB.out.below HU27.out) (rowsZ_one _) (by unfold maxLen; omega) (by omega) HU27.out.size ?_
                                          intro vu30 u30 g1 g2 g3
                                          have HU31 : Hid (Below V0.heap.size V0 u30) := Lib.hid (HU27.out.grown g2 HU27.out.size (fun g e => (HF29.out.lt g e).1))
                                          have HF32 := Lib.hid g1
                                          have HF33 := Lib.hid (own_keep HF28.out HF29.out (by decide) g2)
                                          clear g1 g2 g3
                                          refine ⟨HS0.out _ HU31.out, ?_⟩
                                          try simp only [Act.put, List.setIfInBounds_toArray, List.set_cons_zero, List.set_cons_succ]
                                          refine plan3_one ?_
                                          refine op_wp rfl (by rfl) ?_
                                          try simp only [List.getElem_toArray, List.getElem_cons_zero, List.getElem_cons_succ]
                                          refine wp_append_sl _ _ 49 rfl V0.heap.size 53 i3 (.agg #[.int .u8 0, .int .u8 0, .int .u8 0, .int .u8 0, .int .u8 0, .int .u8 0, .int .u8 0, .int .u8 0, .int .u8 0, .int .u8 0, .int .u8 0, .int .u8 0, .int .u8 0, .int .u8 0, .int .u8 0, .int .u8 0, .int .u8 0, .int .u8 0, .int .u8 0]) 19 19 Try.underlying49 HI3.out.1 HI3.out.2.1 HI3.out.2.2.1 HI3.out.2.2.2 rfl (by decide) vu30 (0 + k) ([] ++ (rowsZ (Z.take k))) rfl HF32.out (some ⟨gB, oB, none⟩) (s - (k + 1)) (cB - (k + 1)) (rowsZ (Z.drop (k + 1))) rfl HLNB2.out (HSHB.out.below HU31.out) (rowsZ_one _) (by unfold maxLen; omega) (by omega) HU31.out.size ?_
                                          intro vu34 u34 g1 g2 g3
                                          have HU35 : Hid (Below V0.heap.size V0 u34) := Lib.hid (HU31.out.grown g2 HU31.out.size (fun g e => (HF32.out.lt g e).1))
                                          have HF36 := Lib.hid g1
                                          have HF37 := Lib.hid (own_keep HF33.out HF32.out (by decide) g2)
                                          clear g1 g2 g3
                                          refine ⟨HS0.out _ HU35.out, ?_⟩
                                          try simp only [Act.put, List.setIfInBounds_toArray, List.set_cons_zero, List.set_cons_succ]
                                          refine plan3_stop ?_
                                          simp only [List.drop_succ_cons, List.drop_zero]
                                          have kR := (HKR0.out.below HU35.out).c
                                          have fR := (HKR0.out.below HU35.out).f
                                          have lR := (HKR0.out.below HU35.out).lt
                                          go_wp2_with fail
                                          go_meet
                                          case rel =>
                                            obtain ⟨a1, a2, a3, a4, a5⟩ := HLEAF.out _ _ _ HU35.out HF37.out HF36.out
                                            exact ⟨M.eraseIdx k, Z.eraseIdx k, q, cq, ys, d, HKZC.out, HDC.out, a1, a2, a3, a4, a5⟩
                                  · as_aux_lemma =>
                                      refine op_make (v := .slice (some ⟨u1.heap.size, 0, none⟩) 0 0) (w1 := u1.alloc (.cells #[] 53)) rfl (by rfl) (build490_run _ _ _ _ _ _ _) ?_
                                      obtain ⟨u38, hu38⟩ : ∃ u, u = u1.alloc (.cells #[] 53) := ⟨_, rfl⟩
                                      have HU39 : Hid (Below V0.heap.size V0 u38) := Lib.hid (by rw [hu38]; exact HU2.out.alloc HU2.out.size _)
                                      have HF40 : Hid (u38.ownsRow V0.heap.size 53 19 (.slice (some ⟨u1.heap.size, 0, none⟩) 0 0) 0 []) := Lib.hid (by rw [hu38]; exact fresh_made HU2.out.size)
                                      have HF41 := Lib.hid (own_below HF3.out (by rw [hu38]; exact (Below.refl _ _).alloc (Nat.le_refl _) _ : Below u1.heap.size u1 u38))
                                      rw [← hu38]
                                      clear hu38
                                      refine ⟨HS0.out _ HU39.out, ?_⟩
                                      try simp only [Act.put, List.setIfInBounds_toArray, List.set_cons_zero, List.set_cons_succ, List.getElem_toArray, List.getElem_cons_zero, List.getElem_cons_succ]
                                      refine plan3_one ?_
                                      refine op_wp rfl (by rfl) ?_
                                      try simp only [List.getElem_toArray, List.getElem_cons_zero, List.getElem_cons_succ]
                                      refine wp_append_sl _ _ 48 rfl V0.heap.size 27 i0 (.agg #[.int .i64 0, .int .i64 0, .int .i64 0, .int .i64 0, .int .i64 0, .int .i64 0, .bool false, .int .u32 0, .int .u32 0]) 9 64 Try.underlying48 HI0.out.1 HI0.out.2.1 HI0.out.2.2.1 HI0.out.2.2.2 rfl (by decide) (.slice (some ⟨V0.drew.heap.size, 0, none⟩) 0 0) 0 [] rfl HF41.out (some ⟨gA, 0, none⟩) k cA (rowsM (M.take k)) rfl HLNA1.out (HSLA.out.below HU39.out) (rowsM_one _) (by unfold maxLen; omega) (by omega) HU39.out.size ?_
                                      intro vu42 u42 g1 g2 g3
                                      have HU43 : Hid (Below V0.heap.size V0 u42) := Lib.hid (HU39.out.grown g2 HU39.out.size (fun g e => (HF41.out.lt g e).1))
                                      have HF44 := Lib.hid g1
                                      have HF45 := Lib.hid (own_keep HF40.out HF41.out (by decide) g2)
                                      clear g1 g2 g3
                                      refine ⟨HS0.out _ HU43.out, ?_⟩
                                      try simp only [Act.put, List.setIfInBounds_toArray, List.set_cons_zero, List.set_cons_succ]
                                      refine plan3_one ?_
                                      refine op_wp rfl (by rfl) ?_
                                      try simp only [List.getElem_toArray, List.getElem_cons_zero, List.getElem_cons_succ]
                                      refine wp_append_sl _ _ 48 rfl V0.heap.size 27 i0 (.agg #[.int .i64 0, .int .i64 0, .int .i64 0, .int .i64 0, .int .i64 0, .int .i64 0, .bool false, .int .u32 0, .int .u32 0]) 9 64 Try.underlying48 HI0.out.1 HI0.out.2.1 HI0.out.2.2.1 HI0.out.2.2.2 rfl (by decide) vu42 (0 + k) ([] ++ (rowsM (M.take k))) rfl HF44.out (some ⟨gA, oA, none⟩) (s - (k + 1)) (cA - (k + 1)) (rowsM (M.drop (k + 1))) rfl HLNA2.out (HSHA.out.below HU43.out) (rowsM_one _) (by unfold maxLen; omega) (by omega) HU43.out.size ?_
                                      intro vu46 u46 g1 g2 g3
                                      have HU47 : Hid (Below V0.heap.size V0 u46) := Lib.hid (HU43.out.grown g2 HU43.out.size (fun g e => (HF44.out.lt g e).1))
                                      have HF48 := Lib.hid g1
                                      have HF49 := Lib.hid (own_keep HF45.out HF44.out (by decide) g2)
                                      clear g1 g2 g3
                                      refine ⟨HS0.out _ HU47.out, ?_⟩
                                      try simp only [Act.put, List.setIfInBounds_toArray, List.set_cons_zero, List.set_cons_succ]
                                      refine plan3_one ?_
                                      refine op_wp rfl (by rfl) ?_
                                      try simp only [List.getElem_toArray, List.getElem_cons_zero, List.getElem_cons_succ]
                                      refine wp_append_sl _ _ 49 rfl V0.heap.size 53 i3 (.agg #[.int .u8 0, .int .u8 0, .int .u8 0, .int .u8 0, .int .u8 0, .int .u8 0, .int .u8 0, .int .u8 0, .int .u8 0, .int .u8 0, .int .u8 0, .int .u8 0, .int .u8 0, .int .u8 0, .int .u8 0, .int .u8 0, .int .u8 0, .int .u8 0, .int .u8 0]) 19 19 Try.underlying49 HI3.out.1 HI3.out.2.1 HI3.out.2.2.1 HI3.out.2.2.2 rfl (by decide) (.slice (some ⟨u1.heap.size, 0, none⟩) 0 0) 0 [] rfl HF49.out (some ⟨gB, 0, none⟩) k cB (rowsZ (Z.take k)) rfl HLNB1.out (HSLB.out.below HU47.out) (rowsZ_one _) (by unfold maxLen; omega) (by omega) HU47.out.size ?_
                                      intro vu50 u50 g1 g2 g3
                                      have HU51 : Hid (Below V0.heap.size V0 u50) := Lib.hid (HU47.out.grown g2 HU47.out.size (fun g e => (HF49.out.lt g e).1))
                                      have HF52 := Lib.hid g1
                                      have HF53 := Lib.hid (own_keep HF48.out HF49.out (by decide) g2)
                                      clear g1 g2 g3
                                      refine ⟨HS0.out _ HU51.out, ?_⟩
                                      try simp only [Act.put, List.setIfInBounds_toArray, List.set_cons_zero, List.set_cons_succ]
                                      refine plan3_one ?_
                                      refine op_wp rfl (by rfl) ?_
                                      try simp only [List.getElem_toArray, List.getElem_cons_zero, List.getElem_cons_succ]
                                      refine wp_append_sl _ _ 49 rfl V0.heap.size 53 i3 (.agg #[.int .u8 0, .int .u8 0, .int .u8 0, .int .u8 0, .int .u8 0, .int .u8 0, .int .u8 0, .int .u8 0, .int .u8 0, .int .u8 0, .int .u8 0, .int .u8 0, .int .u8 0, .int .u8 0, .int .u8 0, .int .u8 0, .int .u8 0, .int .u8 0, .int .u8 0]) 19 19 Try.underlying49 HI3.out.1 HI3.out.2.1 HI3.out.2.2.1 HI3.out.2.2.2 rfl (by decide) vu50 (0 + k) ([] ++ (rowsZ (Z.take k))) rfl HF52.out (some ⟨gB, oB, none⟩) (s - (k + 1)) (cB - (k + 1)) (rowsZ (Z.drop (k + 1))) rfl HLNB2.out (HSHB.out.below HU51.out) (rowsZ_one _) (by unfold maxLen; omega) (by omega) HU51.out.size ?_
                                      intro vu54 u54 g1 g2 g3
                                      have HU55 : Hid (Below V0.heap.size V0 u54) := Lib.hid (HU51.out.grown g2 HU51.out.size (fun g e => (HF52.out.lt g e).1))
                                      have HF56 := Lib.hid g1
                                      have HF57 := Lib.hid (own_keep HF53.out HF52.out (by decide) g2)
                                      clear g1 g2 g3
                                      refine ⟨HS0.out _ HU55.out, ?_⟩
                                      try simp only [Act.put, List.setIfInBounds_toArray, List.set_cons_zero, List.set_cons_succ]
                                      refine plan3_stop ?_
                                      simp only [List.drop_succ_cons, List.drop_zero]
                                      have kR := (HKR0.out.below HU55.out).c
                                      have fR := (HKR0.out.below HU55.out).f
                                      have lR := (HKR0.out.below HU55.out).lt
                                      go_wp2_with fail
                                      go_meet
                                      case rel =>
                                        obtain ⟨a1, a2, a3, a4, a5⟩ := HLEAF.out _ _ _ HU55.out HF57.out HF56.out
                                        exact ⟨M.eraseIdx k, Z.eraseIdx k, q, cq, ys, d, HKZC.out, HDC.out, a1, a2, a3, a4, a5⟩
                              · as_aux_lemma =>
                                  refine op_make (v := .slice (some ⟨V0.drew.heap.size, 0, none⟩) 0 0) (w1 := V0.drew.alloc (.cells #[] 53)) rfl (by rfl) (build490_run _ _ _ _ _ _ _) ?_
                                  obtain ⟨u58, hu58⟩ : ∃ u, u = V0.drew.alloc (.cells #[] 53) := ⟨_, rfl⟩
                                  have HU59 : Hid (Below V0.heap.size V0 u58) := Lib.hid (by rw [hu58]; exact HUZ.out.alloc HUZ.out.size _)
                                  have HF60 : Hid (u58.ownsRow V0.heap.size 53 19 (.slice (some ⟨V0.drew.heap.size, 0, none⟩) 0 0) 0 []) := Lib.hid (by rw [hu58]; exact fresh_made HUZ.out.size)
                                  rw [← hu58]
                                  clear hu58
                                  refine ⟨HS0.out _ HU59.out, ?_⟩
                                  try simp only [Act.put, List.setIfInBounds_toArray, List.set_cons_zero, List.set_cons_succ, List.getElem_toArray, List.getElem_cons_zero, List.getElem_cons_succ]
                                  refine plan3_one ?_
                                  refine op_make (v := .slice (some ⟨u58.heap.size, 0, none⟩) 0 0) (w1 := u58.alloc (.cells #[] 27)) rfl (by rfl) (build480_run _ _ _ _ _ _ _) ?_
                                  obtain ⟨u61, hu61⟩ : ∃ u, u = u58.alloc (.cells #[] 27) := ⟨_, rfl⟩
                                  have HU62 : Hid (Below V0.heap.size V0 u61) := Lib.hid (by rw [hu61]; exact HU59.out.alloc HU59.out.size _)
                                  have HF63 : Hid (u61.ownsRow V0.heap.size 27 9 (.slice (some ⟨u58.heap.size, 0, none⟩) 0 0) 0 []) := Lib.hid (by rw [hu61]; exact fresh_made HU59.out.size)
                                  have HF64 := Lib.hid (own_below HF60.out (by rw [hu61]; exact (Below.refl _ _).alloc (Nat.le_refl _) _ : Below u58.heap.size u58 u61))
                                  rw [← hu61]
                                  clear hu61
                                  refine ⟨HS0.out _ HU62.out, ?_⟩
                                  try simp only [Act.put, List.setIfInBounds_toArray, List.set_cons_zero, List.set_cons_succ, List.getElem_toArray, List.getElem_cons_zero, List.getElem_cons_succ]
                                  refine plan3_one ?_
                                  refine op_wp rfl (by rfl) ?_
                                  try simp only [List.getElem_toArray, List.getElem_cons_zero, List.getElem_cons_succ]
                                  refine wp_append_sl _ _ 48 rfl V0.heap.size 27 i0 (.agg #[.int .i64 0, .int .i64 0, .int .i64 0, .int .i64 0, .int .i64 0, .int .i64 0, .bool false, .int .u32 0, .int .u32 0]) 9 64 Try.underlying48 HI0.out.1 HI0.out.2.1 HI0.out.2.2.1 HI0.out.2.2.2 rfl (by decide) (.slice (some ⟨u58.heap.size, 0, none⟩) 0 0) 0 [] rfl HF63.out (some ⟨gA, 0, none⟩) k cA (rowsM (M.take k)) rfl HLNA1.out (HSLA.out.below HU62.out) (rowsM_one _) (by unfold maxLen; omega) (by omega) HU62.out.size ?_
                                  intro vu65 u65 g1 g2 g3
                                  have HU66 : Hid (Below V0.heap.size V0 u65) := Lib.hid (HU62.out.grown g2 HU62.out.size (fun g e => (HF63.out.lt g e).1))
                                  have HF67 := Lib.hid g1
                                  have HF68 := Lib.hid (own_keep HF64.out HF63.out (by decide) g2)
                                  clear g1 g2 g3
                                  refine ⟨HS0.out _ HU66.out, ?_⟩
                                  try simp only [Act.put, List.setIfInBounds_toArray, List.set_cons_zero, List.set_cons_succ]
                                  refine plan3_one ?_
                                  refine op_wp rfl (by rfl) ?_
                                  try simp only [List.getElem_toArray, List.getElem_cons_zero, List.getElem_cons_succ]
                                  refine wp_append_sl _ _ 48 rfl V0.heap.size 27 i0 (.agg #[.int .i64 0, .int .i64 0, .int .i64 0, .int .i64 0, .int .i64 0, .int .i64 0, .bool false, .int .u32 0, .int .u32 0]) 9 64 Try.underlying48 HI0.out.1 HI0.out.2.1 HI0.out.2.2.1 HI0.out.2.2.2 rfl (by decide) vu65 (0 + k) ([] ++ (rowsM (M.take k))) rfl HF67.out (some ⟨gA, oA, none⟩) (s - (k + 1)) (cA - (k + 1)) (rowsM (M.drop (k + 1))) rfl HLNA2.out (HSHA.out.below HU66.out) (rowsM_one _) (by unfold maxLen; omega) (by omega) HU66.out.size ?_
                                  intro vu69 u69 g1 g2 g3
                                  have HU70 : Hid (Below V0.heap.size V0 u69) := Lib.hid (HU66.out.grown g2 HU66.out.size (fun g e => (HF67.out.lt g e).1))
                                  have HF71 := Lib.hid g1
                                  have HF72 := Lib.hid (own_keep HF68.out HF67.out (by decide) g2)
                                  clear g1 g2 g3
                                  refine ⟨HS0.out _ HU70.out, ?_⟩
                                  try simp only [Act.put, List.setIfInBounds_toArray, List.set_cons_zero, List.set_cons_succ]
                                  refine plan3_one ?_
                                  refine op_wp rfl (by rfl) ?_
                                  try simp only [List.getElem_toArray, List.getElem_cons_zero, List.getElem_cons_succ]
                                  refine wp_append_sl _ _ 49 rfl V0.heap.size 53 i3 (.agg #[.int .u8 0, .int .u8 0, .int .u8 0, .int .u8 0, .int .u8 0, .int .u8 0, .int .u8 0, .int .u8 0, .int .u8 0, .int .u8 0, .int .u8 0, .int .u8 0, .int .u8 0, .int .u8 0, .int .u8 0, .int .u8 0, .int .u8 0, .int .u8 0, .int .u8 0]) 19 19 Try.underlying49 HI3.out.1 HI3.out.2.1 HI3.out.2.2.1 HI3.out.2.2.2 rfl (by decide) (.slice (some ⟨V0.drew.heap.size, 0, none⟩) 0 0) 0 [] rfl HF72.out (some ⟨gB, 0, none⟩) k cB (rowsZ (Z.take k)) rfl HLNB1.out (HSLB.out.below HU70.out) (rowsZ_one _) (by unfold maxLen; omega) (by omega) HU70.out.size ?_
                                  intro vu73 u73 g1 g2 g3
                                  have HU74 : Hid (Below V0.heap.size V0 u73) := Lib.hid (HU70.out.grown g2 HU70.out.size (fun g e => (HF72.out.lt g e).1))
                                  have HF75 := Lib.hid g1
                                  have HF76 := Lib.hid (own_keep HF71.out HF72.out (by decide) g2)
                                  clear g1 g2 g3
                                  refine ⟨HS0.out _ HU74.out, ?_⟩
                                  try simp only [Act.put, List.setIfInBounds_toArray, List.set_cons_zero, List.set_cons_succ]
                                  refine plan3_one ?_
                                  refine op_wp rfl (by rfl) ?_
                                  try simp only [List.getElem_toArray, List.getElem_cons_zero, List.getElem_cons_succ]
                                  refine wp_append_sl _ _ 49 rfl V0.heap.size 53 i3 (.agg #[.int .u8 0, .int .u8 0, .int .u8 0, .int .u8 0, .int .u8 0, .int .u8 0, .int .u8 0, .int .u8 0, .int .u8 0, .int .u8 0, .int .u8 0, .int .u8 0, .int .u8 0, .int .u8 0, .int .u8 0, .int .u8 0, .int .u8 0, .int .u8 0, .int .u8 0]) 19 19 Try.underlying49 HI3.out.1 HI3.out.2.1 HI3.out.2.2.1 HI3.out.2.2.2 rfl (by decide) vu73 (0 + k) ([] ++ (rowsZ (Z.take k))) rfl HF75.out (some ⟨gB, oB, none⟩) (s - (k + 1)) (cB - (k + 1)) (rowsZ (Z.drop (k + 1))) rfl HLNB2.out (HSHB.out.below HU74.out) (rowsZ_one _) (by unfold maxLen; omega) (by omega) HU74.out.size ?_
                                  intro vu77 u77 g1 g2 g3
                                  have HU78 : Hid (Below V0.heap.size V0 u77) := Lib.hid (HU74.out.grown g2 HU74.out.size (fun g e => (HF75.out.lt g e).1))
                                  have HF79 := Lib.hid g1
                                  have HF80 := Lib.hid (own_keep HF76.out HF75.out (by decide) g2)
                                  clear g1 g2 g3
                                  refine ⟨HS0.out _ HU78.out, ?_⟩
                                  try simp only [Act.put, List.setIfInBounds_toArray, List.set_cons_zero, List.set_cons_succ]
                                  refine plan3_stop ?_
                                  simp only [List.drop_succ_cons, List.drop_zero]
                                  have kR := (HKR0.out.below HU78.out).c
                                  have fR := (HKR0.out.below HU78.out).f
                                  have lR := (HKR0.out.below HU78.out).lt
                                  go_wp2_with fail
                                  go_meet
                                  case rel =>
                                    obtain ⟨a1, a2, a3, a4, a5⟩ := HLEAF.out _ _ _ HU78.out HF80.out HF79.out
                                    exact ⟨M.eraseIdx k, Z.eraseIdx k, q, cq, ys, d, HKZC.out, HDC.out, a1, a2, a3, a4, a5⟩
              case rest =>
                as_aux_lemma =>
                  obtain ⟨M', Z', q, cq, ys, d, hkz, hdl, h4, h5, hkr, hq, hw⟩ := hcut
                  clear HKA HK7 HPA HO4A HO5A HELA HZLA HWA HKZ HSL HRA HKK HROW HMN h5e h5t
                  have HKZC := Lib.hid hkz
                  have HDC := Lib.hid hdl
                  have HO4f := Lib.hid h4
                  have HO5f := Lib.hid h5
                  have HKRf := Lib.hid hkr
                  have HQf := Lib.hid hq
                  have HWf := Lib.hid hw
                  obtain ⟨p4, c4, rfl, _⟩ := own_cap h4
                  clear h4 h5 hkr hq hw hkz hdl
                  obtain ⟨V, hV⟩ : ∃ V, V = wc := ⟨_, rfl⟩
                  rw [← hV] at HO4f HO5f HKRf HQf HWf ⊢
                  clear hV
                  have kR := HKRf.out.c
                  have hc := pright_any q (d) cq ys (mixS M' Z') V (by rw [HKZC.out.mlen, ← HDC.out]) HQf.out
                  rw [HKZC.out.right] at hc
                  go_wp2_with fail
                  refine hc.mono ?_
                  clear hc kR
                  rintro e v ⟨rfl, hb⟩
                  have HTB := Lib.hid hb
                  clear hb
                  go_wp2_with fail
                  go_roundw
                  case rel =>
                    refine ⟨j + 1, by omega, by go_num, ⟨M', Z', q, cq, ys, HKZC.out, ?_⟩, HWf.out.trans (HTB.out.mono HWf.out.size)⟩
                    rw [← HDC.out]
                    exact ⟨HKRf.out.below HTB.out, HQf.out.below HTB.out, own_below HO4f.out HTB.out, own_below HO5f.out HTB.out⟩
                  case measure => simp [intOf]; omega
          · as_aux_lemma =>
              have h5e : ((xd : Int) % 5) = 2 := by omega
              have h5t : Int.tmod (xd : Int) 5 = 2 := by rw [Int.tmod_eq_emod_of_nonneg (by omega)]; exact h5e
              clear h5 HD5
              go_upto_block 2 with fail
              go_cut [4, 5] (fun s4 s5 wd => ∃ M' Z' q cq ys d, Kept2 M' Z' ∧ d = M'.length ∧ wd.ownsRow (R + 1) 27 9 s4 d (rowsM M') ∧ wd.ownsRow (R + 1) 53 19 s5 d (rowsZ Z') ∧ Blk wd R #[.slice q d cq] ∧ Pl wd q ys (mixS M' Z') ∧ Below w.heap.size w wd)
              case first =>
                as_aux_lemma =>
                  obtain ⟨D, hD⟩ : ∃ D, D = dropP (mixS M Z) (k : Int) := ⟨_, rfl⟩
                  obtain ⟨E, hE⟩ : ∃ E, E = checkP (mixS M Z) (k : Int) := ⟨_, rfl⟩
                  obtain ⟨d, hd⟩ : ∃ d, d = D.length := ⟨_, rfl⟩
                  have hc := drop_any p s cp xs (mixS M Z) (k : Int) wc (by rw [HKZ.out.mlen, HSL.out]) HPA.out
                  rw [← hD, ← hE, ← hd] at hc
                  have HD := Lib.hid hD
                  have HEQ := Lib.hid hE
                  have HDL := Lib.hid hd
                  clear hD hE hd
                  have kR := HKA.out.c
                  have k7 := HK7.out.c
                  go_upto_region 47 with fail
                  go_wp2_with fail
                  refine hc.mono ?_
                  clear hc kR k7 h5e h5t
                  rintro e w2 ⟨q, cq, ys, rfl, ho⟩
                  obtain ⟨W2, hW2⟩ : ∃ W, W = w2.alloc (.cells #[.slice q d cq] 24) := ⟨_, rfl⟩
                  have HB2 : Hid (Below wc.heap.size wc W2) := Lib.hid (by rw [hW2]; exact ho.below.alloc ho.below.size _)
                  have HQ0 : Hid (Pl W2 q ys D) := Lib.hid (by rw [hW2]; exact ho.pl.below ((Below.refl _ _).alloc (Nat.le_refl _) _))
                  have HQO : Hid (Off (fun b => b < wc.heap.size) q ys D) := Lib.hid ho.off
                  have HK0 : Hid (Blk W2 w2.heap.size #[.slice q d cq]) := Lib.hid (by rw [hW2]; exact Blk.new _ _ _)
                  obtain ⟨B9, hB9⟩ : ∃ B, B = w2.heap.size := ⟨_, rfl⟩
                  rw [← hB9] at HK0
                  clear ho
                  go_upto_region 48 with fail
                  rw [← hW2]
                  try rw [← hB9]
                  clear hW2 hB9
                  obtain ⟨V0, hV0⟩ : ∃ V, V = W2 := ⟨_, rfl⟩
                  rw [← hV0] at HB2 HQ0 HK0 ⊢
                  clear hV0
                  have HKR0 := Lib.hid (HKA.out.below HB2.out)
                  have HP0 := Lib.hid (HPA.out.below HB2.out)
                  have HO40 := Lib.hid (own_below HO4A.out HB2.out)
                  have HO50 := Lib.hid (own_below HO5A.out HB2.out)
                  have HW0 : Hid (Below w.heap.size w V0) := Lib.hid (HWA.out.trans (HB2.out.mono HWA.out.size))
                  clear HKA HK7 HPA HO4A HO5A HELA HZLA HWA HB2
                  by_cases hs0 : s = 0
                  · as_aux_lemma =>
                      have d0 : ¬ 0 < s := by omega
                      have d1 : decide (0 < s) = false := decide_eq_false d0
                      have hE7 : E = 7 := by rw [HEQ.out, keep_none HKZ.out (by rw [← HSL.out]; exact hs0)]
                      subst hE7
                      have HS0 := Lib.hid hs0
                      clear hs0 HEQ HD HDL
                      go_wp2_with fail
                      go_meet
                      case rel => exact ⟨M, Z, p, cp, xs, s, HKZ.out, HSL.out, HO40.out, HO50.out, HKR0.out, HP0.out, HW0.out⟩
                  · as_aux_lemma =>
                      have d0 : 0 < s := by omega
                      have d1 : decide (0 < s) = true := decide_eq_true d0
                      have hkk : k < s := by
                        have := HKK.out
                        rw [if_neg hs0] at this
                        rw [this]
                        exact Nat.mod_lt _ d0
                      have hkM : k < M.length := by rw [← HSL.out]; exact hkk
                      have hE0 : E = 0 := by rw [HEQ.out, keep_check HKZ.out hkM]
                      have hDD : D = mixS (M.eraseIdx k) (Z.eraseIdx k) := by rw [HD.out, keep_drop HKZ.out hkM]
                      have HKZC : Hid (Kept2 (M.eraseIdx k) (Z.eraseIdx k)) := Lib.hid (HKZ.out.cut k hkM)
                      have HDC : Hid (d = (M.eraseIdx k).length) := Lib.hid (by rw [HDL.out, hDD, HKZC.out.mlen])
                      have HDN : Hid (d = s - 1) := Lib.hid (by rw [HDC.out, List.length_eraseIdx, if_pos hkM, ← HSL.out])
                      subst hE0
                      have HDD := Lib.hid hDD
                      clear hDD HEQ HD HDL hs0
                      obtain ⟨gA, e4, _, _, _, _⟩ := own_go HO40.out (by omega)
                      obtain ⟨gB, e5, _, _, _, _⟩ := own_go HO50.out (by omega)
                      subst e4 e5
                      obtain ⟨cA, hcA⟩ : ∃ c, c = cv := ⟨_, rfl⟩
                      obtain ⟨cB, hcB⟩ : ∃ c, c = cz := ⟨_, rfl⟩
                      subst hcA hcB
                      obtain ⟨oA, hoA⟩ : ∃ o, o = if cA = k + 1 then 0 else (k + 1) * 9 := ⟨_, rfl⟩
                      obtain ⟨oB, hoB⟩ : ∃ o, o = if cB = k + 1 then 0 else (k + 1) * 19 := ⟨_, rfl⟩
                      have hpA := own_parts HO40.out HSL.out k hkk
                      have hpB := own_partsZ HKZ.out.zed HO50.out (by rw [HKZ.out.len]; exact HSL.out) k hkk
                      rw [← hoA] at hpA
                      rw [← hoB] at hpB
                      have HSLA := Lib.hid hpA.1
                      have HSHA := Lib.hid hpA.2
                      have HSLB := Lib.hid hpB.1
                      have HSHB := Lib.hid hpB.2
                      have HLNA1 : Hid ((rowsM (M.take k)).length = k * 9) := Lib.hid (by rw [rowsM_len, List.length_take, ← HSL.out, Nat.min_eq_left (Nat.le_of_lt hkk)])
                      have HLNA2 : Hid ((rowsM (M.drop (k + 1))).length = (s - (k + 1)) * 9) := Lib.hid (by rw [rowsM_len, List.length_drop, ← HSL.out])
                      have HLNB1 : Hid ((rowsZ (Z.take k)).length = k * 19) := Lib.hid (by rw [rowsZ_len (fun z h => HKZ.out.zed z (List.mem_of_mem_take h)), List.length_take, HKZ.out.len, ← HSL.out, Nat.min_eq_left (Nat.le_of_lt hkk)])
                      have HLNB2 : Hid ((rowsZ (Z.drop (k + 1))).length = (s - (k + 1)) * 19) := Lib.hid (by rw [rowsZ_len (fun z h => HKZ.out.zed z (List.mem_of_mem_drop h)), List.length_drop, HKZ.out.len, ← HSL.out])
                      obtain ⟨_, _, eA, hcapA⟩ := own_cap HO40.out
                      obtain ⟨_, _, eB, hcapB⟩ := own_cap HO50.out
                      injection eA with _ _ eA
                      injection eB with _ _ eB
                      subst eA eB
                      have HCA : Hid (k ≤ cA ∧ 0 < cA) := Lib.hid ⟨by omega, by omega⟩
                      have HCB : Hid (k ≤ cB ∧ 0 < cB) := Lib.hid ⟨by omega, by omega⟩
                      have HOEA := Lib.hid hoA
                      have HOEB := Lib.hid hoB
                      clear hpA hpB hoA hoB hcapA hcapB
                      have HS0 : Hid (∀ W, Below V0.heap.size V0 W → W.cell? ⟨B9, 0, none⟩ = some (.slice q d cq)) := Lib.hid (fun W hb => (hb.cell (p := ⟨B9, 0, none⟩) HK0.out.lt).trans (HK0.out.c 0))
                      have HLEAF : Hid (∀ U v4 v5, Below V0.heap.size V0 U → U.ownsRow V0.heap.size 27 9 v4 ((0 + k) + (s - (k + 1))) (([] ++ rowsM (M.take k)) ++ rowsM (M.drop (k + 1))) → U.ownsRow V0.heap.size 53 19 v5 ((0 + k) + (s - (k + 1))) (([] ++ rowsZ (Z.take k)) ++ rowsZ (Z.drop (k + 1))) → ((U.setCell ⟨R, 0, none⟩ (.slice q d cq)).ownsRow (R + 1) 27 9 v4 d (rowsM (M.eraseIdx k)) ∧ (U.setCell ⟨R, 0, none⟩ (.slice q d cq)).ownsRow (R + 1) 53 19 v5 d (rowsZ (Z.eraseIdx k)) ∧ Blk (U.setCell ⟨R, 0, none⟩ (.slice q d cq)) R #[.slice q d cq] ∧ Pl (U.setCell ⟨R, 0, none⟩ (.slice q d cq)) q ys (mixS (M.eraseIdx k) (Z.eraseIdx k)) ∧ Below w.heap.size w (U.setCell ⟨R, 0, none⟩ (.slice q d cq)))) := Lib.hid (fun U v4 v5 hb h4 h5 => by
                        have hdd : (0 + k) + (s - (k + 1)) = d := by rw [HDN.out]; omega
                        have hRV : R + 1 ≤ V0.heap.size := HKR0.out.lt
                        rw [hdd, List.nil_append, ← rowsM_cut] at h4
                        rw [hdd, List.nil_append, ← rowsZ_cut] at h5
                        refine ⟨own_off (own_mono h4 hRV) (Nat.lt_succ_self R) 0 _, own_off (own_mono h5 hRV) (Nat.lt_succ_self R) 0 _, (HKR0.out.below hb).set (n := 0) _ (by simp), ?_, ((HW0.out.trans (hb.mono HW0.out.size)).setCell (p := ⟨R, 0, none⟩) (by show w.heap.size ≤ R; exact HS1.out) _)⟩
                        rw [← HDD.out]
                        exact (HQ0.out.below hb).set (R := R) (HQO.out.sub (fun b e => by have := HRA.out; omega)) 0 _)
                      have hkI : (0 : Int) ≤ (k : Int) := by omega
                      have wk1 : IntKind.i64.wrap ((k : Int) + 1) = (k : Int) + 1 := by simp [IntKind.wrap, IntKind.bits, IntKind.signed]; omega
                      clear HO40 HO50 HK0
                      go_upto_region 51 with fail
                      refine region_plan3 (fun w' : World => w'.cell? ⟨B9, 0, none⟩ = some (.slice q d cq)) 21 (.read 0 (.read 2 (.read 3 (.read 4 (.read 6 (.read 7 (.read 8 (.read 9 (.read 12 (.read 13 (.read 14 (.read 16 (.read 17 (.read 18 (.read 19 (.two 1 11 (.two 5 11 (.two 10 11 (.one 11 (.one 15 (.one 20 .stop))) (.one 10 (.one 15 (.one 20 .stop)))) (.one 5 (.one 10 (.one 15 (.one 20 .stop))))) (.one 1 (.one 5 (.one 10 (.one 15 (.one 20 .stop))))))))))))))))))))) (by kernel_rfl) (by kernel_rfl) (HS0.out _ (Below.refl _ _).drew) ?_
                      iterate 3
                        refine plan3_read (v := ?_) rfl (by rfl) ?_ ?_
                        rotate_left
                        · intro w' hS
                          try dsimp only at hS
                          go_simp
                          try with_reducible rfl
                        try simp only [Act.put, List.setIfInBounds_toArray, List.set_cons_zero, List.set_cons_succ, List.getElem_toArray, List.getElem_cons_zero, List.getElem_cons_succ]
                      refine plan3_read (v := .slice (some ⟨gA, 0, none⟩) k cA) rfl (by rfl) (fun w' hS => cutlo48_run _ w' _ _ _ _ _ _ _ gA s cA k HCA.out.1 HCA.out.2 (by go_simp) (by go_simp)) ?_
                      try simp only [Act.put, List.setIfInBounds_toArray, List.set_cons_zero, List.set_cons_succ, List.getElem_toArray, List.getElem_cons_zero, List.getElem_cons_succ]
                      iterate 3
                        refine plan3_read (v := ?_) rfl (by rfl) ?_ ?_
                        rotate_left
                        · intro w' hS
                          try dsimp only at hS
                          go_simp
                          try with_reducible rfl
                        try simp only [Act.put, List.setIfInBounds_toArray, List.set_cons_zero, List.set_cons_succ, List.getElem_toArray, List.getElem_cons_zero, List.getElem_cons_succ]
                      refine plan3_read (v := .slice (some ⟨gA, oA, none⟩) (s - (k + 1)) (cA - (k + 1))) rfl (by rfl) (fun w' hS => by rw [HOEA.out]; exact cuthi48_run _ w' _ _ _ _ _ _ _ gA s cA k (by omega) (by go_simp) (by go_simp)) ?_
                      try simp only [Act.put, List.setIfInBounds_toArray, List.set_cons_zero, List.set_cons_succ, List.getElem_toArray, List.getElem_cons_zero, List.getElem_cons_succ]
                      iterate 2
                        refine plan3_read (v := ?_) rfl (by rfl) ?_ ?_
                        rotate_left
                        · intro w' hS
                          try dsimp only at hS
                          go_simp
                          try with_reducible rfl
                        try simp only [Act.put, List.setIfInBounds_toArray, List.set_cons_zero, List.set_cons_succ, List.getElem_toArray, List.getElem_cons_zero, List.getElem_cons_succ]
                      refine plan3_read (v := .slice (some ⟨gB, 0, none⟩) k cB) rfl (by rfl) (fun w' hS => cutlo49_run _ w' _ _ _ _ _ _ _ gB s cB k HCB.out.1 HCB.out.2 (by go_simp) (by go_simp)) ?_
                      try simp only [Act.put, List.setIfInBounds_toArray, List.set_cons_zero, List.set_cons_succ, List.getElem_toArray, List.getElem_cons_zero, List.getElem_cons_succ]
                      iterate 3
                        refine plan3_read (v := ?_) rfl (by rfl) ?_ ?_
                        rotate_left
                        · intro w' hS
                          try dsimp only at hS
                          go_simp
                          try with_reducible rfl
                        try simp only [Act.put, List.setIfInBounds_toArray, List.set_cons_zero, List.set_cons_succ, List.getElem_toArray, List.getElem_cons_zero, List.getElem_cons_succ]
                      refine plan3_read (v := .slice (some ⟨gB, oB, none⟩) (s - (k + 1)) (cB - (k + 1))) rfl (by rfl) (fun w' hS => by rw [HOEB.out]; exact cuthi49_run _ w' _ _ _ _ _ _ _ gB s cB k (by omega) (by go_simp) (by go_simp)) ?_
                      try simp only [Act.put, List.setIfInBounds_toArray, List.set_cons_zero, List.set_cons_succ, List.getElem_toArray, List.getElem_cons_zero, List.getElem_cons_succ]
                      have HUZ : Hid (Below V0.heap.size V0 V0.drew) := Lib.hid (Below.refl _ _).drew
                      refine plan3_two ?_ ?_
                      · as_aux_lemma =>
                          refine op_make (v := .slice (some ⟨V0.drew.heap.size, 0, none⟩) 0 0) (w1 := V0.drew.alloc (.cells #[] 27)) rfl (by rfl) (build480_run _ _ _ _ _ _ _) ?_
                          obtain ⟨u1, hu1⟩ : ∃ u, u = V0.drew.alloc (.cells #[] 27) := ⟨_, rfl⟩
                          have HU2 : Hid (Below V0.heap.size V0 u1) := Lib.hid (by rw [hu1]; exact HUZ.out.alloc HUZ.out.size _)
                          have HF3 : Hid (u1.ownsRow V0.heap.size 27 9 (.slice (some ⟨V0.drew.heap.size, 0, none⟩) 0 0) 0 []) := Lib.hid (by rw [hu1]; exact fresh_made HUZ.out.size)
                          rw [← hu1]
                          clear hu1
                          refine ⟨HS0.out _ HU2.out, ?_⟩
                          try simp only [Act.put, List.setIfInBounds_toArray, List.set_cons_zero, List.set_cons_succ, List.getElem_toArray, List.getElem_cons_zero, List.getElem_cons_succ]
                          refine plan3_two ?_ ?_
                          · as_aux_lemma =>
                              refine op_wp rfl (by rfl) ?_
                              try simp only [List.getElem_toArray, List.getElem_cons_zero, List.getElem_cons_succ]
                              refine wp_append_sl _ _ 48 rfl V0.heap.size 27 i0 (.agg #[.int .i64 0, .int .i64 0, .int .i64 0, .int .i64 0, .int .i64 0, .int .i64 0, .bool false, .int .u32 0, .int .u32 0]) 9 64 Try.underlying48 HI0.out.1 HI0.out.2.1 HI0.out.2.2.1 HI0.out.2.2.2 rfl (by decide) (.slice (some ⟨V0.drew.heap.size, 0, none⟩) 0 0) 0 [] rfl HF3.out (some ⟨gA, 0, none⟩) k cA (rowsM (M.take k)) rfl HLNA1.out (HSLA.out.below HU2.out) (rowsM_one _) (by unfold maxLen; omega) (by omega) HU2.out.size ?_
                              intro vu4 u4 g1 g2 g3
                              have HU5 : Hid (Below V0.heap.size V0 u4) := Lib.hid (HU2.out.grown g2 HU2.out.size (fun g e => (HF3.out.lt g e).1))
                              have HF6 := Lib.hid g1
                              clear g1 g2 g3
                              refine ⟨HS0.out _ HU5.out, ?_⟩
                              try simp only [Act.put, List.setIfInBounds_toArray, List.set_cons_zero, List.set_cons_succ]
                              refine plan3_two ?_ ?_
                              · as_aux_lemma =>
                                  refine op_wp rfl (by rfl) ?_
                                  try simp only [List.getElem_toArray, List.getElem_cons_zero, List.getElem_cons_succ]
                                  refine wp_append_sl _ _ 48 rfl V0.heap.size 27 i0 (.agg #[.int .i64 0, .int .i64 0, .int .i64 0, .int .i64 0, .int .i64 0, .int .i64 0, .bool false, .int .u32 0, .int .u32 0]) 9 64 Try.underlying48 HI0.out.1 HI0.out.2.1 HI0.out.2.2.1 HI0.out.2.2.2 rfl (by decide) vu4 (0 + k) ([] ++ (rowsM (M.take k))) rfl HF6.out (some ⟨gA, oA, none⟩) (s - (k + 1)) (cA - (k + 1)) (rowsM (M.drop (k + 1))) rfl HLNA2.out (HSHA.out.below HU5.out) (rowsM_one _) (by unfold maxLen; omega) (by omega) HU5.out.size ?_
                                  intro vu7 u7 g1 g2 g3
                                  have HU8 : Hid (Below V0.heap.size V0 u7) := Lib.hid (HU5.out.grown g2 HU5.out.size (fun g e => (HF6.out.lt g e).1))
                                  have HF9 := Lib.hid g1
                                  clear g1 g2 g3
                                  refine ⟨HS0.out _ HU8.out, ?_⟩
                                  try simp only [Act.put, List.setIfInBounds_toArray, List.set_cons_zero, List.set_cons_succ]
                                  refine plan3_one ?_
                                  refine op_make (v := .slice (some ⟨u7.heap.size, 0, none⟩) 0 0) (w1 := u7.alloc (.cells #[] 53)) rfl (by rfl) (build490_run _ _ _ _ _ _ _) ?_
                                  obtain ⟨u10, hu10⟩ : ∃ u, u = u7.alloc (.cells #[] 53) := ⟨_, rfl⟩
                                  have HU11 : Hid (Below V0.heap.size V0 u10) := Lib.hid (by rw [hu10]; exact HU8.out.alloc HU8.out.size _)
                                  have HF12 : Hid (u10.ownsRow V0.heap.size 53 19 (.slice (some ⟨u7.heap.size, 0, none⟩) 0 0) 0 []) := Lib.hid (by rw [hu10]; exact fresh_made HU8.out.size)
                                  have HF13 := Lib.hid (own_below HF9.out (by rw [hu10]; exact (Below.refl _ _).alloc (Nat.le_refl _) _ : Below u7.heap.size u7 u10))
                                  rw [← hu10]
                                  clear hu10
                                  refine ⟨HS0.out _ HU11.out, ?_⟩
                                  try simp only [Act.put, List.setIfInBounds_toArray, List.set_cons_zero, List.set_cons_succ, List.getElem_toArray, List.getElem_cons_zero, List.getElem_cons_succ]
                                  refine plan3_one ?_
                                  refine op_wp rfl (by rfl) ?_
                                  try simp only [List.getElem_toArray, List.getElem_cons_zero, List.getElem_cons_succ]
                                  refine wp_append_sl _ _ 49 rfl V0.heap.size 53 i3 (.agg #[.int .u8 0, .int .u8 0, .int .u8 0, .int .u8 0, .int .u8 0, .int .u8 0, .int .u8 0, .int .u8 0, .int .u8 0, .int .u8 0, .int .u8 0, .int .u8 0, .int .u8 0, .int .u8 0, .int .u8 0, .int .u8 0, .int .u8 0, .int .u8 0, .int .u8 0]) 19 19 Try.underlying49 HI3.out.1 HI3.out.2.1 HI3.out.2.2.1 HI3.out.2.2.2 rfl (by decide) (.slice (some ⟨u7.heap.size, 0, none⟩) 0 0) 0 [] rfl HF12.out (some ⟨gB, 0, none⟩) k cB (rowsZ (Z.take k)) rfl HLNB1.out (HSLB.out.below HU11.out) (rowsZ_one _) (by unfold maxLen; omega) (by omega) HU11.out.size ?_
                                  intro vu14 u14 g1 g2 g3
                                  have HU15 : Hid (Below V0.heap.size V0 u14) := Lib.hid (HU11.out.grown g2 HU11.out.size (fun g e => (HF12.out.lt g e).1))
                                  have HF16 := Lib.hid g1
                                  have HF17 := Lib.hid (own_keep HF13.out HF12.out (by decide) g2)
                                  clear g1 g2 g3
                                  refine ⟨HS0.out _ HU15.out, ?_⟩
                                  try simp only [Act.put, List.setIfInBounds_toArray, List.set_cons_zero, List.set_cons_succ]
                                  refine plan3_one ?_
                                  refine op_wp rfl (by rfl) ?_
                                  try simp only [List.getElem_toArray, List.getElem_cons_zero, List.getElem_cons_succ]
                                  refine wp_append_sl _ _ 49 rfl V0.heap.size 53 i3 (.agg #[.int .u8 0, .int .u8 0, .int .u8 0, .int .u8 0, .int .u8 0, .int .u8 0, .int .u8 0, .int .u8 0, .int .u8 0, .int .u8 0, .int .u8 0, .int .u8 0, .int .u8 0, .int .u8 0, .int .u8 0, .int .u8 0, .int .u8 0, .int .u8 0, .int .u8 0]) 19 19 Try.underlying49 HI3.out.1 HI3.out.2.1 HI3.out.2.2.1 HI3.out.2.2.2 rfl (by decide) vu14 (0 + k) ([] ++ (rowsZ (Z.take k))) rfl HF16.out (some ⟨gB, oB, none⟩) (s - (k + 1)) (cB - (k + 1)) (rowsZ (Z.drop (k + 1))) rfl HLNB2.out (HSHB.out.below HU15.out) (rowsZ_one _) (by unfold maxLen; omega) (by omega) HU15.out.size ?_
                                  intro vu18 u18 g1 g2 g3
                                  have HU19 : Hid (Below V0.heap.size V0 u18) := Lib.hid (HU15.out.grown g2 HU15.out.size (fun g e => (HF16.out.lt g e).1))
                                  have HF20 := Lib.hid g1
                                  have HF21 := Lib.hid (own_keep HF17.out HF16.out (by decide) g2)
                                  clear g1 g2 g3
                                  refine ⟨HS0.out _ HU19.out, ?_⟩
                                  try simp only [Act.put, List.setIfInBounds_toArray, List.set_cons_zero, List.set_cons_succ]
                                  refine plan3_stop ?_
                                  simp only [List.drop_succ_cons, List.drop_zero]
                                  have kR := (HKR0.out.below HU19.out).c
                                  have fR := (HKR0.out.below HU19.out).f
                                  have lR := (HKR0.out.below HU19.out).lt
                                  go_wp2_with fail
                                  go_meet
                                  case rel =>
                                    obtain ⟨a1, a2, a3, a4, a5⟩ := HLEAF.out _ _ _ HU19.out HF21.out HF20.out
                                    exact ⟨M.eraseIdx k, Z.eraseIdx k, q, cq, ys, d, HKZC.out, HDC.out, a1, a2, a3, a4, a5⟩
                              · as_aux_lemma =>
                                  refine op_make (v := .slice (some ⟨u4.heap.size, 0, none⟩) 0 0) (w1 := u4.alloc (.cells #[] 53)) rfl (by rfl) (build490_run _ _ _ _ _ _ _) ?_
                                  obtain ⟨u22, hu22⟩ : ∃ u, u = u4.alloc (.cells #[] 53) := ⟨_, rfl⟩
                                  have HU23 : Hid (Below V0.heap.size V0 u22) := Lib.hid (by rw [hu22]; exact HU5.out.alloc HU5.out.size _)
                                  have HF24 : Hid (u22.ownsRow V0.heap.size 53 19 (.slice (some ⟨u4.heap.size, 0, none⟩) 0 0) 0 []) := Lib.hid (by rw [hu22]; exact fresh_made HU5.out.size)
                                  have HF25 := Lib.hid (own_below HF6.out (by rw [hu22]; exact (Below.refl _ _).alloc (Nat.le_refl _) _ : Below u4.heap.size u4 u22))
                                  rw [← hu22]
                                  clear hu22
                                  refine ⟨HS0.out _ HU23.out, ?_⟩
                                  try simp only [Act.put, List.setIfInBounds_toArray, List.set_cons_zero, List.set_cons_succ, List.getElem_toArray, List.getElem_cons_zero, List.getElem_cons_succ]
                                  refine plan3_one ?_
                                  refine op_wp rfl (by rfl) ?_
                                  try simp only [List.getElem_toArray, List.getElem_cons_zero, List.getElem_cons_succ]
                                  refine wp_append_sl _ _ 48 rfl V0.heap.size 27 i0 (.agg #[.int .i64 0, .int .i64 0, .int .i64 0, .int .i64 0, .int .i64 0, .int .i64 0, .bool false, .int .u32 0, .int .u32 0]) 9 64 Try.underlying48 HI0.out.1 HI0.out.2.1 HI0.out.2.2.1 HI0.out.2.2.2 rfl (by decide) vu4 (0 + k) ([] ++ (rowsM (M.take k))) rfl HF25.out (some ⟨gA, oA, none⟩) (s - (k + 1)) (cA - (k + 1)) (rowsM (M.drop (k + 1))) rfl HLNA2.out (HSHA.out.below HU23.out) (rowsM_one _) (by unfold maxLen; omega) (by omega) HU23.out.size ?_
                                  intro vu26 u26 g1 g2 g3
                                  have HU27 : Hid (Below V0.heap.size V0 u26) := Lib.hid (HU23.out.grown g2 HU23.out.size (fun g e => (HF25.out.lt g e).1))
                                  have HF28 := Lib.hid g1
                                  have HF29 := Lib.hid (own_keep HF24.out HF25.out (by decide) g2)
                                  clear g1 g2 g3
                                  refine ⟨HS0.out _ HU27.out, ?_⟩
                                  try simp only [Act.put, List.setIfInBounds_toArray, List.set_cons_zero, List.set_cons_succ]
                                  refine plan3_one ?_
                                  refine op_wp rfl (by rfl) ?_
                                  try simp only [List.getElem_toArray, List.getElem_cons_zero, List.getElem_cons_succ]
                                  refine wp_append_sl _ _ 49 rfl V0.heap.size 53 i3 (.agg #[.int .u8 0, .int .u8 0, .int .u8 0, .int .u8 0, .int .u8 0, .int .u8 0, .int .u8 0, .int .u8 0, .int .u8 0, .int .u8 0, .int .u8 0, .int .u8 0, .int .u8 0, .int .u8 0, .int .u8 0, .int .u8 0, .int .u8 0, .int .u8 0, .int .u8 0]) 19 19 Try.underlying49 HI3.out.1 HI3.out.2.1 HI3.out.2.2.1 HI3.out.2.2.2 rfl (by decide) (.slice (some ⟨u4.heap.size, 0, none⟩) 0 0) 0 [] rfl HF29.out (some ⟨gB, 0, none⟩) k cB (rowsZ (Z.take k)) rfl HLNB1.out (HSLB.out.below HU27.out) (rowsZ_one _) (by unfold maxLen; omega) (by omega) HU27.out.size ?_
                                  intro vu30 u30 g1 g2 g3
                                  have HU31 : Hid (Below V0.heap.size V0 u30) := Lib.hid (HU27.out.grown g2 HU27.out.size (fun g e => (HF29.out.lt g e).1))
                                  have HF32 := Lib.hid g1
                                  have HF33 := Lib.hid (own_keep HF28.out HF29.out (by decide) g2)
                                  clear g1 g2 g3
                                  refine ⟨HS0.out _ HU31.out, ?_⟩
                                  try simp only [Act.put, List.setIfInBounds_toArray, List.set_cons_zero, List.set_cons_succ]
                                  refine plan3_one ?_
                                  refine op_wp rfl (by rfl) ?_
                                  try simp only [List.getElem_toArray, List.getElem_cons_zero, List.getElem_cons_succ]
                                  refine wp_append_sl _ _ 49 rfl V0.heap.size 53 i3 (.agg #[.int .u8 0, .int .u8 0, .int .u8 0, .int .u8 0, .int .u8 0, .int .u8 0, .int .u8 0, .int .u8 0, .int .u8 0, .int .u8 0, .int .u8 0, .int .u8 0, .int .u8 0, .int .u8 0, .int .u8 0, .int .u8 0, .int .u8 0, .int .u8 0, .int .u8 0]) 19 19 Try.underlying49 HI3.out.1 HI3.out.2.1 HI3.out.2.2.1 HI3.out.2.2.2 rfl (by decide) vu30 (0 + k) ([] ++ (rowsZ (Z.take k))) rfl HF32.out (some ⟨gB, oB, none⟩) (s - (k + 1)) (cB - (k + 1)) (rowsZ (Z.drop (k + 1))) rfl HLNB2.out (HSHB.out.below HU31.out) (rowsZ_one _) (by unfold maxLen; omega) (by omega) HU31.out.size ?_
                                  intro vu34 u34 g1 g2 g3
                                  have HU35 : Hid (Below V0.heap.size V0 u34) := Lib.hid (HU31.out.grown g2 HU31.out.size (fun g e => (HF32.out.lt g e).1))
                                  have HF36 := Lib.hid g1
                                  have HF37 := Lib.hid (own_keep HF33.out HF32.out (by decide) g2)
                                  clear g1 g2 g3
                                  refine ⟨HS0.out _ HU35.out, ?_⟩
                                  try simp only [Act.put, List.setIfInBounds_toArray, List.set_cons_zero, List.set_cons_succ]
                                  refine plan3_stop ?_
                                  simp only [List.drop_succ_cons, List.drop_zero]
                                  have kR := (HKR0.out.below HU35.out).c
                                  have fR := (HKR0.out.below HU35.out).f
                                  have lR := (HKR0.out.below HU35.out).lt
                                  go_wp2_with fail
                                  go_meet
                                  case rel =>
                                    obtain ⟨a1, a2, a3, a4, a5⟩ := HLEAF.out _ _ _ HU35.out HF37.out HF36.out
                                    exact ⟨M.eraseIdx k, Z.eraseIdx k, q, cq, ys, d, HKZC.out, HDC.out, a1, a2, a3, a4, a5⟩
                          · as_aux_lemma =>
                              refine op_make (v := .slice (some ⟨u1.heap.size, 0, none⟩) 0 0) (w1 := u1.alloc (.cells #[] 53)) rfl (by rfl) (build490_run _ _ _ _ _ _ _) ?_
                              obtain ⟨u38, hu38⟩ : ∃ u, u = u1.alloc (.cells #[] 53) := ⟨_, rfl⟩
                              have HU39 : Hid (Below V0.heap.size V0 u38) := Lib.hid (by rw [hu38]; exact HU2.out.alloc HU2.out.size _)
                              have HF40 : Hid (u38.ownsRow V0.heap.size 53 19 (.slice (some ⟨u1.heap.size, 0, none⟩) 0 0) 0 []) := Lib.hid (by rw [hu38]; exact fresh_made HU2.out.size)
                              have HF41 := Lib.hid (own_below HF3.out (by rw [hu38]; exact (Below.refl _ _).alloc (Nat.le_refl _) _ : Below u1.heap.size u1 u38))
                              rw [← hu38]
                              clear hu38
                              refine ⟨HS0.out _ HU39.out, ?_⟩
                              try simp only [Act.put, List.setIfInBounds_toArray, List.set_cons_zero, List.set_cons_succ, List.getElem_toArray, List.getElem_cons_zero, List.getElem_cons_succ]
                              refine plan3_one ?_
                              refine op_wp rfl (by rfl) ?_
                              try simp only [List.getElem_toArray, List.getElem_cons_zero, List.getElem_cons_succ]
                              refine wp_append_sl _ _ 48 rfl V0.heap.size 27 i0 (.agg #[.int .i64 0, .int .i64 0, .int .i64 0, .int .i64 0, .int .i64 0, .int .i64 0, .bool false, .int .u32 0, .int .u32 0]) 9 64 Try.underlying48 HI0.out.1 HI0.out.2.1 HI0.out.2.2.1 HI0.out.2.2.2 rfl (by decide) (.slice (some ⟨V0.drew.heap.size, 0, none⟩) 0 0) 0 [] rfl HF41.out (some ⟨gA, 0, none⟩) k cA (rowsM (M.take k)) rfl HLNA1.out (HSLA.out.below HU39.out) (rowsM_one _) (by unfold maxLen; omega) (by omega) HU39.out.size ?_
                              intro vu42 u42 g1 g2 g3
                              have HU43 : Hid (Below V0.heap.size V0 u42) := Lib.hid (HU39.out.grown g2 HU39.out.size (fun g e => (HF41.out.lt g e).1))
                              have HF44 := Lib.hid g1
                              have HF45 := Lib.hid (own_keep HF40.out HF41.out (by decide) g2)
                              clear g1 g2 g3
                              refine ⟨HS0.out _ HU43.out, ?_⟩
                              try simp only [Act.put, List.setIfInBounds_toArray, List.set_cons_zero, List.set_cons_succ]
                              refine plan3_one ?_
                              refine op_wp rfl (by rfl) ?_
                              try simp only [List.getElem_toArray, List.getElem_cons_zero, List.getElem_cons_succ]
                              refine wp_append_sl _ _ 48 rfl V0.heap.size 27 i0 (.agg #[.int .i64 0, .int .i64 0, .int .i64 0, .int .i64 0, .int .i64 0, .int .i64 0, .bool false, .int .u32 0, .int .u32 0]) 9 64 Try.underlying48 HI0.out.1 HI0.out.2.1 HI0.out.2.2.1 HI0.out.2.2.2 rfl (by decide) vu42 (0 + k) ([] ++ (rowsM (M.take k))) rfl HF44.out (some ⟨gA, oA, none⟩) (s - (k + 1)) (cA - (k + 1)) (rowsM (M.drop (k + 1))) rfl HLNA2.out (HSHA.out.below HU43.out) (rowsM_one _) (by unfold maxLen; omega) (by omega) HU43.out.size ?_
                              intro vu46 u46 g1 g2 g3
                              have HU47 : Hid (Below V0.heap.size V0 u46) := Lib.hid (HU43.out.grown g2 HU43.out.size (fun g e => (HF44.out.lt g e).1))
                              have HF48 := Lib.hid g1
                              have HF49 := Lib.hid (own_keep HF45.out HF44.out (by decide) g2)
                              clear g1 g2 g3
                              refine ⟨HS0.out _ HU47.out, ?_⟩
                              try simp only [Act.put, List.setIfInBounds_toArray, List.set_cons_zero, List.set_cons_succ]
                              refine plan3_one ?_
                              refine op_wp rfl (by rfl) ?_
                              try simp only [List.getElem_toArray, List.getElem_cons_zero, List.getElem_cons_succ]
                              refine wp_append_sl _ _ 49 rfl V0.heap.size 53 i3 (.agg #[.int .u8 0, .int .u8 0, .int .u8 0, .int .u8 0, .int .u8 0, .int .u8 0, .int .u8 0, .int .u8 0, .int .u8 0, .int .u8 0, .int .u8 0, .int .u8 0, .int .u8 0, .int .u8 0, .int .u8 0, .int .u8 0, .int .u8 0, .int .u8 0, .int .u8 0]) 19 19 Try.underlying49 HI3.out.1 HI3.out.2.1 HI3.out.2.2.1 HI3.out.2.2.2 rfl (by decide) (.slice (some ⟨u1.heap.size, 0, none⟩) 0 0) 0 [] rfl HF49.out (some ⟨gB, 0, none⟩) k cB (rowsZ (Z.take k)) rfl HLNB1.out (HSLB.out.below HU47.out) (rowsZ_one _) (by unfold maxLen; omega) (by omega) HU47.out.size ?_
                              intro vu50 u50 g1 g2 g3
                              have HU51 : Hid (Below V0.heap.size V0 u50) := Lib.hid (HU47.out.grown g2 HU47.out.size (fun g e => (HF49.out.lt g e).1))
                              have HF52 := Lib.hid g1
                              have HF53 := Lib.hid (own_keep HF48.out HF49.out (by decide) g2)
                              clear g1 g2 g3
                              refine ⟨HS0.out _ HU51.out, ?_⟩
                              try simp only [Act.put, List.setIfInBounds_toArray, List.set_cons_zero, List.set_cons_succ]
                              refine plan3_one ?_
                              refine op_wp rfl (by rfl) ?_
                              try simp only [List.getElem_toArray, List.getElem_cons_zero, List.getElem_cons_succ]
                              refine wp_append_sl _ _ 49 rfl V0.heap.size 53 i3 (.agg #[.int .u8 0, .int .u8 0, .int .u8 0, .int .u8 0, .int .u8 0, .int .u8 0, .int .u8 0, .int .u8 0, .int .u8 0, .int .u8 0, .int .u8 0, .int .u8 0, .int .u8 0, .int .u8 0, .int .u8 0, .int .u8 0, .int .u8 0, .int .u8 0, .int .u8 0]) 19 19 Try.underlying49 HI3.out.1 HI3.out.2.1 HI3.out.2.2.1 HI3.out.2.2.2 rfl (by decide) vu50 (0 + k) ([] ++ (rowsZ (Z.take k))) rfl HF52.out (some ⟨gB, oB, none⟩) (s - (k + 1)) (cB - (k + 1)) (rowsZ (Z.drop (k + 1))) rfl HLNB2.out (HSHB.out.below HU51.out) (rowsZ_one _) (by unfold maxLen; omega) (by omega) HU51.out.size ?_
                              intro vu54 u54 g1 g2 g3
                              have HU55 : Hid (Below V0.heap.size V0 u54) := Lib.hid (HU51.out.grown g2 HU51.out.size (fun g e => (HF52.out.lt g e).1))
                              have HF56 := Lib.hid g1
                              have HF57 := Lib.hid (own_keep HF53.out HF52.out (by decide) g2)
                              clear g1 g2 g3
                              refine ⟨HS0.out _ HU55.out, ?_⟩
                              try simp only [Act.put, List.setIfInBounds_toArray, List.set_cons_zero, List.set_cons_succ]
                              refine plan3_stop ?_
                              simp only [List.drop_succ_cons, List.drop_zero]
                              have kR := (HKR0.out.below HU55.out).c
                              have fR := (HKR0.out.below HU55.out).f
                              have lR := (HKR0.out.below HU55.out).lt
                              go_wp2_with fail
                              go_meet
                              case rel =>
                                obtain ⟨a1, a2, a3, a4, a5⟩ := HLEAF.out _ _ _ HU55.out HF57.out HF56.out
                                exact ⟨M.eraseIdx k, Z.eraseIdx k, q, cq, ys, d, HKZC.out, HDC.out, a1, a2, a3, a4, a5⟩
                      · as_aux_lemma =>
                          refine op_make (v := .slice (some ⟨V0.drew.heap.size, 0, none⟩) 0 0) (w1 := V0.drew.alloc (.cells #[] 53)) rfl (by rfl) (build490_run _ _ _ _ _ _ _) ?_
                          obtain ⟨u58, hu58⟩ : ∃ u, u = V0.drew.alloc (.cells #[] 53) := ⟨_, rfl⟩
                          have HU59 : Hid (Below V0.heap.size V0 u58) := Lib.hid (by rw [hu58]; exact HUZ.out.alloc HUZ.out.size _)
                          have HF60 : Hid (u58.ownsRow V0.heap.size 53 19 (.slice (some ⟨V0.drew.heap.size, 0, none⟩) 0 0) 0 []) := Lib.hid (by rw [hu58]; exact fresh_made HUZ.out.size)
                          rw [← hu58]
                          clear hu58
                          refine ⟨HS0.out _ HU59.out, ?_⟩
                          try simp only [Act.put, List.setIfInBounds_toArray, List.set_cons_zero, List.set_cons_succ, List.getElem_toArray, List.getElem_cons_zero, List.getElem_cons_succ]
                          refine plan3_one ?_
                          refine op_make (v := .slice (some ⟨u58.heap.size, 0, none⟩) 0 0) (w1 := u58.alloc (.cells #[] 27)) rfl (by rfl) (build480_run _ _ _ _ _ _ _) ?_
                          obtain ⟨u61, hu61⟩ : ∃ u, u = u58.alloc (.cells #[] 27) := ⟨_, rfl⟩
                          have HU62 : Hid (Below V0.heap.size V0 u61) := Lib.hid (by rw [hu61]; exact HU59.out.alloc HU59.out.size _)
                          have HF63 : Hid (u61.ownsRow V0.heap.size 27 9 (.slice (some ⟨u58.heap.size, 0, none⟩) 0 0) 0 []) := Lib.hid (by rw [hu61]; exact fresh_made HU59.out.size)
                          have HF64 := Lib.hid (own_below HF60.out (by rw [hu61]; exact (Below.refl _ _).alloc (Nat.le_refl _) _ : Below u58.heap.size u58 u61))
                          rw [← hu61]
                          clear hu61
                          refine ⟨HS0.out _ HU62.out, ?_⟩
                          try simp only [Act.put, List.setIfInBounds_toArray, List.set_cons_zero, List.set_cons_succ, List.getElem_toArray, List.getElem_cons_zero, List.getElem_cons_succ]
                          refine plan3_one ?_
                          refine op_wp rfl (by rfl) ?_
                          try simp only [List.getElem_toArray, List.getElem_cons_zero, List.getElem_cons_succ]
                          refine wp_append_sl _ _ 48 rfl V0.heap.size 27 i0 (.agg #[.int .i64 0, .int .i64 0, .int .i64 0, .int .i64 0, .int .i64 0, .int .i64 0, .bool false, .int .u32 0, .int .u32 0]) 9 64 Try.underlying48 HI0.out.1 HI0.out.2.1 HI0.out.2.2.1 HI0.out.2.2.2 rfl (by decide) (.slice (some ⟨u58.heap.size, 0, none⟩) 0 0) 0 [] rfl HF63.out (some ⟨gA, 0, none⟩) k cA (rowsM (M.take k)) rfl HLNA1.out (HSLA.out.below HU62.out) (rowsM_one _) (by unfold maxLen; omega) (by omega) HU62.out.size ?_
                          intro vu65 u65 g1 g2 g3
                          have HU66 : Hid (Below V0.heap.size V0 u65) := Lib.hid (HU62.out.grown g2 HU62.out.size (fun g e => (HF63.out.lt g e).1))
                          have HF67 := Lib.hid g1
                          have HF68 := Lib.hid (own_keep HF64.out HF63.out (by decide) g2)
                          clear g1 g2 g3
                          refine ⟨HS0.out _ HU66.out, ?_⟩
                          try simp only [Act.put, List.setIfInBounds_toArray, List.set_cons_zero, List.set_cons_succ]
                          refine plan3_one ?_
                          refine op_wp rfl (by rfl) ?_
                          try simp only [List.getElem_toArray, List.getElem_cons_zero, List.getElem_cons_succ]
                          refine wp_append_sl _ _ 48 rfl V0.heap.size 27 i0 (.agg #[.int .i64 0, .int .i64 0, .int .i64 0, .int .i64 0, .int .i64 0, .int .i64 0, .bool false, .int .u32 0, .int .u32 0]) 9 64 Try.underlying48 HI0.out.1 HI0.out.2.1 HI0.out.2.2.1 HI0.out.2.2.2 rfl (by decide) vu65 (0 + k) ([] ++ (rowsM (M.take k))) rfl HF67.out (some ⟨gA, oA, none⟩) (s - (k + 1)) (cA - (k + 1)) (rowsM (M.drop (k + 1))) rfl HLNA2.out (HSHA.out.below HU66.out) (rowsM_one _) (by unfold maxLen; omega) (by omega) HU66.out.size ?_
                          intro vu69 u69 g1 g2 g3
                          have HU70 : Hid (Below V0.heap.size V0 u69) := Lib.hid (HU66.out.grown g2 HU66.out.size (fun g e => (HF67.out.lt g e).1))
                          have HF71 := Lib.hid g1
                          have HF72 := Lib.hid (own_keep HF68.out HF67.out (by decide) g2)
                          clear g1 g2 g3
                          refine ⟨HS0.out _ HU70.out, ?_⟩
                          try simp only [Act.put, List.setIfInBounds_toArray, List.set_cons_zero, List.set_cons_succ]
                          refine plan3_one ?_
                          refine op_wp rfl (by rfl) ?_
                          try simp only [List.getElem_toArray, List.getElem_cons_zero, List.getElem_cons_succ]
                          refine wp_append_sl _ _ 49 rfl V0.heap.size 53 i3 (.agg #[.int .u8 0, .int .u8 0, .int .u8 0, .int .u8 0, .int .u8 0, .int .u8 0, .int .u8 0, .int .u8 0, .int .u8 0, .int .u8 0, .int .u8 0, .int .u8 0, .int .u8 0, .int .u8 0, .int .u8 0, .int .u8 0, .int .u8 0, .int .u8 0, .int .u8 0]) 19 19 Try.underlying49 HI3.out.1 HI3.out.2.1 HI3.out.2.2.1 HI3.out.2.2.2 rfl (by decide) (.slice (some ⟨V0.drew.heap.size, 0, none⟩) 0 0) 0 [] rfl HF72.out (some ⟨gB, 0, none⟩) k cB (rowsZ (Z.take k)) rfl HLNB1.out (HSLB.out.below HU70.out) (rowsZ_one _) (by unfold maxLen; omega) (by omega) HU70.out.size ?_
                          intro vu73 u73 g1 g2 g3
                          have HU74 : Hid (Below V0.heap.size V0 u73) := Lib.hid (HU70.out.grown g2 HU70.out.size (fun g e => (HF72.out.lt g e).1))
                          have HF75 := Lib.hid g1
                          have HF76 := Lib.hid (own_keep HF71.out HF72.out (by decide) g2)
                          clear g1 g2 g3
                          refine ⟨HS0.out _ HU74.out, ?_⟩
                          try simp only [Act.put, List.setIfInBounds_toArray, List.set_cons_zero, List.set_cons_succ]
                          refine plan3_one ?_
                          refine op_wp rfl (by rfl) ?_
                          try simp only [List.getElem_toArray, List.getElem_cons_zero, List.getElem_cons_succ]
                          refine wp_append_sl _ _ 49 rfl V0.heap.size 53 i3 (.agg #[.int .u8 0, .int .u8 0, .int .u8 0, .int .u8 0, .int .u8 0, .int .u8 0, .int .u8 0, .int .u8 0, .int .u8 0, .int .u8 0, .int .u8 0, .int .u8 0, .int .u8 0, .int .u8 0, .int .u8 0, .int .u8 0, .int .u8 0, .int .u8 0, .int .u8 0]) 19 19 Try.underlying49 HI3.out.1 HI3.out.2.1 HI3.out.2.2.1 HI3.out.2.2.2 rfl (by decide) vu73 (0 + k) ([] ++ (rowsZ (Z.take k))) rfl HF75.out (some ⟨gB, oB, none⟩) (s - (k + 1)) (cB - (k + 1)) (rowsZ (Z.drop (k + 1))) rfl HLNB2.out (HSHB.out.below HU74.out) (rowsZ_one _) (by unfold maxLen; omega) (by omega) HU74.out.size ?_
                          intro vu77 u77 g1 g2 g3
                          have HU78 : Hid (Below V0.heap.size V0 u77) := Lib.hid (HU74.out.grown g2 HU74.out.size (fun g e => (HF75.out.lt g e).1))
                          have HF79 := Lib.hid g1
                          have HF80 := Lib.hid (own_keep HF76.out HF75.out (by decide) g2)
                          clear g1 g2 g3
                          refine ⟨HS0.out _ HU78.out, ?_⟩
                          try simp only [Act.put, List.setIfInBounds_toArray, List.set_cons_zero, List.set_cons_succ]
                          refine plan3_stop ?_
                          simp only [List.drop_succ_cons, List.drop_zero]
                          have kR := (HKR0.out.below HU78.out).c
                          have fR := (HKR0.out.below HU78.out).f
                          have lR := (HKR0.out.below HU78.out).lt
                          go_wp2_with fail
                          go_meet
                          case rel =>
                            obtain ⟨a1, a2, a3, a4, a5⟩ := HLEAF.out _ _ _ HU78.out HF80.out HF79.out
                            exact ⟨M.eraseIdx k, Z.eraseIdx k, q, cq, ys, d, HKZC.out, HDC.out, a1, a2, a3, a4, a5⟩
              case rest =>
                as_aux_lemma =>
                  obtain ⟨M', Z', q, cq, ys, d, hkz, hdl, h4, h5, hkr, hq, hw⟩ := hcut
                  clear HKA HK7 HPA HO4A HO5A HELA HZLA HWA HKZ HSL HRA HKK HROW HMN h5e h5t
                  have HKZC := Lib.hid hkz
                  have HDC := Lib.hid hdl
                  have HO4f := Lib.hid h4
                  have HO5f := Lib.hid h5
                  have HKRf := Lib.hid hkr
                  have HQf := Lib.hid hq
                  have HWf := Lib.hid hw
                  obtain ⟨p4, c4, rfl, _⟩ := own_cap h4
                  clear h4 h5 hkr hq hw hkz hdl
                  obtain ⟨V, hV⟩ : ∃ V, V = wc := ⟨_, rfl⟩
                  rw [← hV] at HO4f HO5f HKRf HQf HWf ⊢
                  clear hV
                  have kR := HKRf.out.c
                  have hc := pright_any q (d) cq ys (mixS M' Z') V (by rw [HKZC.out.mlen, ← HDC.out]) HQf.out
                  rw [HKZC.out.right] at hc
                  go_wp2_with fail
                  refine hc.mono ?_
                  clear hc kR
                  rintro e v ⟨rfl, hb⟩
                  have HTB := Lib.hid hb
                  clear hb
                  go_wp2_with fail
                  go_roundw
                  case rel =>
                    refine ⟨j + 1, by omega, by go_num, ⟨M', Z', q, cq, ys, HKZC.out, ?_⟩, HWf.out.trans (HTB.out.mono HWf.out.size)⟩
                    rw [← HDC.out]
                    exact ⟨HKRf.out.below HTB.out, HQf.out.below HTB.out, own_below HO4f.out HTB.out, own_below HO5f.out HTB.out⟩
                  case measure => simp [intOf]; omega
          · as_aux_lemma =>
              have h5e : ((xd : Int) % 5) = 3 := by omega
              have h5t : Int.tmod (xd : Int) 5 = 3 := by rw [Int.tmod_eq_emod_of_nonneg (by omega)]; exact h5e
              clear h5 HD5
              go_upto_block 2 with fail
              go_cut [4, 5] (fun s4 s5 wd => ∃ M' Z' q cq ys d, Kept2 M' Z' ∧ d = M'.length ∧ wd.ownsRow (R + 1) 27 9 s4 d (rowsM M') ∧ wd.ownsRow (R + 1) 53 19 s5 d (rowsZ Z') ∧ Blk wd R #[.slice q d cq] ∧ Pl wd q ys (mixS M' Z') ∧ Below w.heap.size w wd)
              case first =>
                as_aux_lemma =>
                  obtain ⟨D, hD⟩ : ∃ D, D = twiceP (mixS M Z) (k : Int) := ⟨_, rfl⟩
                  obtain ⟨E, hE⟩ : ∃ E, E = twiceE (mixS M Z) (k : Int) := ⟨_, rfl⟩
                  obtain ⟨d, hd⟩ : ∃ d, d = D.length := ⟨_, rfl⟩
                  have hc := twice_any p s cp xs (mixS M Z) (k : Int) wc (by rw [HKZ.out.mlen, HSL.out]) HPA.out
                  rw [← hD, ← hE, ← hd] at hc
                  have HD := Lib.hid hD
                  have HEQ := Lib.hid hE
                  have HDL := Lib.hid hd
                  clear hD hE hd
                  have kR := HKA.out.c
                  have k7 := HK7.out.c
                  go_upto_region 53 with fail
                  go_wp2_with fail
                  refine hc.mono ?_
                  clear hc kR k7 h5e h5t
                  rintro e w2 ⟨q, cq, ys, rfl, ho⟩
                  obtain ⟨W2, hW2⟩ : ∃ W, W = w2.alloc (.cells #[.slice q d cq] 24) := ⟨_, rfl⟩
                  have HB2 : Hid (Below wc.heap.size wc W2) := Lib.hid (by rw [hW2]; exact ho.below.alloc ho.below.size _)
                  have HQ0 : Hid (Pl W2 q ys D) := Lib.hid (by rw [hW2]; exact ho.pl.below ((Below.refl _ _).alloc (Nat.le_refl _) _))
                  have HQO : Hid (Off (fun b => b < wc.heap.size) q ys D) := Lib.hid ho.off
                  have HK0 : Hid (Blk W2 w2.heap.size #[.slice q d cq]) := Lib.hid (by rw [hW2]; exact Blk.new _ _ _)
                  obtain ⟨B9, hB9⟩ : ∃ B, B = w2.heap.size := ⟨_, rfl⟩
                  have HL9 : Hid (wc.heap.size ≤ B9) := Lib.hid (by rw [hB9]; exact ho.below.size)
                  rw [← hB9] at HK0
                  clear ho
                  go_upto_region 54 with fail
                  rw [← hW2]
                  try rw [← hB9]
                  clear hW2 hB9
                  obtain ⟨V0, hV0⟩ : ∃ V, V = W2 := ⟨_, rfl⟩
                  rw [← hV0] at HB2 HQ0 HK0 ⊢
                  clear hV0
                  have HKR0 := Lib.hid (HKA.out.below HB2.out)
                  have HP0 := Lib.hid (HPA.out.below HB2.out)
                  have HO40 := Lib.hid (own_below HO4A.out HB2.out)
                  have HO50 := Lib.hid (own_below HO5A.out HB2.out)
                  have HW0 : Hid (Below w.heap.size w V0) := Lib.hid (HWA.out.trans (HB2.out.mono HWA.out.size))
                  have HLTA : Hid (∀ g, (Value.slice pv s cv).ownBlock = some g → R + 1 ≤ g ∧ g < wc.heap.size) := Lib.hid (fun g e => HO4A.out.lt g e)
                  have HLTB : Hid (∀ g, (Value.slice pz s cz).ownBlock = some g → R + 1 ≤ g ∧ g < wc.heap.size) := Lib.hid (fun g e => HO5A.out.lt g e)
                  have HAPA : Hid (∀ g, (Value.slice pv s cv).ownBlock = some g → (Value.slice pz s cz).ownBlock ≠ some g) := Lib.hid (own_apart HO4A.out HO5A.out (by decide))
                  have HAPB : Hid (∀ g, (Value.slice pz s cz).ownBlock = some g → (Value.slice pv s cv).ownBlock ≠ some g) := Lib.hid (own_apart HO5A.out HO4A.out (by decide))
                  have HSZ0 : Hid (wc.heap.size ≤ V0.heap.size) := Lib.hid HB2.out.size
                  clear HKA HK7 HPA HO4A HO5A HELA HZLA HWA HB2
                  by_cases hs0 : s = 0
                  · as_aux_lemma =>
                      have d0 : ¬ 0 < s := by omega
                      have d1 : decide (0 < s) = false := decide_eq_false d0
                      have hE7 : E = 7 := by
                        rw [HEQ.out]
                        unfold twiceE
                        rw [keep_none HKZ.out (by rw [← HSL.out]; exact hs0)]
                        rfl
                      subst hE7
                      have HS0 := Lib.hid hs0
                      clear hs0 HEQ HD HDL
                      go_wp2_with fail
                      go_meet
                      case rel => exact ⟨M, Z, p, cp, xs, s, HKZ.out, HSL.out, HO40.out, HO50.out, HKR0.out, HP0.out, HW0.out⟩
                  · have d0 : 0 < s := by omega
                    have d1 : decide (0 < s) = true := decide_eq_true d0
                    have hkk : k < s := by
                      have := HKK.out
                      rw [if_neg hs0] at this
                      rw [this]
                      exact Nat.mod_lt _ d0
                    have hkM : k < M.length := by rw [← HSL.out]; exact hkk
                    clear hs0
                    by_cases h64 : s < 64
                    · as_aux_lemma =>
                        have d2 : decide (s < 64) = true := decide_eq_true h64
                        have d2i : decide ((s : Int) < 64) = true := decide_eq_true (by omega)
                        have hkt := keep_twice HKZ.out hkM (by rw [← HSL.out]; exact h64)
                        have hE0 : E = 0 := by rw [HEQ.out, hkt.2]
                        have hDD : D = mixS (M ++ [M.getD k m0]) (Z ++ [Z.getD k []]) := by rw [HD.out, hkt.1]
                        have HKZC : Hid (Kept2 (M ++ [M.getD k m0]) (Z ++ [Z.getD k []])) := Lib.hid (HKZ.out.snoc (HKZ.out.gm k hkM) (HKZ.out.gz k hkM) (by rw [← HSL.out]; exact h64))
                        have hd1 : d = s + 1 := by rw [HDL.out, hDD, HKZC.out.mlen, List.length_append, ← HSL.out]; rfl
                        have HDC : Hid (s + 1 = (M ++ [M.getD k m0]).length) := Lib.hid (by rw [List.length_append, ← HSL.out]; rfl)
                        subst hE0
                        subst hd1
                        have HDD := Lib.hid hDD
                        clear hkt hDD HEQ HD HDL
                        obtain ⟨gA, e4, _, _, _, _⟩ := own_go HO40.out d0
                        obtain ⟨gB, e5, _, _, _, _⟩ := own_go HO50.out d0
                        subst e4 e5
                        obtain ⟨ek, ef, et, el, eo, ea, eown, en, ev, hem⟩ := msg_parts (M.getD k m0)
                        obtain ⟨y0, y1, y2, y3, y4, y5, y6, y7, y8, y9, y10, y11, y12, y13, y14, y15, y16, y17, y18, hez⟩ := zed_row (HKZ.out.gz k hkM)
                        have hrA := rangeM HO40.out HSL.out k hkk
                        have hrB := rangeZ HKZ.out.zed HO50.out (by rw [HKZ.out.len]; exact HSL.out) k hkk
                        rw [hem] at hrA
                        rw [hez] at hrB
                        have HRGA : Hid (V0.rangeAt gA (k * 9) [.int .i64 ek, .int .i64 ef, .int .i64 et, .int .i64 el, .int .i64 eo, .int .i64 ea, .bool eown, .int .u32 en, .int .u32 ev]) := Lib.hid hrA
                        have HRGB : Hid (V0.rangeAt gB (k * 19) [.int .u8 (y0 : Int), .int .u8 (y1 : Int), .int .u8 (y2 : Int), .int .u8 (y3 : Int), .int .u8 (y4 : Int), .int .u8 (y5 : Int), .int .u8 (y6 : Int), .int .u8 (y7 : Int), .int .u8 (y8 : Int), .int .u8 (y9 : Int), .int .u8 (y10 : Int), .int .u8 (y11 : Int), .int .u8 (y12 : Int), .int .u8 (y13 : Int), .int .u8 (y14 : Int), .int .u8 (y15 : Int), .int .u8 (y16 : Int), .int .u8 (y17 : Int), .int .u8 (y18 : Int)]) := Lib.hid hrB
                        have HEM := Lib.hid hem
                        have HEZ := Lib.hid hez
                        clear hrA hrB hem hez
                        have HLEAF : Hid (∀ U v4 v5, Below w.heap.size w U → Blk U R #[.slice p s cp] → Pl U q ys D → U.ownsRow (R + 1) 27 9 v4 (s + 1) (rowsM M ++ [.int .i64 ek, .int .i64 ef, .int .i64 et, .int .i64 el, .int .i64 eo, .int .i64 ea, .bool eown, .int .u32 en, .int .u32 ev]) → U.ownsRow (R + 1) 53 19 v5 (s + 1) (rowsZ Z ++ [.int .u8 (y0 : Int), .int .u8 (y1 : Int), .int .u8 (y2 : Int), .int .u8 (y3 : Int), .int .u8 (y4 : Int), .int .u8 (y5 : Int), .int .u8 (y6 : Int), .int .u8 (y7 : Int), .int .u8 (y8 : Int), .int .u8 (y9 : Int), .int .u8 (y10 : Int), .int .u8 (y11 : Int), .int .u8 (y12 : Int), .int .u8 (y13 : Int), .int .u8 (y14 : Int), .int .u8 (y15 : Int), .int .u8 (y16 : Int), .int .u8 (y17 : Int), .int .u8 (y18 : Int)]) → ((U.setCell ⟨R, 0, none⟩ (.slice q (s + 1) cq)).ownsRow (R + 1) 27 9 v4 (s + 1) (rowsM (M ++ [M.getD k m0])) ∧ (U.setCell ⟨R, 0, none⟩ (.slice q (s + 1) cq)).ownsRow (R + 1) 53 19 v5 (s + 1) (rowsZ (Z ++ [Z.getD k []])) ∧ Blk (U.setCell ⟨R, 0, none⟩ (.slice q (s + 1) cq)) R #[.slice q (s + 1) cq] ∧ Pl (U.setCell ⟨R, 0, none⟩ (.slice q (s + 1) cq)) q ys (mixS (M ++ [M.getD k m0]) (Z ++ [Z.getD k []])) ∧ Below w.heap.size w (U.setCell ⟨R, 0, none⟩ (.slice q (s + 1) cq)))) := Lib.hid (fun U v4 v5 hb hk hq h4 h5 => by
                          refine ⟨own_off (by rw [rowsM_app, HEM.out]; exact h4) (Nat.lt_succ_self R) 0 _, own_off (by rw [rowsZ_app, HEZ.out]; exact h5) (Nat.lt_succ_self R) 0 _, hk.set (n := 0) _ (by simp), ?_, hb.setCell (p := ⟨R, 0, none⟩) (by show w.heap.size ≤ R; exact HS1.out) _⟩
                          rw [← HDD.out]
                          exact hq.set (R := R) (HQO.out.sub (fun b e => by have := HRA.out; omega)) 0 _)
                        have hkI : (0 : Int) ≤ (k : Int) := by omega
                        have hkI2 : (k : Int) < (s : Int) := by omega
                        go_upto_region 57 with fail
                        refine region_plan3 (fun w' : World => w'.cell? ⟨B9, 0, none⟩ = some (.slice q (s + 1) cq) ∧ w'.rangeAt gA (k * 9) [.int .i64 ek, .int .i64 ef, .int .i64 et, .int .i64 el, .int .i64 eo, .int .i64 ea, .bool eown, .int .u32 en, .int .u32 ev] ∧ w'.rangeAt gB (k * 19) [.int .u8 (y0 : Int), .int .u8 (y1 : Int), .int .u8 (y2 : Int), .int .u8 (y3 : Int), .int .u8 (y4 : Int), .int .u8 (y5 : Int), .int .u8 (y6 : Int), .int .u8 (y7 : Int), .int .u8 (y8 : Int), .int .u8 (y9 : Int), .int .u8 (y10 : Int), .int .u8 (y11 : Int), .int .u8 (y12 : Int), .int .u8 (y13 : Int), .int .u8 (y14 : Int), .int .u8 (y15 : Int), .int .u8 (y16 : Int), .int .u8 (y17 : Int), .int .u8 (y18 : Int)]) 15 (.read 0 (.read 1 (.read 2 (.read 3 (.read 4 (.read 5 (.read 8 (.read 9 (.read 10 (.read 11 (.read 12 (.two 6 13 (.two 7 13 (.one 13 (.one 14 .stop)) (.one 7 (.one 14 .stop))) (.one 6 (.one 7 (.one 14 .stop))))))))))))))) (by kernel_rfl) (by kernel_rfl) ⟨HK0.out.drew.c 0, HRGA.out, HRGB.out⟩ ?_
                        iterate 5
                          refine plan3_read (v := ?_) rfl (by rfl) ?_ ?_
                          rotate_left
                          · intro w' hS
                            obtain ⟨s1, s2, s3⟩ := hS
                            go_simp
                            try with_reducible rfl
                          try simp only [Act.put, List.setIfInBounds_toArray, List.set_cons_zero, List.set_cons_succ, List.getElem_toArray, List.getElem_cons_zero, List.getElem_cons_succ]
                        refine plan3_read (v := .agg #[.int .i64 ek, .int .i64 ef, .int .i64 et, .int .i64 el, .int .i64 eo, .int .i64 ea, .bool eown, .int .u32 en, .int .u32 ev]) rfl (by rfl) (fun w' hS => load_run _ w' _ _ _ _ _ _ _ gA (k * 9) [.int .i64 ek, .int .i64 ef, .int .i64 et, .int .i64 el, .int .i64 eo, .int .i64 ea, .bool eown, .int .u32 en, .int .u32 ev] _ rfl hS.2.1 Try.underlying27 rfl size27) ?_
                        try simp only [Act.put, List.setIfInBounds_toArray, List.set_cons_zero, List.set_cons_succ, List.getElem_toArray, List.getElem_cons_zero, List.getElem_cons_succ]
                        iterate 4
                          refine plan3_read (v := ?_) rfl (by rfl) ?_ ?_
                          rotate_left
                          · intro w' hS
                            obtain ⟨s1, s2, s3⟩ := hS
                            go_simp
                            try with_reducible rfl
                          try simp only [Act.put, List.setIfInBounds_toArray, List.set_cons_zero, List.set_cons_succ, List.getElem_toArray, List.getElem_cons_zero, List.getElem_cons_succ]
                        refine plan3_read (v := .agg #[.int .u8 (y0 : Int), .int .u8 (y1 : Int), .int .u8 (y2 : Int), .int .u8 (y3 : Int), .int .u8 (y4 : Int), .int .u8 (y5 : Int), .int .u8 (y6 : Int), .int .u8 (y7 : Int), .int .u8 (y8 : Int), .int .u8 (y9 : Int), .int .u8 (y10 : Int), .int .u8 (y11 : Int), .int .u8 (y12 : Int), .int .u8 (y13 : Int), .int .u8 (y14 : Int), .int .u8 (y15 : Int), .int .u8 (y16 : Int), .int .u8 (y17 : Int), .int .u8 (y18 : Int)]) rfl (by rfl) (fun w' hS => load_run _ w' _ _ _ _ _ _ _ gB (k * 19) [.int .u8 (y0 : Int), .int .u8 (y1 : Int), .int .u8 (y2 : Int), .int .u8 (y3 : Int), .int .u8 (y4 : Int), .int .u8 (y5 : Int), .int .u8 (y6 : Int), .int .u8 (y7 : Int), .int .u8 (y8 : Int), .int .u8 (y9 : Int), .int .u8 (y10 : Int), .int .u8 (y11 : Int), .int .u8 (y12 : Int), .int .u8 (y13 : Int), .int .u8 (y14 : Int), .int .u8 (y15 : Int), .int .u8 (y16 : Int), .int .u8 (y17 : Int), .int .u8 (y18 : Int)] _ rfl hS.2.2 Try.underlying53 rfl size53) ?_
                        try simp only [Act.put, List.setIfInBounds_toArray, List.set_cons_zero, List.set_cons_succ, List.getElem_toArray, List.getElem_cons_zero, List.getElem_cons_succ]
                        have HD1 : Hid (Below w.heap.size w V0.drew) := Lib.hid HW0.out.drew
                        have HD2 : Hid (Blk V0.drew R #[.slice p s cp]) := Lib.hid HKR0.out.drew
                        have HD3 : Hid (Pl V0.drew q ys D) := Lib.hid (HQ0.out.below (Below.refl _ _).drew)
                        have HD4 : Hid (Blk V0.drew B9 #[.slice q (s + 1) cq]) := Lib.hid HK0.out.drew
                        have HD5 : Hid (V0.drew.rangeAt gA (k * 9) [.int .i64 ek, .int .i64 ef, .int .i64 et, .int .i64 el, .int .i64 eo, .int .i64 ea, .bool eown, .int .u32 en, .int .u32 ev]) := Lib.hid HRGA.out
                        have HD6 : Hid (V0.drew.rangeAt gB (k * 19) [.int .u8 (y0 : Int), .int .u8 (y1 : Int), .int .u8 (y2 : Int), .int .u8 (y3 : Int), .int .u8 (y4 : Int), .int .u8 (y5 : Int), .int .u8 (y6 : Int), .int .u8 (y7 : Int), .int .u8 (y8 : Int), .int .u8 (y9 : Int), .int .u8 (y10 : Int), .int .u8 (y11 : Int), .int .u8 (y12 : Int), .int .u8 (y13 : Int), .int .u8 (y14 : Int), .int .u8 (y15 : Int), .int .u8 (y16 : Int), .int .u8 (y17 : Int), .int .u8 (y18 : Int)]) := Lib.hid HRGB.out
                        have HD7 := Lib.hid HO40.out.drew
                        have HD8 := Lib.hid HO50.out.drew
                        have HD9 : Hid (wc.heap.size ≤ V0.drew.heap.size) := Lib.hid HSZ0.out
                        clear HW0 HKR0 HQ0 HK0 HRGA HRGB HO40 HO50 HP0
                        refine plan3_two ?_ ?_
                        · as_aux_lemma =>
                            refine op_make (v := .slice (some ⟨V0.drew.heap.size, 0, none⟩) 1 1) (w1 := V0.drew.alloc (.cells #[.int .i64 ek, .int .i64 ef, .int .i64 et, .int .i64 el, .int .i64 eo, .int .i64 ea, .bool eown, .int .u32 en, .int .u32 ev] 27)) rfl (by rfl) (build48_run _ _ _ _ _ _ _ _ _ _ _ _ _ _ _ _ _ rfl) ?_
                            obtain ⟨u1, hu1⟩ : ∃ u, u = V0.drew.alloc (.cells #[.int .i64 ek, .int .i64 ef, .int .i64 et, .int .i64 el, .int .i64 eo, .int .i64 ea, .bool eown, .int .u32 en, .int .u32 ev] 27) := ⟨_, rfl⟩
                            have hbu1 : Below V0.drew.heap.size V0.drew u1 := by rw [hu1]; exact (Below.refl _ _).alloc (Nat.le_refl _) _
                            have H2 : Hid (Blk u1 V0.drew.heap.size #[.int .i64 ek, .int .i64 ef, .int .i64 et, .int .i64 el, .int .i64 eo, .int .i64 ea, .bool eown, .int .u32 en, .int .u32 ev]) := Lib.hid (by rw [hu1]; exact Blk.new _ _ _)
                            have H3 : Hid (wc.heap.size ≤ V0.drew.heap.size) := Lib.hid (HD9.out)
                            have H4 : Hid (Below w.heap.size w u1) := Lib.hid (HD1.out.trans (hbu1.mono HD1.out.size))
                            have H5 := Lib.hid (HD2.out.below hbu1)
                            have H6 := Lib.hid (HD3.out.below hbu1)
                            have H7 := Lib.hid (HD4.out.below hbu1)
                            have H8 := Lib.hid (range_below HD5.out hbu1)
                            have H9 := Lib.hid (range_below HD6.out hbu1)
                            have H10 := Lib.hid (own_below HD7.out hbu1)
                            have H11 := Lib.hid (own_below HD8.out hbu1)
                            have H12 : Hid (wc.heap.size ≤ u1.heap.size) := Lib.hid (Nat.le_trans HD9.out hbu1.size)
                            rw [← hu1]
                            clear hu1 hbu1
                            refine ⟨⟨H7.out.c 0, H8.out, H9.out⟩, ?_⟩
                            try simp only [Act.put, List.setIfInBounds_toArray, List.set_cons_zero, List.set_cons_succ, List.getElem_toArray, List.getElem_cons_zero, List.getElem_cons_succ]
                            refine plan3_two ?_ ?_
                            · as_aux_lemma =>
                                refine op_wp rfl (by rfl) ?_
                                try simp only [List.getElem_toArray, List.getElem_cons_zero, List.getElem_cons_succ]
                                refine wp_append_keeps _ _ 48 rfl (R + 1) 27 i0 (.agg #[.int .i64 0, .int .i64 0, .int .i64 0, .int .i64 0, .int .i64 0, .int .i64 0, .bool false, .int .u32 0, .int .u32 0]) 9 64 Try.underlying48 HI0.out.1 HI0.out.2.1 HI0.out.2.2.1 HI0.out.2.2.2 rfl (by decide) (.slice (some ⟨gA, 0, none⟩) s cv) s (rowsM M) rfl H10.out ⟨V0.drew.heap.size, 0, none⟩ 1 1 [.int .i64 ek, .int .i64 ef, .int .i64 et, .int .i64 el, .int .i64 eo, .int .i64 ea, .bool eown, .int .u32 en, .int .u32 ev] rfl rfl (blk_news H2.out) (by intro u hu; simp only [List.mem_cons, List.not_mem_nil, or_false] at hu; rcases hu with rfl | rfl | rfl | rfl | rfl | rfl | rfl | rfl | rfl <;> rfl) (by unfold maxLen; omega) (by omega) (by have := HRA.out; have := H12.out; omega) ?_
                                intro vu13 u13 g1 g2 g3 g4
                                have H14 : Hid (Below w.heap.size w u13) := Lib.hid (H4.out.grown g2 H4.out.size (fun g e => by have := (HLTA.out g e).1; have := HS1.out; omega))
                                have H15 := Lib.hid (H5.out.grown g2 (fun e => by have := (HLTA.out _ e).1; omega))
                                have H16 := Lib.hid (H6.out.grown g2 (HQO.out.sub (fun b e => (HLTA.out b e).2)))
                                have H17 := Lib.hid (H7.out.grown g2 (fun e => by have := (HLTA.out _ e).2; have := HL9.out; omega))
                                have H18 := Lib.hid (g4.range H8.out (fun _ => by show k * 9 + 9 ≤ s * 9; omega))
                                have H19 := Lib.hid (g4.range H9.out (fun e => absurd rfl (HAPA.out _ e)))
                                have H20 := Lib.hid (own_keep H11.out H10.out (by decide) g2)
                                have H21 := Lib.hid g1
                                have H22 : Hid (wc.heap.size ≤ u13.heap.size) := Lib.hid (Nat.le_trans H12.out g2.size)
                                clear g1 g2 g3 g4
                                refine ⟨⟨H17.out.c 0, H18.out, H19.out⟩, ?_⟩
                                try simp only [Act.put, List.setIfInBounds_toArray, List.set_cons_zero, List.set_cons_succ]
                                refine plan3_one ?_
                                refine op_make (v := .slice (some ⟨u13.heap.size, 0, none⟩) 1 1) (w1 := u13.alloc (.cells #[.int .u8 (y0 : Int), .int .u8 (y1 : Int), .int .u8 (y2 : Int), .int .u8 (y3 : Int), .int .u8 (y4 : Int), .int .u8 (y5 : Int), .int .u8 (y6 : Int), .int .u8 (y7 : Int), .int .u8 (y8 : Int), .int .u8 (y9 : Int), .int .u8 (y10 : Int), .int .u8 (y11 : Int), .int .u8 (y12 : Int), .int .u8 (y13 : Int), .int .u8 (y14 : Int), .int .u8 (y15 : Int), .int .u8 (y16 : Int), .int .u8 (y17 : Int), .int .u8 (y18 : Int)] 53)) rfl (by rfl) (build49_run _ _ _ _ _ _ _ _ _ _ _ _ _ _ _ _ _ _ _ _ _ _ _ _ _ _ _ rfl) ?_
                                obtain ⟨u23, hu23⟩ : ∃ u, u = u13.alloc (.cells #[.int .u8 (y0 : Int), .int .u8 (y1 : Int), .int .u8 (y2 : Int), .int .u8 (y3 : Int), .int .u8 (y4 : Int), .int .u8 (y5 : Int), .int .u8 (y6 : Int), .int .u8 (y7 : Int), .int .u8 (y8 : Int), .int .u8 (y9 : Int), .int .u8 (y10 : Int), .int .u8 (y11 : Int), .int .u8 (y12 : Int), .int .u8 (y13 : Int), .int .u8 (y14 : Int), .int .u8 (y15 : Int), .int .u8 (y16 : Int), .int .u8 (y17 : Int), .int .u8 (y18 : Int)] 53) := ⟨_, rfl⟩
                                have hbu23 : Below u13.heap.size u13 u23 := by rw [hu23]; exact (Below.refl _ _).alloc (Nat.le_refl _) _
                                have H24 : Hid (Blk u23 u13.heap.size #[.int .u8 (y0 : Int), .int .u8 (y1 : Int), .int .u8 (y2 : Int), .int .u8 (y3 : Int), .int .u8 (y4 : Int), .int .u8 (y5 : Int), .int .u8 (y6 : Int), .int .u8 (y7 : Int), .int .u8 (y8 : Int), .int .u8 (y9 : Int), .int .u8 (y10 : Int), .int .u8 (y11 : Int), .int .u8 (y12 : Int), .int .u8 (y13 : Int), .int .u8 (y14 : Int), .int .u8 (y15 : Int), .int .u8 (y16 : Int), .int .u8 (y17 : Int), .int .u8 (y18 : Int)]) := Lib.hid (by rw [hu23]; exact Blk.new _ _ _)
                                have H25 : Hid (wc.heap.size ≤ u13.heap.size) := Lib.hid (H22.out)
                                have H26 : Hid (Below w.heap.size w u23) := Lib.hid (H14.out.trans (hbu23.mono H14.out.size))
                                have H27 := Lib.hid (H15.out.below hbu23)
                                have H28 := Lib.hid (H16.out.below hbu23)
                                have H29 := Lib.hid (H17.out.below hbu23)
                                have H30 := Lib.hid (range_below H18.out hbu23)
                                have H31 := Lib.hid (range_below H19.out hbu23)
                                have H32 := Lib.hid (own_below H21.out hbu23)
                                have H33 := Lib.hid (own_below H20.out hbu23)
                                have H34 : Hid (wc.heap.size ≤ u23.heap.size) := Lib.hid (Nat.le_trans H22.out hbu23.size)
                                rw [← hu23]
                                clear hu23 hbu23
                                refine ⟨⟨H29.out.c 0, H30.out, H31.out⟩, ?_⟩
                                try simp only [Act.put, List.setIfInBounds_toArray, List.set_cons_zero, List.set_cons_succ, List.getElem_toArray, List.getElem_cons_zero, List.getElem_cons_succ]
                                refine plan3_one ?_
                                refine op_wp rfl (by rfl) ?_
                                try simp only [List.getElem_toArray, List.getElem_cons_zero, List.getElem_cons_succ]
                                refine wp_append_keeps _ _ 49 rfl (R + 1) 53 i3 (.agg #[.int .u8 0, .int .u8 0, .int .u8 0, .int .u8 0, .int .u8 0, .int .u8 0, .int .u8 0, .int .u8 0, .int .u8 0, .int .u8 0, .int .u8 0, .int .u8 0, .int .u8 0, .int .u8 0, .int .u8 0, .int .u8 0, .int .u8 0, .int .u8 0, .int .u8 0]) 19 19 Try.underlying49 HI3.out.1 HI3.out.2.1 HI3.out.2.2.1 HI3.out.2.2.2 rfl (by decide) (.slice (some ⟨gB, 0, none⟩) s cz) s (rowsZ Z) rfl H33.out ⟨u13.heap.size, 0, none⟩ 1 1 [.int .u8 (y0 : Int), .int .u8 (y1 : Int), .int .u8 (y2 : Int), .int .u8 (y3 : Int), .int .u8 (y4 : Int), .int .u8 (y5 : Int), .int .u8 (y6 : Int), .int .u8 (y7 : Int), .int .u8 (y8 : Int), .int .u8 (y9 : Int), .int .u8 (y10 : Int), .int .u8 (y11 : Int), .int .u8 (y12 : Int), .int .u8 (y13 : Int), .int .u8 (y14 : Int), .int .u8 (y15 : Int), .int .u8 (y16 : Int), .int .u8 (y17 : Int), .int .u8 (y18 : Int)] rfl rfl (blk_news H24.out) (by intro u hu; simp only [List.mem_cons, List.not_mem_nil, or_false] at hu; rcases hu with rfl | rfl | rfl | rfl | rfl | rfl | rfl | rfl | rfl | rfl | rfl | rfl | rfl | rfl | rfl | rfl | rfl | rfl | rfl <;> rfl) (by unfold maxLen; omega) (by omega) (by have := HRA.out; have := H34.out; omega) ?_
                                intro vu35 u35 g1 g2 g3 g4
                                have H36 : Hid (Below w.heap.size w u35) := Lib.hid (H26.out.grown g2 H26.out.size (fun g e => by have := (HLTB.out g e).1; have := HS1.out; omega))
                                have H37 := Lib.hid (H27.out.grown g2 (fun e => by have := (HLTB.out _ e).1; omega))
                                have H38 := Lib.hid (H28.out.grown g2 (HQO.out.sub (fun b e => (HLTB.out b e).2)))
                                have H39 := Lib.hid (H29.out.grown g2 (fun e => by have := (HLTB.out _ e).2; have := HL9.out; omega))
                                have H40 := Lib.hid (g4.range H30.out (fun e => absurd rfl (HAPB.out _ e)))
                                have H41 := Lib.hid (g4.range H31.out (fun _ => by show k * 19 + 19 ≤ s * 19; omega))
                                have H42 := Lib.hid (own_keep H32.out H33.out (by decide) g2)
                                have H43 := Lib.hid g1
                                have H44 : Hid (wc.heap.size ≤ u35.heap.size) := Lib.hid (Nat.le_trans H34.out g2.size)
                                clear g1 g2 g3 g4
                                refine ⟨⟨H39.out.c 0, H40.out, H41.out⟩, ?_⟩
                                try simp only [Act.put, List.setIfInBounds_toArray, List.set_cons_zero, List.set_cons_succ]
                                refine plan3_stop ?_
                                simp only [List.drop_succ_cons, List.drop_zero]
                                have kR := H37.out.c
                                have fR := H37.out.f
                                have lR := H37.out.lt
                                go_wp2_with fail
                                go_meet
                                case rel =>
                                  obtain ⟨a1, a2, a3, a4, a5⟩ := HLEAF.out _ _ _ H36.out H37.out H38.out H42.out H43.out
                                  exact ⟨M ++ [M.getD k m0], Z ++ [Z.getD k []], q, cq, ys, s + 1, HKZC.out, HDC.out, a1, a2, a3, a4, a5⟩
                            · as_aux_lemma =>
                                refine op_make (v := .slice (some ⟨u1.heap.size, 0, none⟩) 1 1) (w1 := u1.alloc (.cells #[.int .u8 (y0 : Int), .int .u8 (y1 : Int), .int .u8 (y2 : Int), .int .u8 (y3 : Int), .int .u8 (y4 : Int), .int .u8 (y5 : Int), .int .u8 (y6 : Int), .int .u8 (y7 : Int), .int .u8 (y8 : Int), .int .u8 (y9 : Int), .int .u8 (y10 : Int), .int .u8 (y11 : Int), .int .u8 (y12 : Int), .int .u8 (y13 : Int), .int .u8 (y14 : Int), .int .u8 (y15 : Int), .int .u8 (y16 : Int), .int .u8 (y17 : Int), .int .u8 (y18 : Int)] 53)) rfl (by rfl) (build49_run _ _ _ _ _ _ _ _ _ _ _ _ _ _ _ _ _ _ _ _ _ _ _ _ _ _ _ rfl) ?_
                                obtain ⟨u45, hu45⟩ : ∃ u, u = u1.alloc (.cells #[.int .u8 (y0 : Int), .int .u8 (y1 : Int), .int .u8 (y2 : Int), .int .u8 (y3 : Int), .int .u8 (y4 : Int), .int .u8 (y5 : Int), .int .u8 (y6 : Int), .int .u8 (y7 : Int), .int .u8 (y8 : Int), .int .u8 (y9 : Int), .int .u8 (y10 : Int), .int .u8 (y11 : Int), .int .u8 (y12 : Int), .int .u8 (y13 : Int), .int .u8 (y14 : Int), .int .u8 (y15 : Int), .int .u8 (y16 : Int), .int .u8 (y17 : Int), .int .u8 (y18 : Int)] 53) := ⟨_, rfl⟩
                                have hbu45 : Below u1.heap.size u1 u45 := by rw [hu45]; exact (Below.refl _ _).alloc (Nat.le_refl _) _
                                have H46 : Hid (Blk u45 u1.heap.size #[.int .u8 (y0 : Int), .int .u8 (y1 : Int), .int .u8 (y2 : Int), .int .u8 (y3 : Int), .int .u8 (y4 : Int), .int .u8 (y5 : Int), .int .u8 (y6 : Int), .int .u8 (y7 : Int), .int .u8 (y8 : Int), .int .u8 (y9 : Int), .int .u8 (y10 : Int), .int .u8 (y11 : Int), .int .u8 (y12 : Int), .int .u8 (y13 : Int), .int .u8 (y14 : Int), .int .u8 (y15 : Int), .int .u8 (y16 : Int), .int .u8 (y17 : Int), .int .u8 (y18 : Int)]) := Lib.hid (by rw [hu45]; exact Blk.new _ _ _)
                                have H47 : Hid (wc.heap.size ≤ u1.heap.size) := Lib.hid (H12.out)
                                have H48 : Hid (Below w.heap.size w u45) := Lib.hid (H4.out.trans (hbu45.mono H4.out.size))
                                have H49 := Lib.hid (H5.out.below hbu45)
                                have H50 := Lib.hid (H6.out.below hbu45)
                                have H51 := Lib.hid (H7.out.below hbu45)
                                have H52 := Lib.hid (range_below H8.out hbu45)
                                have H53 := Lib.hid (range_below H9.out hbu45)
                                have H54 := Lib.hid (own_below H10.out hbu45)
                                have H55 := Lib.hid (own_below H11.out hbu45)
                                have H56 := Lib.hid (H2.out.below hbu45)
                                have H57 : Hid (wc.heap.size ≤ u45.heap.size) := Lib.hid (Nat.le_trans H12.out hbu45.size)
                                rw [← hu45]
                                clear hu45 hbu45
                                refine ⟨⟨H51.out.c 0, H52.out, H53.out⟩, ?_⟩
                                try simp only [Act.put, List.setIfInBounds_toArray, List.set_cons_zero, List.set_cons_succ, List.getElem_toArray, List.getElem_cons_zero, List.getElem_cons_succ]
                                refine plan3_one ?_
                                refine op_wp rfl (by rfl) ?_
                                try simp only [List.getElem_toArray, List.getElem_cons_zero, List.getElem_cons_succ]
                                refine wp_append_keeps _ _ 48 rfl (R + 1) 27 i0 (.agg #[.int .i64 0, .int .i64 0, .int .i64 0, .int .i64 0, .int .i64 0, .int .i64 0, .bool false, .int .u32 0, .int .u32 0]) 9 64 Try.underlying48 HI0.out.1 HI0.out.2.1 HI0.out.2.2.1 HI0.out.2.2.2 rfl (by decide) (.slice (some ⟨gA, 0, none⟩) s cv) s (rowsM M) rfl H54.out ⟨V0.drew.heap.size, 0, none⟩ 1 1 [.int .i64 ek, .int .i64 ef, .int .i64 et, .int .i64 el, .int .i64 eo, .int .i64 ea, .bool eown, .int .u32 en, .int .u32 ev] rfl rfl (blk_news H56.out) (by intro u hu; simp only [List.mem_cons, List.not_mem_nil, or_false] at hu; rcases hu with rfl | rfl | rfl | rfl | rfl | rfl | rfl | rfl | rfl <;> rfl) (by unfold maxLen; omega) (by omega) (by have := HRA.out; have := H57.out; omega) ?_
                                intro vu58 u58 g1 g2 g3 g4
                                have H59 : Hid (Below w.heap.size w u58) := Lib.hid (H48.out.grown g2 H48.out.size (fun g e => by have := (HLTA.out g e).1; have := HS1.out; omega))
                                have H60 := Lib.hid (H49.out.grown g2 (fun e => by have := (HLTA.out _ e).1; omega))
                                have H61 := Lib.hid (H50.out.grown g2 (HQO.out.sub (fun b e => (HLTA.out b e).2)))
                                have H62 := Lib.hid (H51.out.grown g2 (fun e => by have := (HLTA.out _ e).2; have := HL9.out; omega))
                                have H63 := Lib.hid (g4.range H52.out (fun _ => by show k * 9 + 9 ≤ s * 9; omega))
                                have H64 := Lib.hid (g4.range H53.out (fun e => absurd rfl (HAPA.out _ e)))
                                have H65 := Lib.hid (own_keep H55.out H54.out (by decide) g2)
                                have H66 := Lib.hid (H46.out.grown g2 (fun e => by have := (HLTA.out _ e).2; have := H47.out; omega))
                                have H67 := Lib.hid g1
                                have H68 : Hid (wc.heap.size ≤ u58.heap.size) := Lib.hid (Nat.le_trans H57.out g2.size)
                                clear g1 g2 g3 g4
                                refine ⟨⟨H62.out.c 0, H63.out, H64.out⟩, ?_⟩
                                try simp only [Act.put, List.setIfInBounds_toArray, List.set_cons_zero, List.set_cons_succ]
                                refine plan3_one ?_
                                refine op_wp rfl (by rfl) ?_
                                try simp only [List.getElem_toArray, List.getElem_cons_zero, List.getElem_cons_succ]
                                refine wp_append_keeps _ _ 49 rfl (R + 1) 53 i3 (.agg #[.int .u8 0, .int .u8 0, .int .u8 0, .int .u8 0, .int .u8 0, .int .u8 0, .int .u8 0, .int .u8 0, .int .u8 0, .int .u8 0, .int .u8 0, .int .u8 0, .int .u8 0, .int .u8 0, .int .u8 0, .int .u8 0, .int .u8 0, .int .u8 0, .int .u8 0]) 19 19 Try.underlying49 HI3.out.1 HI3.out.2.1 HI3.out.2.2.1 HI3.out.2.2.2 rfl (by decide) (.slice (some ⟨gB, 0, none⟩) s cz) s (rowsZ Z) rfl H65.out ⟨u1.heap.size, 0, none⟩ 1 1 [.int .u8 (y0 : Int), .int .u8 (y1 : Int), .int .u8 (y2 : Int), .int .u8 (y3 : Int), .int .u8 (y4 : Int), .int .u8 (y5 : Int), .int .u8 (y6 : Int), .int .u8 (y7 : Int), .int .u8 (y8 : Int), .int .u8 (y9 : Int), .int .u8 (y10 : Int), .int .u8 (y11 : Int), .int .u8 (y12 : Int), .int .u8 (y13 : Int), .int .u8 (y14 : Int), .int .u8 (y15 : Int), .int .u8 (y16 : Int), .int .u8 (y17 : Int), .int .u8 (y18 : Int)] rfl rfl (blk_news H66.out) (by intro u hu; simp only [List.mem_cons, List.not_mem_nil, or_false] at hu; rcases hu with rfl | rfl | rfl | rfl | rfl | rfl | rfl | rfl | rfl | rfl | rfl | rfl | rfl | rfl | rfl | rfl | rfl | rfl | rfl <;> rfl) (by unfold maxLen; omega) (by omega) (by have := HRA.out; have := H68.out; omega) ?_
                                intro vu69 u69 g1 g2 g3 g4
                                have H70 : Hid (Below w.heap.size w u69) := Lib.hid (H59.out.grown g2 H59.out.size (fun g e => by have := (HLTB.out g e).1; have := HS1.out; omega))
                                have H71 := Lib.hid (H60.out.grown g2 (fun e => by have := (HLTB.out _ e).1; omega))
                                have H72 := Lib.hid (H61.out.grown g2 (HQO.out.sub (fun b e => (HLTB.out b e).2)))
                                have H73 := Lib.hid (H62.out.grown g2 (fun e => by have := (HLTB.out _ e).2; have := HL9.out; omega))
                                have H74 := Lib.hid (g4.range H63.out (fun e => absurd rfl (HAPB.out _ e)))
                                have H75 := Lib.hid (g4.range H64.out (fun _ => by show k * 19 + 19 ≤ s * 19; omega))
                                have H76 := Lib.hid (own_keep H67.out H65.out (by decide) g2)
                                have H77 := Lib.hid g1
                                have H78 : Hid (wc.heap.size ≤ u69.heap.size) := Lib.hid (Nat.le_trans H68.out g2.size)
                                clear g1 g2 g3 g4
                                refine ⟨⟨H73.out.c 0, H74.out, H75.out⟩, ?_⟩
                                try simp only [Act.put, List.setIfInBounds_toArray, List.set_cons_zero, List.set_cons_succ]
                                refine plan3_stop ?_
                                simp only [List.drop_succ_cons, List.drop_zero]
                                have kR := H71.out.c
                                have fR := H71.out.f
                                have lR := H71.out.lt
                                go_wp2_with fail
                                go_meet
                                case rel =>
                                  obtain ⟨a1, a2, a3, a4, a5⟩ := HLEAF.out _ _ _ H70.out H71.out H72.out H76.out H77.out
                                  exact ⟨M ++ [M.getD k m0], Z ++ [Z.getD k []], q, cq, ys, s + 1, HKZC.out, HDC.out, a1, a2, a3, a4, a5⟩
                        · as_aux_lemma =>
                            refine op_make (v := .slice (some ⟨V0.drew.heap.size, 0, none⟩) 1 1) (w1 := V0.drew.alloc (.cells #[.int .u8 (y0 : Int), .int .u8 (y1 : Int), .int .u8 (y2 : Int), .int .u8 (y3 : Int), .int .u8 (y4 : Int), .int .u8 (y5 : Int), .int .u8 (y6 : Int), .int .u8 (y7 : Int), .int .u8 (y8 : Int), .int .u8 (y9 : Int), .int .u8 (y10 : Int), .int .u8 (y11 : Int), .int .u8 (y12 : Int), .int .u8 (y13 : Int), .int .u8 (y14 : Int), .int .u8 (y15 : Int), .int .u8 (y16 : Int), .int .u8 (y17 : Int), .int .u8 (y18 : Int)] 53)) rfl (by rfl) (build49_run _ _ _ _ _ _ _ _ _ _ _ _ _ _ _ _ _ _ _ _ _ _ _ _ _ _ _ rfl) ?_
                            obtain ⟨u79, hu79⟩ : ∃ u, u = V0.drew.alloc (.cells #[.int .u8 (y0 : Int), .int .u8 (y1 : Int), .int .u8 (y2 : Int), .int .u8 (y3 : Int), .int .u8 (y4 : Int), .int .u8 (y5 : Int), .int .u8 (y6 : Int), .int .u8 (y7 : Int), .int .u8 (y8 : Int), .int .u8 (y9 : Int), .int .u8 (y10 : Int), .int .u8 (y11 : Int), .int .u8 (y12 : Int), .int .u8 (y13 : Int), .int .u8 (y14 : Int), .int .u8 (y15 : Int), .int .u8 (y16 : Int), .int .u8 (y17 : Int), .int .u8 (y18 : Int)] 53) := ⟨_, rfl⟩
                            have hbu79 : Below V0.drew.heap.size V0.drew u79 := by rw [hu79]; exact (Below.refl _ _).alloc (Nat.le_refl _) _
                            have H80 : Hid (Blk u79 V0.drew.heap.size #[.int .u8 (y0 : Int), .int .u8 (y1 : Int), .int .u8 (y2 : Int), .int .u8 (y3 : Int), .int .u8 (y4 : Int), .int .u8 (y5 : Int), .int .u8 (y6 : Int), .int .u8 (y7 : Int), .int .u8 (y8 : Int), .int .u8 (y9 : Int), .int .u8 (y10 : Int), .int .u8 (y11 : Int), .int .u8 (y12 : Int), .int .u8 (y13 : Int), .int .u8 (y14 : Int), .int .u8 (y15 : Int), .int .u8 (y16 : Int), .int .u8 (y17 : Int), .int .u8 (y18 : Int)]) := Lib.hid (by rw [hu79]; exact Blk.new _ _ _)
                            have H81 : Hid (wc.heap.size ≤ V0.drew.heap.size) := Lib.hid (HD9.out)
                            have H82 : Hid (Below w.heap.size w u79) := Lib.hid (HD1.out.trans (hbu79.mono HD1.out.size))
                            have H83 := Lib.hid (HD2.out.below hbu79)
                            have H84 := Lib.hid (HD3.out.below hbu79)
                            have H85 := Lib.hid (HD4.out.below hbu79)
                            have H86 := Lib.hid (range_below HD5.out hbu79)
                            have H87 := Lib.hid (range_below HD6.out hbu79)
                            have H88 := Lib.hid (own_below HD7.out hbu79)
                            have H89 := Lib.hid (own_below HD8.out hbu79)
                            have H90 : Hid (wc.heap.size ≤ u79.heap.size) := Lib.hid (Nat.le_trans HD9.out hbu79.size)
                            rw [← hu79]
                            clear hu79 hbu79
                            refine ⟨⟨H85.out.c 0, H86.out, H87.out⟩, ?_⟩
                            try simp only [Act.put, List.setIfInBounds_toArray, List.set_cons_zero, List.set_cons_succ, List.getElem_toArray, List.getElem_cons_zero, List.getElem_cons_succ]
                            refine plan3_one ?_
                            refine op_make (v := .slice (some ⟨u79.heap.size, 0, none⟩) 1 1) (w1 := u79.alloc (.cells #[.int .i64 ek, .int .i64 ef, .int .i64 et, .int .i64 el, .int .i64 eo, .int .i64 ea, .bool eown, .int .u32 en, .int .u32 ev] 27)) rfl (by rfl) (build48_run _ _ _ _ _ _ _ _ _ _ _ _ _ _ _ _ _ rfl) ?_
                            obtain ⟨u91, hu91⟩ : ∃ u, u = u79.alloc (.cells #[.int .i64 ek, .int .i64 ef, .int .i64 et, .int .i64 el, .int .i64 eo, .int .i64 ea, .bool eown, .int .u32 en, .int .u32 ev] 27) := ⟨_, rfl⟩
                            have hbu91 : Below u79.heap.size u79 u91 := by rw [hu91]; exact (Below.refl _ _).alloc (Nat.le_refl _) _
                            have H92 : Hid (Blk u91 u79.heap.size #[.int .i64 ek, .int .i64 ef, .int .i64 et, .int .i64 el, .int .i64 eo, .int .i64 ea, .bool eown, .int .u32 en, .int .u32 ev]) := Lib.hid (by rw [hu91]; exact Blk.new _ _ _)
                            have H93 : Hid (wc.heap.size ≤ u79.heap.size) := Lib.hid (H90.out)
                            have H94 : Hid (Below w.heap.size w u91) := Lib.hid (H82.out.trans (hbu91.mono H82.out.size))
                            have H95 := Lib.hid (H83.out.below hbu91)
                            have H96 := Lib.hid (H84.out.below hbu91)
                            have H97 := Lib.hid (H85.out.below hbu91)
                            have H98 := Lib.hid (range_below H86.out hbu91)
                            have H99 := Lib.hid (range_below H87.out hbu91)
                            have H100 := Lib.hid (own_below H88.out hbu91)
                            have H101 := Lib.hid (own_below H89.out hbu91)
                            have H102 := Lib.hid (H80.out.below hbu91)
                            have H103 : Hid (wc.heap.size ≤ u91.heap.size) := Lib.hid (Nat.le_trans H90.out hbu91.size)
                            rw [← hu91]
                            clear hu91 hbu91
                            refine ⟨⟨H97.out.c 0, H98.out, H99.out⟩, ?_⟩
                            try simp only [Act.put, List.setIfInBounds_toArray, List.set_cons_zero, List.set_cons_succ, List.getElem_toArray, List.getElem_cons_zero, List.getElem_cons_succ]
                            refine plan3_one ?_
                            refine op_wp rfl (by rfl) ?_
                            try simp only [List.getElem_toArray, List.getElem_cons_zero, List.getElem_cons_succ]
                            refine wp_append_keeps _ _ 48 rfl (R + 1) 27 i0 (.agg #[.int .i64 0, .int .i64 0, .int .i64 0, .int .i64 0, .int .i64 0, .int .i64 0, .bool false, .int .u32 0, .int .u32 0]) 9 64 Try.underlying48 HI0.out.1 HI0.out.2.1 HI0.out.2.2.1 HI0.out.2.2.2 rfl (by decide) (.slice (some ⟨gA, 0, none⟩) s cv) s (rowsM M) rfl H100.out ⟨u79.heap.size, 0, none⟩ 1 1 [.int .i64 ek, .int .i64 ef, .int .i64 et, .int .i64 el, .int .i64 eo, .int .i64 ea, .bool eown, .int .u32 en, .int .u32 ev] rfl rfl (blk_news H92.out) (by intro u hu; simp only [List.mem_cons, List.not_mem_nil, or_false] at hu; rcases hu with rfl | rfl | rfl | rfl | rfl | rfl | rfl | rfl | rfl <;> rfl) (by unfold maxLen; omega) (by omega) (by have := HRA.out; have := H103.out; omega) ?_
                            intro vu104 u104 g1 g2 g3 g4
                            have H105 : Hid (Below w.heap.size w u104) := Lib.hid (H94.out.grown g2 H94.out.size (fun g e => by have := (HLTA.out g e).1; have := HS1.out; omega))
                            have H106 := Lib.hid (H95.out.grown g2 (fun e => by have := (HLTA.out _ e).1; omega))
                            have H107 := Lib.hid (H96.out.grown g2 (HQO.out.sub (fun b e => (HLTA.out b e).2)))
                            have H108 := Lib.hid (H97.out.grown g2 (fun e => by have := (HLTA.out _ e).2; have := HL9.out; omega))
                            have H109 := Lib.hid (g4.range H98.out (fun _ => by show k * 9 + 9 ≤ s * 9; omega))
                            have H110 := Lib.hid (g4.range H99.out (fun e => absurd rfl (HAPA.out _ e)))
                            have H111 := Lib.hid (own_keep H101.out H100.out (by decide) g2)
                            have H112 := Lib.hid (H102.out.grown g2 (fun e => by have := (HLTA.out _ e).2; have := H81.out; omega))
                            have H113 := Lib.hid g1
                            have H114 : Hid (wc.heap.size ≤ u104.heap.size) := Lib.hid (Nat.le_trans H103.out g2.size)
                            clear g1 g2 g3 g4
                            refine ⟨⟨H108.out.c 0, H109.out, H110.out⟩, ?_⟩
                            try simp only [Act.put, List.setIfInBounds_toArray, List.set_cons_zero, List.set_cons_succ]
                            refine plan3_one ?_
                            refine op_wp rfl (by rfl) ?_
                            try simp only [List.getElem_toArray, List.getElem_cons_zero, List.getElem_cons_succ]
                            refine wp_append_keeps _ _ 49 rfl (R + 1) 53 i3 (.agg #[.int .u8 0, .int .u8 0, .int .u8 0, .int .u8 0, .int .u8 0, .int .u8 0, .int .u8 0, .int .u8 0, .int .u8 0, .int .u8 0, .int .u8 0, .int .u8 0, .int .u8 0, .int .u8 0, .int .u8 0, .int .u8 0, .int .u8 0, .int .u8 0, .int .u8 0]) 19 19 Try.underlying49 HI3.out.1 HI3.out.2.1 HI3.out.2.2.1 HI3.out.2.2.2 rfl (by decide) (.slice (some ⟨gB, 0, none⟩) s cz) s (rowsZ Z) rfl H111.out ⟨V0.drew.heap.size, 0, none⟩ 1 1 [.int .u8 (y0 : Int), .int .u8 (y1 : Int), .int .u8 (y2 : Int), .int .u8 (y3 : Int), .int .u8 (y4 : Int), .int .u8 (y5 : Int), .int .u8 (y6 : Int), .int .u8 (y7 : Int), .int .u8 (y8 : Int), .int .u8 (y9 : Int), .int .u8 (y10 : Int), .int .u8 (y11 : Int), .int .u8 (y12 : Int), .int .u8 (y13 : Int), .int .u8 (y14 : Int), .int .u8 (y15 : Int), .int .u8 (y16 : Int), .int .u8 (y17 : Int), .int .u8 (y18 : Int)] rfl rfl (blk_news H112.out) (by intro u hu; simp only [List.mem_cons, List.not_mem_nil, or_false] at hu; rcases hu with rfl | rfl | rfl | rfl | rfl | rfl | rfl | rfl | rfl | rfl | rfl | rfl | rfl | rfl | rfl | rfl | rfl | rfl | rfl <;> rfl) (by unfold maxLen; omega) (by omega) (by have := HRA.out; have := H114.out; omega) ?_
                            intro vu115 u115 g1 g2 g3 g4
                            have H116 : Hid (Below w.heap.size w u115) := Lib.hid (H105.out.grown g2 H105.out.size (fun g e => by have := (HLTB.out g e).1; have := HS1.out; omega))
                            have H117 := Lib.hid (H106.out.grown g2 (fun e => by have := (HLTB.out _ e).1; omega))
                            have H118 := Lib.hid (H107.out.grown g2 (HQO.out.sub (fun b e => (HLTB.out b e).2)))
                            have H119 := Lib.hid (H108.out.grown g2 (fun e => by have := (HLTB.out _ e).2; have := HL9.out; omega))
                            have H120 := Lib.hid (g4.range H109.out (fun e => absurd rfl (HAPB.out _ e)))
                            have H121 := Lib.hid (g4.range H110.out (fun _ => by show k * 19 + 19 ≤ s * 19; omega))
                            have H122 := Lib.hid (own_keep H113.out H111.out (by decide) g2)
                            have H123 := Lib.hid g1
                            have H124 : Hid (wc.heap.size ≤ u115.heap.size) := Lib.hid (Nat.le_trans H114.out g2.size)
                            clear g1 g2 g3 g4
                            refine ⟨⟨H119.out.c 0, H120.out, H121.out⟩, ?_⟩
                            try simp only [Act.put, List.setIfInBounds_toArray, List.set_cons_zero, List.set_cons_succ]
                            refine plan3_stop ?_
                            simp only [List.drop_succ_cons, List.drop_zero]
                            have kR := H117.out.c
                            have fR := H117.out.f
                            have lR := H117.out.lt
                            go_wp2_with fail
                            go_meet
                            case rel =>
                              obtain ⟨a1, a2, a3, a4, a5⟩ := HLEAF.out _ _ _ H116.out H117.out H118.out H122.out H123.out
                              exact ⟨M ++ [M.getD k m0], Z ++ [Z.getD k []], q, cq, ys, s + 1, HKZC.out, HDC.out, a1, a2, a3, a4, a5⟩
                    · as_aux_lemma =>
                        have d2 : decide (s < 64) = false := decide_eq_false h64
                        have d2i : decide ((s : Int) < 64) = false := decide_eq_false (by omega)
                        have hkt := keep_twice_full HKZ.out hkM (by rw [← HSL.out]; omega)
                        have hE0 : E = 6 := by rw [HEQ.out, hkt.2]
                        subst hE0
                        clear hkt HEQ HD HDL
                        go_wp2_with fail
                        go_meet
                        case rel => exact ⟨M, Z, p, cp, xs, s, HKZ.out, HSL.out, HO40.out, HO50.out, HKR0.out, HP0.out, HW0.out⟩
              case rest =>
                as_aux_lemma =>
                  obtain ⟨M', Z', q, cq, ys, d, hkz, hdl, h4, h5, hkr, hq, hw⟩ := hcut
                  clear HKA HK7 HPA HO4A HO5A HELA HZLA HWA HKZ HSL HRA HKK HROW HMN h5e h5t
                  have HKZC := Lib.hid hkz
                  have HDC := Lib.hid hdl
                  have HO4f := Lib.hid h4
                  have HO5f := Lib.hid h5
                  have HKRf := Lib.hid hkr
                  have HQf := Lib.hid hq
                  have HWf := Lib.hid hw
                  obtain ⟨p4, c4, rfl, _⟩ := own_cap h4
                  clear h4 h5 hkr hq hw hkz hdl
                  obtain ⟨V, hV⟩ : ∃ V, V = wc := ⟨_, rfl⟩
                  rw [← hV] at HO4f HO5f HKRf HQf HWf ⊢
                  clear hV
                  have kR := HKRf.out.c
                  have hc := pright_any q (d) cq ys (mixS M' Z') V (by rw [HKZC.out.mlen, ← HDC.out]) HQf.out
                  rw [HKZC.out.right] at hc
                  go_wp2_with fail
                  refine hc.mono ?_
                  clear hc kR
                  rintro e v ⟨rfl, hb⟩
                  have HTB := Lib.hid hb
                  clear hb
                  go_wp2_with fail
                  go_roundw
                  case rel =>
                    refine ⟨j + 1, by omega, by go_num, ⟨M', Z', q, cq, ys, HKZC.out, ?_⟩, HWf.out.trans (HTB.out.mono HWf.out.size)⟩
                    rw [← HDC.out]
                    exact ⟨HKRf.out.below HTB.out, HQf.out.below HTB.out, own_below HO4f.out HTB.out, own_below HO5f.out HTB.out⟩
                  case measure => simp [intOf]; omega
          · as_aux_lemma =>
              have h5e : ((xd : Int) % 5) = 4 := by omega
              have h5t : Int.tmod (xd : Int) 5 = 4 := by rw [Int.tmod_eq_emod_of_nonneg (by omega)]; exact h5e
              clear h5 HD5
              obtain ⟨bt, hbt⟩ : ∃ bt : Nat, bt = xb % 152 := ⟨_, rfl⟩
              have eBT : ((xb : Int) % 152) = (bt : Int) := by omega
              have eBT2 : Int.tmod (xb : Int) 152 = (bt : Int) := by rw [Int.tmod_eq_emod_of_nonneg (by omega)]; exact eBT
              have hb152 : bt < 152 := by omega
              clear hbt
              obtain ⟨D, hD⟩ : ∃ D, D = spoilP (mixS M Z) (k : Int) (bt : Int) := ⟨_, rfl⟩
              obtain ⟨E, hE⟩ : ∃ E, E = spoilE (mixS M Z) (k : Int) (bt : Int) := ⟨_, rfl⟩
              obtain ⟨d, hd⟩ : ∃ d, d = D.length := ⟨_, rfl⟩
              have hc := spoil_any p s cp xs (mixS M Z) (k : Int) (bt : Int) wc (by rw [HKZ.out.mlen, HSL.out]) HPA.out
              rw [← hD, ← hE, ← hd] at hc
              have HD := Lib.hid hD
              have HEQ := Lib.hid hE
              have HDL := Lib.hid hd
              clear hD hE hd
              have kR := HKA.out.c
              have k7 := HK7.out.c
              go_upto_region 15 with fail
              go_wp2_with fail
              refine hc.mono ?_
              clear hc kR k7 h5e h5t
              rintro e w2 ⟨q, cq, ys, rfl, ho⟩
              obtain ⟨W2, hW2⟩ : ∃ W, W = w2.alloc (.cells #[.slice q d cq] 24) := ⟨_, rfl⟩
              have HB2 : Hid (Below wc.heap.size wc W2) := Lib.hid (by rw [hW2]; exact ho.below.alloc ho.below.size _)
              have HQ2 : Hid (Pl W2 q ys D) := Lib.hid (by rw [hW2]; exact ho.pl.below ((Below.refl _ _).alloc (Nat.le_refl _) _))
              have HQO : Hid (Off (fun b => b < wc.heap.size) q ys D) := Lib.hid ho.off
              have HK9 : Hid (Blk W2 w2.heap.size #[.slice q d cq]) := Lib.hid (by rw [hW2]; exact Blk.new _ _ _)
              obtain ⟨B9, hB9⟩ : ∃ B, B = w2.heap.size := ⟨_, rfl⟩
              have HL9 : Hid (wc.heap.size ≤ B9) := Lib.hid (by rw [hB9]; exact ho.below.size)
              rw [← hB9] at HK9
              clear ho
              go_upto_region 16 with fail
              rw [← hW2]
              try rw [← hB9]
              clear hW2 hB9
              have HKR2 := Lib.hid (HKA.out.below HB2.out)
              have HP2 := Lib.hid (HPA.out.below HB2.out)
              have HO42 := Lib.hid (own_below HO4A.out HB2.out)
              have HO52 := Lib.hid (own_below HO5A.out HB2.out)
              have HZL2 := Lib.hid (HZLA.out.below HB2.out)
              have HW2 : Hid (Below w.heap.size w W2) := Lib.hid (HWA.out.trans (HB2.out.mono HWA.out.size))
              have HS2 : Hid (wc.heap.size ≤ W2.heap.size) := Lib.hid HB2.out.size
              clear HKA HK7 HPA HO4A HO5A HELA HZLA HWA eBT eBT2
              by_cases hs0 : s = 0
              · as_aux_lemma =>
                  have d0 : ¬ 0 < s := by omega
                  have d1 : decide (0 < s) = false := decide_eq_false d0
                  have hE7 : E = 7 := by
                    rw [HEQ.out]
                    unfold spoilE
                    rw [keep_none HKZ.out (by rw [← HSL.out]; exact hs0)]
                    rfl
                  subst hE7
                  have HS0 := Lib.hid hs0
                  clear hs0 HEQ HD HDL
                  have kR := HKR2.out.c
                  have hc := pright_any p (s) cp xs (mixS M Z) W2 (by rw [HKZ.out.mlen, ← HSL.out]) HP2.out
                  rw [HKZ.out.right] at hc
                  go_wp2_with fail
                  refine hc.mono ?_
                  clear hc kR
                  rintro e v ⟨rfl, hb⟩
                  have HTB := Lib.hid hb
                  clear hb
                  go_wp2_with fail
                  go_roundw
                  case rel =>
                    refine ⟨j + 1, by omega, by go_num, ⟨M, Z, p, cp, xs, HKZ.out, ?_⟩, HW2.out.trans (HTB.out.mono HW2.out.size)⟩
                    rw [← HSL.out]
                    exact ⟨HKR2.out.below HTB.out, HP2.out.below HTB.out, own_below HO42.out HTB.out, own_below HO52.out HTB.out⟩
                  case measure => simp [intOf]; omega
              · as_aux_lemma =>
                  have d0 : 0 < s := by omega
                  have d1 : decide (0 < s) = true := decide_eq_true d0
                  have hkk : k < s := by
                    have := HKK.out
                    rw [if_neg hs0] at this
                    rw [this]
                    exact Nat.mod_lt _ d0
                  have hkM : k < M.length := by rw [← HSL.out]; exact hkk
                  have hks := keep_spoil HKZ.out hkM hb152
                  have hE0 : E = 0 := by rw [HEQ.out, hks.2]
                  have hDD : D = mixS M (Z.set k (turnL (Z.getD k []) bt)) := by rw [HD.out, hks.1]
                  have hzk := HKZ.out.gz k hkM
                  have HKZ' : Hid (Kept2 M (Z.set k (turnL (Z.getD k []) bt))) := Lib.hid (HKZ.out.put k (hzk.turn bt))
                  have hd1 : d = s := by rw [HDL.out, hDD, HKZ'.out.mlen, ← HSL.out]
                  subst hE0
                  subst hd1
                  have HDD := Lib.hid hDD
                  have HZN : Hid ((rowsZ Z).length = d * 19) := Lib.hid (by rw [rowsZ_len HKZ.out.zed, HKZ.out.len, ← HSL.out])
                  clear hks hDD HEQ HD HDL hs0
                  obtain ⟨X1, hX1⟩ : ∃ W, W = W2.alloc (.cells #[] 53) := ⟨_, rfl⟩
                  have HX1 : Hid (Below W2.heap.size W2 X1) := Lib.hid (by rw [hX1]; exact (Below.refl _ _).alloc (Nat.le_refl _) _)
                  have HFR : Hid ((W2.alloc (.cells #[] 53)).ownsRow W2.heap.size 53 19 (.slice (some ⟨W2.heap.size, 0, none⟩) 0 0) 0 []) := Lib.hid (fresh_made (Nat.le_refl _))
                  have HZL1 : Hid (Sl (W2.alloc (.cells #[] 53)) pz d (rowsZ Z)) := Lib.hid (HZL2.out.below ((Below.refl _ _).alloc (Nat.le_refl _) _))
                  go_upto_region 19 with fail
                  go_wp2_with (first | (refine wpList_build490 ?_; simp only [Act.put, List.setIfInBounds_toArray, List.set_cons_zero, List.set_cons_succ]) | (at_builtin; refine wpList_append_sl rfl _ _ 49 rfl W2.heap.size 53 i3 (.agg #[.int .u8 0, .int .u8 0, .int .u8 0, .int .u8 0, .int .u8 0, .int .u8 0, .int .u8 0, .int .u8 0, .int .u8 0, .int .u8 0, .int .u8 0, .int .u8 0, .int .u8 0, .int .u8 0, .int .u8 0, .int .u8 0, .int .u8 0, .int .u8 0, .int .u8 0]) 19 19 Try.underlying49 HI3.out.1 HI3.out.2.1 HI3.out.2.2.1 HI3.out.2.2.2 rfl (by decide) _ _ _ rfl HFR.out pz d cz (rowsZ Z) rfl HZN.out HZL1.out (rowsZ_one Z) (by unfold maxLen; omega) (by omega) (by rw [World.size_alloc]; omega) ?_))
                  intro v5 X2 g1 g2 g3
                  have g2' : X1.grownBy X2 (Value.slice (some ⟨W2.heap.size, 0, none⟩) 0 0).ownBlock := by rw [hX1]; exact g2
                  have HO5b : Hid (X2.ownsRow W2.heap.size 53 19 v5 d (rowsZ Z)) := Lib.hid (by simpa using g1)
                  have HBX : Hid (Below W2.heap.size W2 X2) := Lib.hid (HX1.out.grown g2' HX1.out.size (fun g e => by have e' : some W2.heap.size = some g := e; injection e' with e'; omega))
                  clear g1 g2 g2' g3 hX1 HX1 HFR HZL1
                  have HO4b := Lib.hid (own_below HO42.out HBX.out)
                  have HQb := Lib.hid (HQ2.out.below HBX.out)
                  have HKRb := Lib.hid (HKR2.out.below HBX.out)
                  have HK9b := Lib.hid (HK9.out.below HBX.out)
                  have HWb : Hid (Below w.heap.size w X2) := Lib.hid (HW2.out.trans (HBX.out.mono HW2.out.size))
                  have HS9 : Hid (B9 < W2.heap.size) := Lib.hid HK9.out.lt
                  obtain ⟨p5, c5, rfl, hcap⟩ := own_cap HO5b.out
                  obtain ⟨g, rfl, _, _, hbg, hgl⟩ := own_go HO5b.out (by omega)
                  obtain ⟨K, hK⟩ : ∃ K, K = bt / 8 := ⟨_, rfl⟩
                  obtain ⟨b, hb⟩ : ∃ b, b = bt % 8 := ⟨_, rfl⟩
                  have eD : (bt : Int) / 8 = (K : Int) := by omega
                  have eB : (bt : Int) % 8 = (b : Int) := by omega
                  have eT : Int.tmod (bt : Int) 8 = (b : Int) := by rw [Int.tmod_eq_emod_of_nonneg (by omega)]; exact eB
                  have eT2 : Int.tdiv (bt : Int) 8 = (K : Int) := by rw [Int.tdiv_eq_ediv_of_nonneg (by omega)]; exact eD
                  have hK19 : K < 19 := by omega
                  have hb8 : b < 8 := by omega
                  obtain ⟨x, hx⟩ : ∃ x, x = (Z.getD k []).getD K 0 := ⟨_, rfl⟩
                  have hx256 : x < 256 := by rw [hx]; exact hzk.at_lt K
                  have cX : X2.drew.cell? ⟨g, k * 19 + K, none⟩ = some (.int .u8 (x : Int)) := by
                    have h1 := HO5b.out.cellAt (k * 19 + K) (by omega)
                    rw [rowsZ_at HKZ.out.zed k K (by rw [HKZ.out.len]; exact hkM) hK19, ← hx] at h1
                    exact h1
                  have fX : X2.drew.frozen? ⟨g, k * 19 + K, none⟩ = false := HO5b.out.frozenAt _
                  have hst := HO5b.out.stored (k * 19 + K) (.int .u8 ((x ^^^ 2 ^ b : Nat) : Int))
                  rw [rowsZ_set HKZ.out.zed k K (x ^^^ 2 ^ b) (by rw [HKZ.out.len]; exact hkM) hK19] at hst
                  have hturn : turnL (Z.getD k []) bt = (Z.getD k []).set K (x ^^^ 2 ^ b) := by unfold turnL; rw [← hK, ← hb, hx]
                  rw [← hturn] at hst
                  have HST := Lib.hid hst
                  have ex : bits .xor .u8 (x : Int) ((2 ^ b : Nat) : Int) = ((x ^^^ 2 ^ b : Nat) : Int) := xor_u8 x (2 ^ b) hx256 (by
                    have : 2 ^ b ≤ 2 ^ 7 := Nat.pow_le_pow_right (by omega) (by omega)
                    omega)
                  have e2b : ((2 ^ b : Nat) : Int) = (2 : Int) ^ b := by push_cast; rfl
                  have ex2 : bits .xor .u8 (x : Int) (2 ^ b) = ((x ^^^ 2 ^ b : Nat) : Int) := by rw [← e2b]; exact ex
                  have HX2 := Lib.hid ex2
                  clear e2b ex2
                  have HGB : Hid (W2.heap.size ≤ g) := Lib.hid hbg
                  have j0 : (0 : Int) ≤ (K : Int) := by omega
                  have j1 : (K : Int) < 19 := by omega
                  have i0' : (0 : Int) ≤ (k : Int) := by omega
                  have i1 : (k : Int) < (d : Int) := by omega
                  have wb : IntKind.u64.wrap (b : Int) = (b : Int) := by simp [IntKind.wrap, IntKind.bits, IntKind.signed]; omega
                  have wK : IntKind.i64.wrap (K : Int) = (K : Int) := wrap_i64 (by omega)
                  have wB : IntKind.i64.wrap (b : Int) = (b : Int) := wrap_i64 (by omega)
                  clear hst hturn hx hK hb hbg hgl hcap hzk
                  go_upto_region 20 with fail
                  refine region_plan (fun w' : World => w' = X2.drew) 18 [(0, true), (1, true), (2, true), (3, true), (4, true), (5, true), (6, true), (7, true), (8, true), (9, true), (10, true), (11, true), (12, true), (13, true), (14, true), (15, true), (16, true), (17, true)] (by kernel_rfl) (by kernel_rfl) rfl ?_
                  iterate 14
                    refine plan_read (v := ?_) rfl (by rfl) ?_ ?_
                    rotate_left
                    · intro w' hS
                      try dsimp only at hS
                      subst hS
                      go_simp
                      try with_reducible rfl
                    try simp only [Act.put, List.setIfInBounds_toArray, List.set_cons_zero, List.set_cons_succ, List.getElem_toArray, List.getElem_cons_zero, List.getElem_cons_succ]
                  refine plan_read (v := .int .u8 ((2 ^ b : Nat) : Int)) rfl (by rfl) (fun w' hS => shl_run _ w' _ _ _ _ _ _ _ b hb8 rfl rfl) ?_
                  try simp only [Act.put, List.setIfInBounds_toArray, List.set_cons_zero, List.set_cons_succ, List.getElem_toArray, List.getElem_cons_zero, List.getElem_cons_succ]
                  iterate 3
                    refine plan_read (v := ?_) rfl (by rfl) ?_ ?_
                    rotate_left
                    · intro w' hS
                      try dsimp only at hS
                      subst hS
                      go_simp
                      try with_reducible rfl
                    try simp only [Act.put, List.setIfInBounds_toArray, List.set_cons_zero, List.set_cons_succ, List.getElem_toArray, List.getElem_cons_zero, List.getElem_cons_succ]
                  refine plan_nil ?_
                  simp only [List.drop_succ_cons, List.drop_zero]
                  obtain ⟨X3, hX3⟩ : ∃ W, W = (X2.setCell ⟨g, k * 19 + K, none⟩ (.int .u8 (bits .xor .u8 (x : Int) (2 ^ b)))).drew := ⟨_, rfl⟩
                  go_upto_region 21 with fail
                  rw [← hX3]
                  have HO5c : Hid (X3.ownsRow W2.heap.size 53 19 (.slice (some ⟨g, 0, none⟩) d c5) d (rowsZ (Z.set k (turnL (Z.getD k []) bt)))) := Lib.hid (by rw [hX3, HX2.out]; exact HST.out.1.drew)
                  have HBX3 : Hid (Below W2.heap.size W2 X3) := Lib.hid (by rw [hX3]; exact (HBX.out.setCell (p := ⟨g, k * 19 + K, none⟩) HGB.out _).drew)
                  clear hX3 HST cX fX ex HO5b HBX HO4b HQb HKRb HK9b HWb
                  have HO4d := Lib.hid (own_below HO42.out HBX3.out)
                  have HQd := Lib.hid (HQ2.out.below HBX3.out)
                  have HKRd := Lib.hid (HKR2.out.below HBX3.out)
                  have HK9d := Lib.hid (HK9.out.below HBX3.out)
                  have HWd : Hid (Below w.heap.size w X3) := Lib.hid (HW2.out.trans (HBX3.out.mono HW2.out.size))
                  have HO5d : Hid (X3.ownsRow (R + 1) 53 19 (.slice (some ⟨g, 0, none⟩) d c5) d (rowsZ (Z.set k (turnL (Z.getD k []) bt)))) := Lib.hid (own_mono HO5c.out (by have := HRA.out; have := HS2.out; omega))
                  have kR := HKRd.out.c
                  have fR := HKRd.out.f
                  have lR := HKRd.out.lt
                  have k9 := HK9d.out.c
                  go_upto_region 58 with fail
                  have HKRf := Lib.hid (HKRd.out.set (n := 0) (.slice q d cq) (by simp))
                  have HO4f := Lib.hid (own_off HO4d.out (Nat.lt_succ_self R) 0 (.slice q d cq))
                  have HO5f := Lib.hid (own_off HO5d.out (Nat.lt_succ_self R) 0 (.slice q d cq))
                  have HQf : Hid (Pl (X3.setCell ⟨R, 0, none⟩ (.slice q d cq)) q ys (mixS M (Z.set k (turnL (Z.getD k []) bt)))) := Lib.hid (by rw [← HDD.out]; exact HQd.out.set (R := R) (HQO.out.sub (fun b e => by have := HRA.out; omega)) 0 (.slice q d cq))
                  have HWf := Lib.hid (HWd.out.setCell (p := ⟨R, 0, none⟩) (by show w.heap.size ≤ R; exact HS1.out) (.slice q d cq))
                  obtain ⟨V, hV⟩ : ∃ V, V = X3.setCell ⟨R, 0, none⟩ (.slice q d cq) := ⟨_, rfl⟩
                  rw [← hV] at HKRf HO4f HO5f HQf HWf ⊢
                  clear hV kR fR lR k9
                  have kR := HKRf.out.c
                  have hc := pright_any q (d) cq ys (mixS M (Z.set k (turnL (Z.getD k []) bt))) V (by rw [HKZ'.out.mlen, ← HSL.out]) HQf.out
                  rw [HKZ'.out.right] at hc
                  go_wp2_with fail
                  refine hc.mono ?_
                  clear hc kR
                  rintro e v ⟨rfl, hb⟩
                  have HTB := Lib.hid hb
                  clear hb
                  go_wp2_with fail
                  go_roundw
                  case rel =>
                    refine ⟨j + 1, by omega, by go_num, ⟨M, (Z.set k (turnL (Z.getD k []) bt)), q, cq, ys, HKZ'.out, ?_⟩, HWf.out.trans (HTB.out.mono HWf.out.size)⟩
                    rw [← HSL.out]
                    exact ⟨HKRf.out.below HTB.out, HQf.out.below HTB.out, own_below HO4f.out HTB.out, own_below HO5f.out HTB.out⟩
                  case measure => simp [intOf]; omega
      · have hlt' : (j : Int) < (n : Int) := by omega
        have d100 : decide ((j : Int) < 100) = false := decide_eq_false (by omega)
        have HB := Lib.hid hb
        clear hb hk hp ho4 ho5
        go_wp2_with fail
        go_ret
        exact ⟨rfl, HB.out⟩
    · have hlt' : decide ((j : Int) < (n : Int)) = false := decide_eq_false (by omega)
      have HB := Lib.hid hb
      clear hb hk hp ho4 ho5
      go_wp2_with fail
      go_ret
      exact ⟨rfl, HB.out⟩
end Go.Proofs.Ytpmheaeiemnjeaa
