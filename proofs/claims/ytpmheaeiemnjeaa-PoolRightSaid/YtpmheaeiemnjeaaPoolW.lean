/- What the document's own Spoil answers; no condition but that the pool reads. -/
import Derived.Test.YtpmheaeiemnjeaaPoolT
import Derived.Test.YtpmheaeiemnjeaaPoolH
namespace Go.Proofs.Ytpmheaeiemnjeaa
set_option linter.unusedVariables false
open Go.ChangeShapes Go.WideShapes Go.ChangeAt Go.RowKit


set_option maxHeartbeats 8000000 in
theorem rspoil_any (p : Option Addr) (n c : Nat) (xs : List Value) (L : List (List Nat)) (k bit : Int) (w : World) (hz : L.length = n) (h : Pl w p xs L) :
    Calls Try.prog 18 #[.agg #[.slice p n c], .int .i64 k, .int .i64 bit] w fun e w' => ∃ p' c' xs', e = .returned (.tuple #[.agg #[.slice p' (spoilP L k bit).length c'], .int .i64 (spoilE L k bit)]) ∧ ROut w w' p xs L p' xs' (spoilP L k bit) := by
  have hm : n ≤ 100 := by rw [← hz]; exact h.n100
  have HC := Lib.hid (fun w' hb => rcheck_any p n c xs L k w' hz (h.below hb))
  have HPL := Lib.hid h
  have HZ := Lib.hid hz
  obtain ⟨D, hD⟩ : ∃ D, D = spoilP L k bit := ⟨_, rfl⟩
  obtain ⟨er, her⟩ : ∃ er, er = spoilE L k bit := ⟨_, rfl⟩
  obtain ⟨ck, hck⟩ : ∃ ck, ck = checkP L k := ⟨_, rfl⟩
  rw [← hD, ← her]
  rw [← hck] at HC
  have HD := Lib.hid hD
  have HER := Lib.hid her
  have HCK := Lib.hid hck
  clear h hz hD her hck
  go_enter Try.func18, Try.ntmps18
  go_wp2_with fail
  refine (HC.out _ (((Below.refl _ _).alloc (Nat.le_refl _) _).alloc (by simp) _)).mono ?_
  rintro e w1 ⟨rfl, hb1⟩
  have HB1 : Hid (Below w.heap.size w w1) := Lib.hid ((((Below.refl _ _).alloc (Nat.le_refl _) _).alloc (by simp) _).trans (hb1.mono (by simp; omega)))
  have HR1 := Lib.hid (Blk.track1 hb1)
  have HK1 := Lib.hid (Blk.track2 hb1)
  simp only [World.size_alloc] at HR1
  clear hb1 HC
  have kB := HK1.out.c
  by_cases hk : ck = 0
  · subst hk
    have hk : checkP L k = 0 := HCK.out.symm
    obtain ⟨hr, h0, h1⟩ := check_inv hk
    obtain ⟨i, rfl⟩ := Int.eq_ofNat_of_zero_le h0
    have hi : i < L.length := by omega
    have hdp : D = if bitB bit then L else L.set i (turnL (L.getD i []) bit.toNat) := by rw [HD.out]; unfold spoilP; rw [if_pos hk]; rfl
    have hee : er = if bitB bit then 1 else 0 := by rw [HER.out]; unfold spoilE; rw [if_pos hk]
    have HI := Lib.hid hi
    have HDP := Lib.hid hdp
    have HEE := Lib.hid hee
    have HR19 := Lib.hid (right_inv hr).2
    have kR := HR1.out.c
    have fR := HR1.out.f
    have lR := HR1.out.lt
    have HBF := Lib.hid (HB1.out.setCell (p := ⟨w.heap.size + 1, 0, none⟩) (by show w.heap.size ≤ w.heap.size + 1; omega) (.slice p n c))
    clear hr h0 h1 hk hdp hee
    by_cases hb0 : bit < 0
    · have hbb : bitB bit = true := decide_eq_true (.inl hb0)
      have hdp : D = L := by rw [HDP.out, hbb]; rfl
      have hee : er = 1 := by rw [HEE.out, hbb]; rfl
      subst hdp hee
      have e0 : decide (bit < 0) = true := decide_eq_true hb0
      clear hb0 hbb hi
      go_wp2_with fail
      exact bodyPost_ret (v := .tuple #[.agg #[.slice p n c], .int .i64 1]) (by simp [results, Try.results18, go_sem, *]) rfl ⟨p, c, xs, by rw [HZ.out], HPL.out.below HBF.out, fun Z hZ ho => ho, HBF.out⟩
    · by_cases hb1 : 151 < bit
      · have hbb : bitB bit = true := decide_eq_true (.inr (by omega))
        have hdp : D = L := by rw [HDP.out, hbb]; rfl
        have hee : er = 1 := by rw [HEE.out, hbb]; rfl
        subst hdp hee
        have e0 : decide (bit < 0) = false := decide_eq_false hb0
        have e1 : decide (151 < bit) = true := decide_eq_true hb1
        clear hb0 hb1 hbb hi
        go_wp2_with fail
        exact bodyPost_ret (v := .tuple #[.agg #[.slice p n c], .int .i64 1]) (by simp [results, Try.results18, go_sem, *]) rfl ⟨p, c, xs, by rw [HZ.out], HPL.out.below HBF.out, fun Z hZ ho => ho, HBF.out⟩
      · obtain ⟨B, rfl⟩ := Int.eq_ofNat_of_zero_le (show 0 ≤ bit by omega)
        have hbb : bitB (B : Int) = false := decide_eq_false (by omega)
        have hdp : D = L.set i (turnL (L.getD i []) B) := by rw [HDP.out, hbb]; rfl
        have hee : er = 0 := by rw [HEE.out, hbb]; rfl
        obtain ⟨K, hK⟩ : ∃ K, K = B / 8 := ⟨_, rfl⟩
        obtain ⟨b, hb⟩ : ∃ b, b = B % 8 := ⟨_, rfl⟩
        have eD : (B : Int) / 8 = (K : Int) := by omega
        have eB : (B : Int) % 8 = (b : Int) := by omega
        have eT : (B : Int).tmod 8 = (b : Int) := by rw [Int.tmod_eq_emod_of_nonneg (by omega)]; exact eB
        have eT2 : (B : Int).tdiv 8 = (K : Int) := by rw [Int.tdiv_eq_ediv_of_nonneg (by omega)]; exact eD
        have hK19 : K < 19 := by omega
        have hb8 : b < 8 := by omega
        have eW : IntKind.i64.wrap (K : Int) = (K : Int) := wrap_i64 (by omega)
        obtain ⟨l, hl⟩ : ∃ l, l = L.getD i [] := ⟨_, rfl⟩
        have hl19 : l.length = 19 := by rw [hl]; exact HR19.out _ (mem_getD L [] i hi)
        have hlt : ∀ x ∈ l, x < 256 := by rw [hl]; exact HPL.out.lt _ (mem_getD L [] i hi)
        obtain ⟨bp, off, hbl, rfl, hcell⟩ := HPL.out.at_ (by omega)
        have hck := hcell i hi
        obtain ⟨q, c2, hv, hc2, hby⟩ := HPL.out.fs i hi
        rw [hv] at hck
        rw [← hl, hl19] at hck
        rw [← hl] at hby
        obtain ⟨x, hx⟩ : ∃ x, x = l.getD K 0 := ⟨_, rfl⟩
        have hx256 : x < 256 := by rw [hx]; exact getD_lt l hlt K
        have hset : turnL (L.getD i []) B = l.set K (x ^^^ 2 ^ b) := by
          rw [← hl]
          unfold turnL
          rw [← hK, ← hb, hx]
        rw [hset] at hdp
        have hi' : (i : Int) < (n : Int) := by have := HZ.out; omega
        have hckr := (HB1.out.cell (p := ⟨bp, off + i, none⟩) hbl).trans hck
        have HBY := Lib.hid hby
        have HL19 := Lib.hid hl19
        have HLT := Lib.hid hlt
        have HDD := Lib.hid hdp
        have HX := Lib.hid hx
        have HXL : Hid (xs.length = n) := Lib.hid (by rw [HPL.out.len, HZ.out])
        have H1 := Lib.hid HPL.out.one
        have e0 : decide ((B : Int) < 0) = false := decide_eq_false hb0
        have e1 : decide ((151 : Int) < (B : Int)) = false := decide_eq_false hb1
        subst hee
        obtain ⟨i5, hi5, hz50, hz51, hz52⟩ := info_parts info5
        have HI5 := Lib.hid (And.intro hi5 (And.intro hz50 (And.intro hz51 hz52)))
        obtain ⟨i0, hi0, hz0, hz1, hz2⟩ := info_parts info30
        have HI0 := Lib.hid (And.intro hi0 (And.intro hz0 (And.intro hz1 hz2)))
        have HBL := Lib.hid hbl
        have hBA : Below w.heap.size w (w1.alloc (.cells #[] 5)) := HB1.out.alloc HB1.out.size _
        have HS1 : Hid (Sl (w1.alloc (.cells #[] 5)) q 19 (u8C l)) := Lib.hid (fun h0 => by
          obtain ⟨b2, o2, h1, h2, h3⟩ := (hby.below hBA).c (by omega)
          exact ⟨b2, o2, h1, h2, fun j hj => by rw [u8C_len] at hj; rw [h3 j hj, u8C_at l j hj]⟩)
        have HBA := Lib.hid hBA
        have HCA : Hid ((w1.alloc (.cells #[] 5)).cell? ⟨bp, off + i, none⟩ = some (.slice q 19 c2)) := Lib.hid ((hBA.cell (p := ⟨bp, off + i, none⟩) hbl).trans hck)
        clear hi5 hz50 hz51 hz52 hi0 hz0 hz1 hz2 hBA hckr
        clear hl19 hlt hset hx hdp hbb hb0 hb1 hi hK hb hl hcell hck hv hc2 hby HBF kR fR lR
        go_wp2_with fail
        go_loop [9, 10] (fun s t => ∃ j : Nat, j ≤ b ∧ t = .int .i64 j ∧ s = .int .u8 ((2 ^ j : Nat) : Int)) (fun _ t => b - (intOf t).toNat)
        case atStart => exact ⟨0, Nat.zero_le _, rfl, rfl⟩
        case round =>
          obtain ⟨j, hj, rfl, rfl⟩ := hrel
          by_cases hlt : j < b
          · have hp : 2 ^ j < 128 := Nat.pow_lt_pow_right (a := 2) (n := 7) (by decide) (by omega)
            have hp2 : 2 ^ (j + 1) = 2 ^ j * 2 := Nat.pow_succ 2 j
            obtain ⟨t, ht⟩ : ∃ t, t = 2 ^ j := ⟨_, rfl⟩
            rw [← ht] at hp hp2 ⊢
            have HP2 := Lib.hid hp2
            have hw : IntKind.u8.wrap ((t : Int) * 2) = ((t * 2 : Nat) : Int) := by
              have := wrap_u8 (n := t * 2) (by omega)
              rw [← this]; congr 1
            have HW := Lib.hid hw
            clear ht hp2
            go_wp2_with fail
            go_round
            case rel => exact ⟨j + 1, by omega, by go_num, by rw [HP2.out, Int.natCast_mul]; rfl⟩
            case measure => simp [intOf]; omega
          · have hjb : j = b := by omega
            subst hjb
            have hp : 2 ^ j < 256 := Nat.pow_lt_pow_right (a := 2) (n := 8) (by decide) (by omega)
            have ex : bits .xor .u8 (x : Int) ((2 ^ j : Nat) : Int) = ((x ^^^ 2 ^ j : Nat) : Int) := xor_u8 x (2 ^ j) hx256 hp
            obtain ⟨t, ht⟩ : ∃ t, t = 2 ^ j := ⟨_, rfl⟩
            rw [← ht] at ex HDD ⊢
            obtain ⟨y, hy⟩ : ∃ y, y = x ^^^ t := ⟨_, rfl⟩
            rw [← hy] at ex HDD
            have hy256 : y < 256 := by rw [hy, ht]; exact Nat.xor_lt_two_pow (n := 8) hx256 hp
            have HY := Lib.hid hy256
            have HEX := Lib.hid ex
            clear hp ht hy ex hy256
            have kB1 := (HK1.out.alloc (.cells #[] 5)).c
            have hca := HCA.out
            go_wp2_with (first | (at_builtin; refine wpList_append_sl rfl _ _ 30 rfl w1.heap.size 5 i5 (.int .u8 0) 1 1 Try.underlying30 HI5.out.1 HI5.out.2.1 HI5.out.2.2.1 HI5.out.2.2.2 rfl (by decide) _ 0 [] rfl (fresh_made (Nat.le_refl _)) q 19 c2 (u8C l) rfl (by rw [u8C_len, HL19.out]) HS1.out (u8C_one _) (by unfold maxLen; omega) (by omega) (by simp) ?_))
            intro v3 w3 g1 g2 g3
            have ho3 : w3.ownsRow w1.heap.size 5 1 v3 19 (u8C l) := by simpa using g1
            obtain ⟨p3, c3, rfl, _⟩ := own_cap ho3
            obtain ⟨g, rfl, _, _, hbg, hgl⟩ := own_go ho3 (by omega)
            have HB3 : Hid (Below w.heap.size w w3) := Lib.hid (HBA.out.grown g2 HBA.out.size (fun k hk => by simp [Value.ownBlock] at hk; have := HB1.out.size; omega))
            have HR3 : Hid (Blk w3 (w.heap.size + 1) #[.slice none 0 0]) := Lib.hid ((HR1.out.alloc _).grown g2 (by have := HR1.out.lt; simp [Value.ownBlock]; omega))
            have HK3 : Hid (Blk w3 w.heap.size #[.slice (some ⟨bp, off, none⟩) n c]) := Lib.hid ((HK1.out.alloc _).grown g2 (by have := HK1.out.lt; simp [Value.ownBlock]; omega))
            have HG : Hid (w1.heap.size ≤ g) := Lib.hid hbg
            have HSZ : Hid (w.heap.size + 1 < w1.heap.size) := Lib.hid HR1.out.lt
            have HO3 := Lib.hid ho3
            have HGL := Lib.hid hgl
            have cX : w3.cell? ⟨g, K, none⟩ = some (.int .u8 (x : Int)) := by rw [ho3.cellAt K (by omega), u8C_at l K (by rw [HL19.out]; exact hK19), HX.out]
            have fX : w3.frozen? ⟨g, K, none⟩ = false := ho3.frozenAt K
            have j0 : (0 : Int) ≤ (K : Int) := by omega
            have j1 : (K : Int) < 19 := by omega
            have hex := HEX.out
            clear g1 g2 g3 ho3 hbg hgl kB1 hca kB HCA HS1
            go_upto_region 13 with fail
            obtain ⟨W4, hW4⟩ : ∃ W4, W4 = w3.setCell ⟨g, K, none⟩ (.int .u8 (y : Int)) := ⟨_, rfl⟩
            have HO4 : Hid (W4.ownsRow w1.heap.size 5 1 (.slice (some ⟨g, 0, none⟩) 19 c3) 19 (u8C (l.set K y))) := Lib.hid (by
              rw [hW4]
              have := (HO3.out.stored K (.int .u8 (y : Int))).1
              have e : (u8C l).set K (.int .u8 (y : Int)) = u8C (l.set K y) := by unfold u8C; rw [List.map_set]
              rw [e] at this
              exact this)
            have HB4 : Hid (Below w.heap.size w W4) := Lib.hid (by rw [hW4]; exact HB3.out.setCell (p := ⟨g, K, none⟩) (by show w.heap.size ≤ g; have := HG.out; have := HB1.out.size; omega) _)
            have HR4 : Hid (Blk W4 (w.heap.size + 1) #[.slice none 0 0]) := Lib.hid (by rw [hW4]; exact HR3.out.other _ (by have := HG.out; have := HSZ.out; omega))
            have HK4 : Hid (Blk W4 w.heap.size #[.slice (some ⟨bp, off, none⟩) n c]) := Lib.hid (by rw [hW4]; exact HK3.out.other _ (by have := HG.out; have := HSZ.out; omega))
            rw [← hW4]
            clear hW4 cX fX hex HO3 HR3 HK3 HB3
            have HS4 : Hid (Sl (W4.alloc (.cells #[] 30)) (some ⟨bp, off, none⟩) n xs) := Lib.hid (by
              have := HPL.out.sl.below (HB4.out.alloc HB4.out.size (.cells #[] 30))
              rwa [HZ.out] at this)
            have kB4 := (HK4.out.alloc (.cells #[] 30)).c
            go_wp2_with (first | (at_builtin; refine wpList_append_sl rfl _ _ 22 rfl W4.heap.size 30 i0 (.slice none 0 0) 1 24 Try.underlying22 HI0.out.1 HI0.out.2.1 HI0.out.2.2.1 HI0.out.2.2.2 rfl (by decide) _ 0 [] rfl (fresh_made (Nat.le_refl _)) (some ⟨bp, off, none⟩) n c xs rfl (by rw [HXL.out, Nat.mul_one]) HS4.out H1.out (by unfold maxLen; omega) (by omega) (by simp) ?_))
            intro v5 w5 g1 g2 g3
            have ho5 : w5.ownsRow W4.heap.size 30 1 v5 n xs := by simpa using g1
            obtain ⟨p5, c5, rfl, _⟩ := own_cap ho5
            obtain ⟨g5, rfl, _, _, hbg5, hgl5⟩ := own_go ho5 (by omega)
            have hgr : ∀ cs B, Blk W4 B cs → Blk w5 B cs := fun cs B hB => (hB.alloc _).grown g2 (by have := hB.lt; simp [Value.ownBlock]; omega)
            have HR5 := Lib.hid (hgr _ _ HR4.out)
            have HB5 : Hid (Below w.heap.size w w5) := Lib.hid ((HB4.out.alloc HB4.out.size _).grown g2 (by simp; have := HB4.out.size; omega) (fun k hk => by simp [Value.ownBlock] at hk; have := HB4.out.size; omega))
            have HB45 : Hid (Below W4.heap.size W4 w5) := Lib.hid (((Below.refl _ _).alloc (Nat.le_refl _) _).grown g2 (by simp) (fun k hk => by simp [Value.ownBlock] at hk; omega))
            have HO5 := Lib.hid ho5
            have HF5 := Lib.hid (own_below HO4.out HB45.out)
            have HG5 : Hid (W4.heap.size ≤ g5) := Lib.hid hbg5
            have HGF : Hid (g < W4.heap.size) := Lib.hid ((HO4.out.lt g rfl).2)
            have HRS : Hid (w.heap.size + 1 < W4.heap.size) := Lib.hid HR4.out.lt
            have hcs : ∃ u, w5.cell? ⟨g5, i, none⟩ = some u := ⟨_, by rw [ho5.cellAt i (by omega), List.getElem?_eq_getElem (by rw [HXL.out]; omega)]⟩
            obtain ⟨u0, cU⟩ := hcs
            have fU : w5.frozen? ⟨g5, i, none⟩ = false := ho5.frozenAt i
            have kR := HR5.out.c
            have fR := HR5.out.f
            have lR := HR5.out.lt
            have i0' : (0 : Int) ≤ (i : Int) := by omega
            have hneR : g5 ≠ w.heap.size + 1 := by have := HG5.out; have := HRS.out; omega
            clear g1 g2 g3 hgr ho5 hbg5 hgl5 kB4
            go_wp2_with fail
            have hO6 := (HO5.out.stored i (.slice (some ⟨g, 0, none⟩) 19 c3)).1
            have hO7 := own_off hO6 (R := w.heap.size + 1) HRS.out 0 (.slice (some ⟨g5, 0, none⟩) n c5)
            have hF6 := own_off (HF5.out.kept (HO5.out.stored i (.slice (some ⟨g, 0, none⟩) 19 c3)).2 (.inr (by intro e; injection e with e; have := HG5.out; have := HGF.out; simp at e; omega))) (R := w.heap.size + 1) HSZ.out 0 (.slice (some ⟨g5, 0, none⟩) n c5)
            have hbf : Below w.heap.size w ((w5.setCell ⟨g5, i, none⟩ (.slice (some ⟨g, 0, none⟩) 19 c3)).setCell ⟨w.heap.size + 1, 0, none⟩ (.slice (some ⟨g5, 0, none⟩) n c5)) := (HB5.out.setCell (p := ⟨g5, i, none⟩) (by show w.heap.size ≤ g5; have := HG5.out; have := HB4.out.size; omega) _).setCell (p := ⟨w.heap.size + 1, 0, none⟩) (by show w.heap.size ≤ w.heap.size + 1; omega) _
            have hDl : D.length = n := by rw [HDD.out, List.length_set, HZ.out]
            have hyl : (l.set K y).length = 19 := by rw [List.length_set, HL19.out]
            have hyb : ∀ z ∈ l.set K y, z < 256 := fun z hz => by
              rcases mem_set hz with hz | rfl
              · exact HLT.out z hz
              · exact HY.out
            have hDg : ∀ t, D.getD t [] = if t = i then l.set K y else L.getD t [] := fun t => by rw [HDD.out]; exact getD_set L [] _ i t HI.out
            have hxg : ∀ t, (xs.set i (.slice (some ⟨g, 0, none⟩) 19 c3)).getD t vz = if t = i then .slice (some ⟨g, 0, none⟩) 19 c3 else xs.getD t vz := fun t => getD_set xs vz _ i t (by rw [HXL.out, ← HZ.out]; exact HI.out)
            refine bodyPost_ret (v := .tuple #[.agg #[.slice (some ⟨g5, 0, none⟩) n c5], .int .i64 0]) ?_ ?_ ?_
            · simp [results, Try.results18, go_sem, *]
            · rfl
            refine ⟨some ⟨g5, 0, none⟩, c5, xs.set i (.slice (some ⟨g, 0, none⟩) 19 c3), by rw [hDl], ⟨⟨by rw [List.length_set, HXL.out, hDl], ?_, fun t ht => ?_, by rw [hDl]; omega, fun l' hm => ?_⟩, fun Z hZ ho => ⟨fun _ a e hb => ?_, fun t ht h0 g' e hb => ?_⟩, hbf⟩⟩
            · rw [hDl]
              obtain ⟨q', cq, e, hs⟩ := Sl.own hO7
              injection e with e _ _
              rw [← e] at hs
              exact hs
            · rw [hDl] at ht
              rw [hDg, hxg]
              by_cases hti : t = i
              · rw [if_pos hti, if_pos hti]
                exact own_fs (by rw [hyl]; exact hF6) hyb
              · rw [if_neg hti, if_neg hti]
                exact (HPL.out.fs t (by rw [HZ.out]; exact ht)).below hbf
            · rw [HDD.out] at hm
              rcases mem_set hm with hm | rfl
              · exact HPL.out.l100 l' hm
              · rw [hyl]; omega
            · injection e with e
              subst e
              have h1 := hZ _ hb
              have := HG5.out
              have := HB4.out.size
              simp at h1
              omega
            · rw [hDl] at ht
              rw [hxg] at e
              rw [hDg] at h0
              by_cases hti : t = i
              · rw [if_pos hti] at e
                injection e with e
                simp at e
                have h1 := hZ _ hb
                have := HG.out
                have := HB1.out.size
                omega
              · rw [if_neg hti] at e h0
                exact ho.2 t (by rw [HZ.out]; exact ht) h0 g' e hb
  · have hdp : D = L := by rw [HD.out]; unfold spoilP; rw [if_neg (by rw [← HCK.out]; exact hk)]
    have hee : er = ck := by rw [HER.out, HCK.out]; unfold spoilE; rw [if_neg (by rw [← HCK.out]; exact hk)]
    subst hdp hee
    have e0 : (er != 0) = true := by simpa using hk
    clear hk
    have kR := HR1.out.c
    have fR := HR1.out.f
    have lR := HR1.out.lt
    go_wp2_with fail
    have hbf := HB1.out.setCell (p := ⟨w.heap.size + 1, 0, none⟩) (by show w.heap.size ≤ w.heap.size + 1; omega) (.slice p n c)
    exact bodyPost_ret (v := .tuple #[.agg #[.slice p n c], .int .i64 er]) (by simp [results, Try.results18, go_sem, *]) rfl ⟨p, c, xs, by rw [HZ.out], HPL.out.below hbf, fun Z hZ ho => ho, hbf⟩
end Go.Proofs.Ytpmheaeiemnjeaa
