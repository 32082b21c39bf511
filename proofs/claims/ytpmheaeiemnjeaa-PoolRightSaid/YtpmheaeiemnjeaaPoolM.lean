/- PoolRight: the walk of the statement's function. -/
import Derived.Test.YtpmheaeiemnjeaaPoolL
namespace Go.Proofs.Ytpmheaeiemnjeaa
set_option linter.unusedVariables false
open Go.ChangeShapes Go.WideShapes Go.ChangeAt Go.RowKit

set_option maxHeartbeats 16000000 in
set_option maxRecDepth 100000 in
theorem right_main (p0 : Option Addr) (n c : Nat) (xs : List Value) (L : List (List Nat)) (m : Msg) (k bit : Int) (w : World) (hz : L.length = n) (h : PlX w p0 xs L) (hmn : m.n < 4294967296) (hmv : m.v < 4294967296) :
    Calls Try.prog 3 #[.agg #[.slice p0 n c], .agg m.row, .int .i64 k, .int .i64 bit] w fun e w' => e = .returned (.bool true) ∧ Below w.heap.size w w' := by
  have HPX := Lib.hid h
  have HZ := Lib.hid hz
  have HMN := Lib.hid hmn
  have HMV := Lib.hid hmv
  have hnm : n ≤ maxLen := by rw [← hz]; exact h.nm
  unfold maxLen at hnm
  obtain ⟨mk, mf, mt, ml, mo, ma, mown, mn, mv, hmm⟩ : ∃ k f t l o a own n v, m = ⟨k, f, t, l, o, a, own, n, v⟩ := ⟨_, _, _, _, _, _, _, _, _, rfl⟩
  have hrow : m.row = #[.int .i64 mk, .int .i64 mf, .int .i64 mt, .int .i64 ml, .int .i64 mo, .int .i64 ma, .bool mown, .int .u32 mn, .int .u32 mv] := by rw [hmm]; rfl
  rw [hrow]
  have HROW := Lib.hid hrow
  clear h hz hmn hmv hrow hmm
  go_enter Try.func3, Try.ntmps3
  go_wp2_with fail
  refine (awake_any _).mono ?_
  rintro e w1 ⟨rfl, hb1⟩
  have HB1 : Hid (Below w.heap.size w w1) := Lib.hid ((((Below.refl _ _).alloc (Nat.le_refl _) _).alloc (by simp) _).trans (hb1.mono (by simp; omega)))
  have HKP := Lib.hid (Blk.track2 hb1)
  have HKM := Lib.hid (Blk.track1 hb1)
  simp only [World.size_alloc] at HKM
  clear hb1
  have kP := HKP.out.c
  go_wp2_with fail
  have hshort := short_any p0 n c xs L w1 HZ.out (HPX.out.below HB1.out)
  obtain ⟨sb, hsb⟩ : ∃ sb, sb = shortP L := ⟨_, rfl⟩
  rw [← hsb] at hshort
  have HSB := Lib.hid hsb
  refine hshort.mono ?_
  clear hshort hsb
  rintro e w2 ⟨rfl, hb2⟩
  have HB2 : Hid (Below w.heap.size w w2) := Lib.hid (HB1.out.trans (hb2.mono HB1.out.size))
  have HKP2 := Lib.hid (HKP.out.below hb2)
  have HKM2 := Lib.hid (HKM.out.below hb2)
  clear hb2 HB1 HKP HKM kP
  cases sb with
  | false =>
    go_wp2_with fail
    go_ret
    exact ⟨rfl, HB2.out⟩
  | true =>
  have HPL := Lib.hid (HPX.out.pl HSB.out.symm)
  have hn80 : n ≤ 80 := by rw [← HZ.out]; exact (short_inv HSB.out.symm).1
  have HXL : Hid (xs.length = n) := Lib.hid (by rw [HPL.out.len, HZ.out])
  obtain ⟨i5, hi5, hz50, hz51, hz52⟩ := info_parts info5
  have HI5 := Lib.hid (And.intro hi5 (And.intro hz50 (And.intro hz51 hz52)))
  obtain ⟨i0, hi0, hz0, hz1, hz2⟩ := info_parts info30
  have HI0 := Lib.hid (And.intro hi0 (And.intro hz0 (And.intro hz1 hz2)))
  have HSZ2 : Hid (w.heap.size + 1 < w2.heap.size) := Lib.hid HKM2.out.lt
  clear hi5 hz50 hz51 hz52 hi0 hz0 hz1 hz2 hnm HPX
  go_wp2_with fail
  obtain ⟨W, hW⟩ : ∃ W, W = w2.alloc (.cells #[.slice none 0 0] 24) := ⟨_, rfl⟩
  have HBW : Hid (Below w.heap.size w W) := Lib.hid (by rw [hW]; exact HB2.out.alloc HB2.out.size _)
  have HKPW : Hid (Blk W w.heap.size #[.slice p0 n c]) := Lib.hid (by rw [hW]; exact HKP2.out.alloc _)
  have HKMW : Hid (Blk W (w.heap.size + 1) #[.int .i64 mk, .int .i64 mf, .int .i64 mt, .int .i64 ml, .int .i64 mo, .int .i64 ma, .bool mown, .int .u32 mn, .int .u32 mv]) := Lib.hid (by rw [hW]; exact HKM2.out.alloc _)
  have HKQW : Hid (Blk W w2.heap.size #[.slice none 0 0]) := Lib.hid (by rw [hW]; exact Blk.new _ _ _)
  rw [← hW]
  clear hW HKP2 HKM2
  go_loopw [10] (fun s wr => ∃ j : Nat, j ≤ n ∧ s = .int .i64 j ∧ (∃ v ys, OwnG (w2.heap.size + 1) wr v ys (L.take j) ∧ Blk wr w2.heap.size #[v]) ∧ Blk wr w.heap.size #[.slice p0 n c] ∧ Blk wr (w.heap.size + 1) #[.int .i64 mk, .int .i64 mf, .int .i64 mt, .int .i64 ml, .int .i64 mo, .int .i64 ma, .bool mown, .int .u32 mn, .int .u32 mv] ∧ Below w.heap.size w wr) (fun s _ => n - (intOf s).toNat)
  case atStart => exact ⟨0, Nat.zero_le _, rfl, ⟨.slice none 0 0, [], ⟨World.ownsRow_nil _ _ _ _, fun k hk => absurd hk (Nat.not_lt_zero _), fun k hk => absurd hk (Nat.not_lt_zero _)⟩, HKQW.out⟩, HKPW.out, HKMW.out, HBW.out⟩
  case round =>
    obtain ⟨j, hj, rfl, ⟨v, ys, ho, hq⟩, hkp, hkm, hb⟩ := hrel
    clear HKPW HKMW HKQW HBW
    have HO := Lib.hid ho
    have HKQ := Lib.hid hq
    have HKP := Lib.hid hkp
    have HKM := Lib.hid hkm
    have HB := Lib.hid hb
    obtain ⟨pv, cv, rfl, _⟩ := own_cap ho.row
    have htl : (L.take j).length = j := by rw [List.length_take, HZ.out]; omega
    rw [htl] at HO HKQ
    have HTL := Lib.hid htl
    clear ho hq hkp hkm hb htl
    have kP := HKP.out.c
    have kQ := HKQ.out.c
    by_cases hlt : j < n
    · have hjl : j < L.length := by rw [HZ.out]; exact hlt
      obtain ⟨b, off, hbl, rfl, hcell⟩ := HPL.out.at_ (by omega)
      have hck := hcell j hjl
      have hfs := HPL.out.fs j hjl
      obtain ⟨q, c2, hv, hc2, hby⟩ := HPL.out.fs j hjl
      have hl100 := HPL.out.l100 _ (mem_getD L [] j hjl)
      have hl256 := HPL.out.lt _ (mem_getD L [] j hjl)
      rw [hv] at hck
      obtain ⟨l, hl⟩ : ∃ l, l = L.getD j [] := ⟨_, rfl⟩
      have htk : L.take (j + 1) = L.take j ++ [l] := by rw [take_succ' L [] j hjl, hl]
      rw [← hl] at hck hl100 hl256 hby
      obtain ⟨x, hx⟩ : ∃ x, x = l.length := ⟨_, rfl⟩
      rw [← hx] at hck hl100
      have hckr := (HB.out.cell (p := ⟨b, off + j, none⟩) hbl).trans hck
      have HCK := Lib.hid hckr
      have HBL := Lib.hid hbl
      have HBY := Lib.hid hby
      have HX := Lib.hid hx
      have H256 := Lib.hid hl256
      have HTK := Lib.hid htk
      have hjlt : (j : Int) < (n : Int) := by omega
      clear hcell hck hfs hv hc2 hby hl hl256 hx htk hckr hbl hjl
      go_upto_region 9 with fail
      refine region_plan (fun w' : World => w'.cell? ⟨w2.heap.size, 0, none⟩ = some (.slice pv j cv) ∧ w'.cell? ⟨w.heap.size, 0, none⟩ = some (.slice (some ⟨b, off, none⟩) n c) ∧ w'.cell? ⟨b, off + j, none⟩ = some (.slice q x c2)) 10 [(0, true), (1, true), (3, true), (4, true), (5, true), (6, true), (7, true), (2, false), (8, false), (9, false)] (by kernel_rfl) (by kernel_rfl) ⟨kQ 0, kP 0, HCK.out⟩ ?_
      iterate 7
        refine plan_read (v := ?_) rfl (by rfl) ?_ ?_
        rotate_left
        · intro w' hS
          try dsimp only at hS
          obtain ⟨s1, s2, s3⟩ := hS
          go_simp
          try with_reducible rfl
        try simp only [Act.put, List.setIfInBounds_toArray, List.set_cons_zero, List.set_cons_succ, List.getElem_toArray, List.getElem_cons_zero, List.getElem_cons_succ]
      refine plan_make (v := .slice (some ⟨wr.heap.size, 0, none⟩) 0 0) (w1 := wr.drew.alloc (.cells #[] 5)) rfl (by rfl) ?_ ?_ ?_
      · go_simp
      · exact ⟨(HKQ.out.drew.alloc _).c 0, (HKP.out.drew.alloc _).c 0, (((Below.refl _ _).drew.alloc (Nat.le_refl _) _).cell (p := ⟨b, off + j, none⟩) (Nat.lt_of_lt_of_le HBL.out HB.out.size)).trans HCK.out⟩
      try simp only [Act.put, List.setIfInBounds_toArray, List.set_cons_zero, List.set_cons_succ, List.getElem_toArray, List.getElem_cons_zero, List.getElem_cons_succ]
      have HBA : Hid (Below wr.heap.size wr (wr.drew.alloc (.cells #[] 5))) := Lib.hid ((Below.refl _ _).drew.alloc (Nat.le_refl _) _)
      have HFM : Hid ((wr.drew.alloc (.cells #[] 5)).ownsRow wr.heap.size 5 1 (.slice (some ⟨wr.heap.size, 0, none⟩) 0 0) 0 []) := Lib.hid (fresh_made (w := wr.drew) (Nat.le_refl _))
      have HS1 : Hid (Sl (wr.drew.alloc (.cells #[] 5)) q x (u8C l)) := Lib.hid (fun h0 => by
        obtain ⟨b2, o2, h1, h2, h3⟩ := ((HBY.out.below HB.out).below HBA.out).c (by rw [← HX.out]; exact h0)
        exact ⟨b2, o2, h1, h2, fun j hj => by rw [u8C_len] at hj; rw [h3 j hj, u8C_at l j hj]⟩)
      show wpOp _ _ _ 8 _ _ _
      refine op_wp rfl (by rfl) ?_
      try simp only [List.getElem_toArray, List.getElem_cons_zero, List.getElem_cons_succ]
      refine (wp_append_sl _ _ 30 rfl wr.heap.size 5 i5 (.int .u8 0) 1 1 Try.underlying30 HI5.out.1 HI5.out.2.1 HI5.out.2.2.1 HI5.out.2.2.2 rfl (by decide) _ 0 [] rfl HFM.out q x c2 (u8C l) rfl (by rw [u8C_len, HX.out, Nat.mul_one]) HS1.out (u8C_one _) (by unfold maxLen; omega) (by omega) HBA.out.size ?_)
      intro v5 w5 g1 g2 g3
      have hrr : w5.ownsRow wr.heap.size 5 1 v5 x (u8C l) := by simpa using g1
      have HB5 : Hid (Below wr.heap.size wr w5) := Lib.hid (HBA.out.grown g2 HBA.out.size (fun k hk => by injection hk with hk; exact Nat.le_of_eq hk))
      obtain ⟨p5, c5, rfl, _⟩ := own_cap hrr
      have HRR := Lib.hid hrr
      have HKQ5 := Lib.hid (HKQ.out.below HB5.out)
      have HKP5 := Lib.hid (HKP.out.below HB5.out)
      have HKM5 := Lib.hid (HKM.out.below HB5.out)
      clear g1 g2 g3 hrr HBA HFM HS1
      refine ⟨⟨HKQ5.out.c 0, HKP5.out.c 0, (HB5.out.cell (p := ⟨b, off + j, none⟩) (Nat.lt_of_lt_of_le HBL.out HB.out.size)).trans HCK.out⟩, ?_⟩
      try simp only [Act.put, List.setIfInBounds_toArray, List.set_cons_zero, List.set_cons_succ, List.getElem_toArray, List.getElem_cons_zero, List.getElem_cons_succ]
      refine plan_make (v := .slice (some ⟨w5.heap.size, 0, none⟩) 1 1) (w1 := w5.alloc (.cells #[.slice p5 x c5] 30)) rfl (by rfl) ?_ ?_ ?_
      · go_simp
      · exact ⟨(HKQ5.out.alloc _).c 0, (HKP5.out.alloc _).c 0, ((HB5.out.alloc HB5.out.size _).cell (p := ⟨b, off + j, none⟩) (Nat.lt_of_lt_of_le HBL.out HB.out.size)).trans HCK.out⟩
      try simp only [Act.put, List.setIfInBounds_toArray, List.set_cons_zero, List.set_cons_succ, List.getElem_toArray, List.getElem_cons_zero, List.getElem_cons_succ]
      refine plan_nil ?_
      simp only [List.drop_succ_cons, List.drop_zero]
      have HB6 : Hid (Below wr.heap.size wr (w5.alloc (.cells #[.slice p5 x c5] 30))) := Lib.hid (HB5.out.alloc HB5.out.size _)
      have HRR6 := Lib.hid (HRR.out.alloc (.cells #[.slice p5 x c5] 30))
      have HOG6 := Lib.hid (HO.out.below HB6.out)
      have HOW : Hid ((w5.alloc (.cells #[.slice p5 x c5] 30)).ownsRow (w2.heap.size + 1) 30 1 (.slice pv j cv) j ys) := Lib.hid (by
        have := HOG6.out.row
        rw [HTL.out] at this
        exact this)
      have HKQ6 := Lib.hid (HKQ5.out.alloc (.cells #[.slice p5 x c5] 30))
      have HKP6 := Lib.hid (HKP5.out.alloc (.cells #[.slice p5 x c5] 30))
      have HKM6 := Lib.hid (HKM5.out.alloc (.cells #[.slice p5 x c5] 30))
      have HNW : Hid (Blk (w5.alloc (.cells #[.slice p5 x c5] 30)) w5.heap.size #[.slice p5 x c5]) := Lib.hid (Blk.new _ _ _)
      have HWS : Hid (w2.heap.size + 1 ≤ wr.heap.size) := Lib.hid HKQ.out.lt
      obtain ⟨w6, hw6⟩ : ∃ w6, w6 = w5.alloc (.cells #[.slice p5 x c5] 30) := ⟨_, rfl⟩
      rw [← hw6] at HB6 HRR6 HOG6 HOW HKQ6 HKP6 HKM6 HNW ⊢
      clear hw6 kP kQ HRR HKQ5 HKP5 HKM5 HKQ HKP HKM
      go_wp2_with (first | (at_builtin; refine wpList_append_sl rfl _ _ 22 rfl (w2.heap.size + 1) 30 i0 (.slice none 0 0) 1 24 Try.underlying22 HI0.out.1 HI0.out.2.1 HI0.out.2.2.1 HI0.out.2.2.2 rfl (by decide) _ _ _ rfl HOW.out (some ⟨w5.heap.size, 0, none⟩) 1 1 [.slice p5 x c5] rfl rfl (blk_sl HNW.out) (by intro u hu; rw [List.mem_singleton.1 hu]; rfl) (by unfold maxLen; omega) (by omega) (Nat.le_trans HWS.out HB6.out.size) ?_))
      intro v7 w7 g1 g2 g3
      have HO7 : Hid (OwnG (w2.heap.size + 1) w7 v7 (ys ++ [.slice p5 x c5]) (L.take (j + 1))) := Lib.hid (by
        rw [HTK.out]
        exact HO.out.step HWS.out HB6.out (by have := HRR6.out; rw [HX.out] at this ⊢; exact this) H256.out (by rw [HTL.out]; exact g1) g2 g3)
      have hob : ∀ g, (Value.slice pv j cv).ownBlock = some g → w2.heap.size + 1 ≤ g := fun g e => (HOW.out.lt g e).1
      have HQ7 := Lib.hid (HKQ6.out.grown g2 (fun e => by have := hob _ e; omega))
      have HP7 := Lib.hid (HKP6.out.grown g2 (fun e => by have := hob _ e; have := HSZ2.out; omega))
      have HM7 := Lib.hid (HKM6.out.grown g2 (fun e => by have := hob _ e; have := HSZ2.out; omega))
      have HB7 : Hid (Below w.heap.size w w7) := Lib.hid ((HB.out.trans (HB6.out.mono HB.out.size)).grown g2 (Nat.le_trans HB.out.size HB6.out.size) (fun g e => by have := hob g e; have := HSZ2.out; omega))
      obtain ⟨p7, c7, rfl, _⟩ := own_cap g1
      clear g1 g2 g3 hob
      have kQ := HQ7.out.c
      have fQ := HQ7.out.f
      have lQ := HQ7.out.lt
      go_wp2_with fail
      have HO8 := Lib.hid (HO7.out.off (R := w2.heap.size) (by omega) 0 (.slice p7 (j + 1) c7))
      have HQ8 := Lib.hid (HQ7.out.set (n := 0) (.slice p7 (j + 1) c7) (by simp))
      have HP8 := Lib.hid (HP7.out.other (B' := w2.heap.size) (n := 0) (.slice p7 (j + 1) c7) (by have := HSZ2.out; omega))
      have HM8 := Lib.hid (HM7.out.other (B' := w2.heap.size) (n := 0) (.slice p7 (j + 1) c7) (by have := HSZ2.out; omega))
      have HB8 := Lib.hid (HB7.out.setCell (p := ⟨w2.heap.size, 0, none⟩) (by show w.heap.size ≤ w2.heap.size; have := HSZ2.out; omega) (.slice p7 (j + 1) c7))
      go_roundw
      case rel => exact ⟨j + 1, by omega, by go_num, ⟨_, _, HO8.out, HQ8.out⟩, HP8.out, HM8.out, HB8.out⟩
      case measure => simp [intOf]; omega
    · have hjn : j = n := by omega
      subst hjn
      have hLt : L.take j = L := List.take_of_length_le (by rw [HZ.out]; omega)
      rw [hLt] at HO
      obtain ⟨pm, cm, e1, hplm, hoffm⟩ := HO.out.pl (by rw [HZ.out]; omega) HPL.out.l100
      injection e1 with e1 e2 e3
      clear e2
      subst e1 e3
      have HMI := Lib.hid hplm
      have HMO : Hid (Off (fun b => wr.heap.size ≤ b) pv ys L) := Lib.hid (hoffm.sub (fun b e => .inr e))
      have HPR := Lib.hid (HPL.out.below HB.out)
      have HPO : Hid (Off (fun b => wr.heap.size ≤ b) p0 xs L) := Lib.hid (HPL.out.off (fun b e => Nat.le_trans HB.out.size e))
      clear hplm hoffm hLt HTL HO HI0 HI5 hj hlt HB2 HPL HSZ2
      clear kP kQ
      have HV : Hid (Below wr.heap.size wr wr) := Lib.hid (Below.refl _ _)
      have HVP := HKP
      have HVM := HKM
      have HVQ := HKQ
      have HLP : Hid (w.heap.size < wr.heap.size) := Lib.hid HKP.out.lt
      have HLQ : Hid (w2.heap.size < wr.heap.size) := Lib.hid HKQ.out.lt
      have HLM : Hid (w.heap.size + 1 < wr.heap.size) := Lib.hid HKM.out.lt
      clear HKP HKM HKQ
      -- Send
      have kQ := HVQ.out.c
      have kM := HVM.out.c
      have kP := HVP.out.c
      go_wp2_with fail
      obtain ⟨D, hD⟩ : ∃ D, D = sendP L m := ⟨_, rfl⟩
      obtain ⟨E, hE⟩ : ∃ E, E = sendE L m := ⟨_, rfl⟩
      obtain ⟨d, hd⟩ : ∃ d, d = D.length := ⟨_, rfl⟩
      have hc := send_any pv j cv ys L m wr HZ.out (HMI.out.below HV.out) HMN.out HMV.out
      rw [HROW.out, ← hD, ← hE, ← hd] at hc
      have HD := Lib.hid hD
      have HE := Lib.hid hE
      have HDL := Lib.hid hd
      clear hD hE hd
      refine hc.mono ?_
      clear hc kQ kM kP
      rintro e V0a ⟨pa, ca, xa, rfl, ho⟩
      have HV1 : Hid (Below wr.heap.size wr V0a) := Lib.hid (HV.out.trans (ho.below.mono HV.out.size))
      have HWP := Lib.hid (HVP.out.below ho.below)
      have HWM := Lib.hid (HVM.out.below ho.below)
      have HWQ := Lib.hid (HVQ.out.below ho.below)
      have HPA := Lib.hid ho.pl
      have HOA := Lib.hid ho.off
      have HSV : Hid (wr.heap.size ≤ V0a.heap.size) := Lib.hid ho.below.size
      clear ho
      go_upto_region 11 with fail
      obtain ⟨V0b, hV⟩ : ∃ v, v = V0a.alloc (.cells #[.slice pa d ca] 24) := ⟨_, rfl⟩
      have HV2 : Hid (Below wr.heap.size wr V0b) := Lib.hid (by rw [hV]; exact HV1.out.alloc HV1.out.size _)
      have HXP := Lib.hid (HWP.out.alloc (.cells #[.slice pa d ca] 24))
      rw [← hV] at HXP
      have HXM := Lib.hid (HWM.out.alloc (.cells #[.slice pa d ca] 24))
      rw [← hV] at HXM
      have HXQ := Lib.hid (HWQ.out.alloc (.cells #[.slice pa d ca] 24))
      rw [← hV] at HXQ
      have HXA : Hid (Blk V0b V0a.heap.size #[.slice pa d ca]) := Lib.hid (by rw [hV]; exact Blk.new _ _ _)
      have HPA2 : Hid (Pl V0b pa xa D) := Lib.hid (by rw [hV]; exact HPA.out.below ((Below.refl _ _).alloc (Nat.le_refl _) _))
      obtain ⟨ba, hba⟩ : ∃ ba, ba = V0a.heap.size := ⟨_, rfl⟩
      have HBA : Hid (wr.heap.size ≤ ba) := Lib.hid (by rw [hba]; exact HV1.out.size)
      rw [← hV]
      rw [← hba] at HXA ⊢
      clear hV hba HV HVP HVM HVQ HWP HWM HWQ HV1 HPA
      have HV := HV2
      have kP := HXP.out.c
      have kM := HXM.out.c
      go_wp2_with fail
      have hc := rsend_any p0 j c xs L m V0b HZ.out (HPR.out.below HV.out) HMN.out HMV.out
      rw [HROW.out, ← HD.out, ← HE.out, ← HDL.out] at hc
      refine hc.mono ?_
      clear hc kP kM
      rintro e V0c ⟨pb, cb, xb, rfl, ho⟩
      have HV3 : Hid (Below wr.heap.size wr V0c) := Lib.hid (HV.out.trans (ho.below.mono HV.out.size))
      have HYP := Lib.hid (HXP.out.below ho.below)
      have HYM := Lib.hid (HXM.out.below ho.below)
      have HYQ := Lib.hid (HXQ.out.below ho.below)
      have HYA := Lib.hid (HXA.out.below ho.below)
      have HPA3 := Lib.hid (HPA2.out.below ho.below)
      have HPB := Lib.hid ho.pl
      have HOB : Hid (Off (fun b => wr.heap.size ≤ b ∧ b < V0b.heap.size) pb xb D) := Lib.hid (ho.off _ (fun b hb => hb.2) (HPO.out.sub (fun b hb => hb.1)))
      have HSV3 : Hid (V0b.heap.size ≤ V0c.heap.size) := Lib.hid ho.below.size
      clear ho HV HV2 HXP HXM HXQ HPA2
      go_upto_region 12 with fail
      obtain ⟨V0d, hV⟩ : ∃ v, v = V0c.alloc (.cells #[.slice pb d cb] 24) := ⟨_, rfl⟩
      have HV : Hid (Below wr.heap.size wr V0d) := Lib.hid (by rw [hV]; exact HV3.out.alloc HV3.out.size _)
      have HVP := Lib.hid (HYP.out.alloc (.cells #[.slice pb d cb] 24))
      rw [← hV] at HVP
      have HVM := Lib.hid (HYM.out.alloc (.cells #[.slice pb d cb] 24))
      rw [← hV] at HVM
      have HVQ := Lib.hid (HYQ.out.alloc (.cells #[.slice pb d cb] 24))
      rw [← hV] at HVQ
      have HVA := Lib.hid (HYA.out.alloc (.cells #[.slice pb d cb] 24))
      rw [← hV] at HVA
      have HVB : Hid (Blk V0d V0c.heap.size #[.slice pb d cb]) := Lib.hid (by rw [hV]; exact Blk.new _ _ _)
      have HPA4 : Hid (Pl V0d pa xa D) := Lib.hid (by rw [hV]; exact HPA3.out.below ((Below.refl _ _).alloc (Nat.le_refl _) _))
      have HPB4 : Hid (Pl V0d pb xb D) := Lib.hid (by rw [hV]; exact HPB.out.below ((Below.refl _ _).alloc (Nat.le_refl _) _))
      obtain ⟨bb, hbb⟩ : ∃ bb, bb = V0c.heap.size := ⟨_, rfl⟩
      have HBB : Hid (wr.heap.size ≤ bb) := Lib.hid (by rw [hbb]; exact HV3.out.size)
      have HNE : Hid (ba ≠ bb) := Lib.hid (by rw [hbb]; have := HYA.out.lt; omega)
      rw [← hV]
      rw [← hbb] at HVB ⊢
      clear hV hbb
      clear HYP HYM HYQ HYA HPA3 HPB HOA HOB HSV HSV3 HV3 HXA
      have kA := HVA.out.c
      have kB := HVB.out.c
      go_wp2_with fail
      refine (same_any pa d ca xa pb d cb xb D V0d HDL.out.symm HDL.out.symm HPA4.out HPB4.out).mono ?_
      rintro e V0e ⟨rfl, hb⟩
      have HVn : Hid (Below wr.heap.size wr V0e) := Lib.hid (HV.out.trans (hb.mono HV.out.size))
      have HWP := Lib.hid (HVP.out.below hb)
      have HWM := Lib.hid (HVM.out.below hb)
      have HWQ := Lib.hid (HVQ.out.below hb)
      have HWA := Lib.hid (HVA.out.below hb)
      have HWB := Lib.hid (HVB.out.below hb)
      have hEE : (E != E) = false := by simp
      clear hb HV HVP HVM HVQ HVA HVB HPA4 HPB4 HD HE HDL kA kB
      go_upto_region 14 with fail
      have HV := HVn
      have HVP := HWP
      have HVM := HWM
      have HVQ := HWQ
      have HVA := HWA
      have HVB := HWB
      have HBVB : Hid (bb < V0e.heap.size) := Lib.hid HVB.out.lt
      clear HVn HWP HWM HWQ HWA HWB hEE
      -- Take
      have kQ := HVQ.out.c
      go_wp2_with fail
      obtain ⟨D, hD⟩ : ∃ D, D = dropP L k := ⟨_, rfl⟩
      obtain ⟨E, hE⟩ : ∃ E, E = takeE L k := ⟨_, rfl⟩
      obtain ⟨d, hd⟩ : ∃ d, d = D.length := ⟨_, rfl⟩
      obtain ⟨tk, tf, tt, tl, to_, ta, town, tn, tv, hT⟩ := msg_parts (takeM L k)
      have HT := Lib.hid hT
      have hc := take_any pv j cv ys L k V0e HZ.out (HMI.out.below HV.out)
      rw [hT, ← hD, ← hE, ← hd] at hc
      have HD := Lib.hid hD
      have HE := Lib.hid hE
      have HDL := Lib.hid hd
      clear hD hE hd hT
      refine hc.mono ?_
      clear hc kQ
      rintro e V1a ⟨pa, ca, xa, rfl, ho⟩
      have HV1 : Hid (Below wr.heap.size wr V1a) := Lib.hid (HV.out.trans (ho.below.mono HV.out.size))
      have HWP := Lib.hid (HVP.out.below ho.below)
      have HWM := Lib.hid (HVM.out.below ho.below)
      have HWQ := Lib.hid (HVQ.out.below ho.below)
      have HWA := Lib.hid (HVA.out.below ho.below)
      have HWB := Lib.hid (HVB.out.below ho.below)
      have HPA := Lib.hid ho.pl
      have HOA := Lib.hid ho.off
      have HSV : Hid (V0e.heap.size ≤ V1a.heap.size) := Lib.hid ho.below.size
      clear ho
      have kA := HWA.out.c
      have fA := HWA.out.f
      have lA := HWA.out.lt
      go_upto_region 15 with fail
      obtain ⟨V1b, hV⟩ : ∃ v, v = (V1a.setCell ⟨ba, 0, none⟩ (.slice pa d ca)).alloc (.cells #[.int .i64 tk, .int .i64 tf, .int .i64 tt, .int .i64 tl, .int .i64 to_, .int .i64 ta, .bool town, .int .u32 tn, .int .u32 tv] 27) := ⟨_, rfl⟩
      have HV2 : Hid (Below wr.heap.size wr V1b) := Lib.hid (by rw [hV]; exact (HV1.out.setCell (p := ⟨ba, 0, none⟩) HBA.out _).alloc (by rw [size_set]; exact HV1.out.size) _)
      have HXP := Lib.hid ((HWP.out.other (B' := ba) (n := 0) (.slice pa d ca) (by have := HBA.out; have := HLP.out; omega)).alloc (.cells #[.int .i64 tk, .int .i64 tf, .int .i64 tt, .int .i64 tl, .int .i64 to_, .int .i64 ta, .bool town, .int .u32 tn, .int .u32 tv] 27))
      rw [← hV] at HXP
      have HXM := Lib.hid ((HWM.out.other (B' := ba) (n := 0) (.slice pa d ca) (by have := HBA.out; have := HLM.out; omega)).alloc (.cells #[.int .i64 tk, .int .i64 tf, .int .i64 tt, .int .i64 tl, .int .i64 to_, .int .i64 ta, .bool town, .int .u32 tn, .int .u32 tv] 27))
      rw [← hV] at HXM
      have HXQ := Lib.hid ((HWQ.out.other (B' := ba) (n := 0) (.slice pa d ca) (by have := HBA.out; have := HLQ.out; omega)).alloc (.cells #[.int .i64 tk, .int .i64 tf, .int .i64 tt, .int .i64 tl, .int .i64 to_, .int .i64 ta, .bool town, .int .u32 tn, .int .u32 tv] 27))
      rw [← hV] at HXQ
      have HXB := Lib.hid ((HWB.out.other (B' := ba) (n := 0) (.slice pa d ca) HNE.out).alloc (.cells #[.int .i64 tk, .int .i64 tf, .int .i64 tt, .int .i64 tl, .int .i64 to_, .int .i64 ta, .bool town, .int .u32 tn, .int .u32 tv] 27))
      rw [← hV] at HXB
      have HXA := Lib.hid ((HWA.out.set (n := 0) (.slice pa d ca) (by simp)).alloc (.cells #[.int .i64 tk, .int .i64 tf, .int .i64 tt, .int .i64 tl, .int .i64 to_, .int .i64 ta, .bool town, .int .u32 tn, .int .u32 tv] 27))
      rw [← hV] at HXA
      have HBV : Hid (ba < V0e.heap.size) := Lib.hid (Nat.lt_of_lt_of_le HVA.out.lt (Nat.le_refl _))
      have HXT : Hid (Blk V1b V1a.heap.size #[.int .i64 tk, .int .i64 tf, .int .i64 tt, .int .i64 tl, .int .i64 to_, .int .i64 ta, .bool town, .int .u32 tn, .int .u32 tv]) := Lib.hid (by
        rw [hV]
        have := Blk.new (V1a.setCell ⟨ba, 0, none⟩ (.slice pa d ca)) #[.int .i64 tk, .int .i64 tf, .int .i64 tt, .int .i64 tl, .int .i64 to_, .int .i64 ta, .bool town, .int .u32 tn, .int .u32 tv] 27
        rw [size_set] at this
        exact this)
      have HPA2 : Hid (Pl V1b pa xa D) := Lib.hid (by rw [hV]; exact (HPA.out.set (HOA.out.sub (fun b e => by have := HBV.out; omega)) 0 _).below ((Below.refl _ _).alloc (Nat.le_refl _) _))
      have HTL : Hid (V1a.heap.size < V1b.heap.size ∧ V0e.heap.size ≤ V1a.heap.size) := Lib.hid ⟨HXT.out.lt, HSV.out⟩
      rw [← hV]
      clear hV HV HVP HVM HVQ HVA HVB HWP HWM HWQ HWA HWB HV1 HPA kA fA lA
      have HV := HV2
      have kP := HXP.out.c
      go_wp2_with fail
      have hc := rtake_any p0 j c xs L k V1b HZ.out (HPR.out.below HV.out)
      rw [HT.out, ← HD.out, ← HE.out, ← HDL.out] at hc
      refine hc.mono ?_
      clear hc kP
      rintro e V1c ⟨pb, cb, xb, rfl, ho⟩
      have HV3 : Hid (Below wr.heap.size wr V1c) := Lib.hid (HV.out.trans (ho.below.mono HV.out.size))
      have HYP := Lib.hid (HXP.out.below ho.below)
      have HYM := Lib.hid (HXM.out.below ho.below)
      have HYQ := Lib.hid (HXQ.out.below ho.below)
      have HYA := Lib.hid (HXA.out.below ho.below)
      have HYB := Lib.hid (HXB.out.below ho.below)
      have HYT := Lib.hid (HXT.out.below ho.below)
      have HPA3 := Lib.hid (HPA2.out.below ho.below)
      have HPB := Lib.hid ho.pl
      have HOB : Hid (Off (fun b => wr.heap.size ≤ b ∧ b < V1b.heap.size) pb xb D) := Lib.hid (ho.off _ (fun b hb => hb.2) (HPO.out.sub (fun b hb => hb.1)))
      have HSV3 : Hid (V1b.heap.size ≤ V1c.heap.size) := Lib.hid ho.below.size
      clear ho HV HV2 HXP HXM HXQ HPA2
      have kB := HYB.out.c
      have fB := HYB.out.f
      have lB := HYB.out.lt
      go_upto_region 16 with fail
      obtain ⟨V1d, hV⟩ : ∃ v, v = (V1c.setCell ⟨bb, 0, none⟩ (.slice pb d cb)).alloc (.cells #[.int .i64 tk, .int .i64 tf, .int .i64 tt, .int .i64 tl, .int .i64 to_, .int .i64 ta, .bool town, .int .u32 tn, .int .u32 tv] 27) := ⟨_, rfl⟩
      have HV : Hid (Below wr.heap.size wr V1d) := Lib.hid (by rw [hV]; exact (HV3.out.setCell (p := ⟨bb, 0, none⟩) HBB.out _).alloc (by rw [size_set]; exact HV3.out.size) _)
      have HBV2 : Hid (bb < V1b.heap.size) := Lib.hid HXB.out.lt
      have HBV1 : Hid (bb < V0e.heap.size) := HBVB
      have HVP := Lib.hid ((HYP.out.other (B' := bb) (n := 0) (.slice pb d cb) (by have := HBB.out; have := HLP.out; omega)).alloc (.cells #[.int .i64 tk, .int .i64 tf, .int .i64 tt, .int .i64 tl, .int .i64 to_, .int .i64 ta, .bool town, .int .u32 tn, .int .u32 tv] 27))
      rw [← hV] at HVP
      have HVM := Lib.hid ((HYM.out.other (B' := bb) (n := 0) (.slice pb d cb) (by have := HBB.out; have := HLM.out; omega)).alloc (.cells #[.int .i64 tk, .int .i64 tf, .int .i64 tt, .int .i64 tl, .int .i64 to_, .int .i64 ta, .bool town, .int .u32 tn, .int .u32 tv] 27))
      rw [← hV] at HVM
      have HVQ := Lib.hid ((HYQ.out.other (B' := bb) (n := 0) (.slice pb d cb) (by have := HBB.out; have := HLQ.out; omega)).alloc (.cells #[.int .i64 tk, .int .i64 tf, .int .i64 tt, .int .i64 tl, .int .i64 to_, .int .i64 ta, .bool town, .int .u32 tn, .int .u32 tv] 27))
      rw [← hV] at HVQ
      have HVA := Lib.hid ((HYA.out.other (B' := bb) (n := 0) (.slice pb d cb) (Ne.symm HNE.out)).alloc (.cells #[.int .i64 tk, .int .i64 tf, .int .i64 tt, .int .i64 tl, .int .i64 to_, .int .i64 ta, .bool town, .int .u32 tn, .int .u32 tv] 27))
      rw [← hV] at HVA
      have HVT := Lib.hid ((HYT.out.other (B' := bb) (n := 0) (.slice pb d cb) (by have := HBV1.out; have := HTL.out; omega)).alloc (.cells #[.int .i64 tk, .int .i64 tf, .int .i64 tt, .int .i64 tl, .int .i64 to_, .int .i64 ta, .bool town, .int .u32 tn, .int .u32 tv] 27))
      rw [← hV] at HVT
      have HVB := Lib.hid ((HYB.out.set (n := 0) (.slice pb d cb) (by simp)).alloc (.cells #[.int .i64 tk, .int .i64 tf, .int .i64 tt, .int .i64 tl, .int .i64 to_, .int .i64 ta, .bool town, .int .u32 tn, .int .u32 tv] 27))
      rw [← hV] at HVB
      have HVU : Hid (Blk V1d V1c.heap.size #[.int .i64 tk, .int .i64 tf, .int .i64 tt, .int .i64 tl, .int .i64 to_, .int .i64 ta, .bool town, .int .u32 tn, .int .u32 tv]) := Lib.hid (by
        rw [hV]
        have := Blk.new (V1c.setCell ⟨bb, 0, none⟩ (.slice pb d cb)) #[.int .i64 tk, .int .i64 tf, .int .i64 tt, .int .i64 tl, .int .i64 to_, .int .i64 ta, .bool town, .int .u32 tn, .int .u32 tv] 27
        rw [size_set] at this
        exact this)
      have HPA4 : Hid (Pl V1d pa xa D) := Lib.hid (by rw [hV]; exact (HPA3.out.set (HOA.out.sub (fun b e => by have := HBV1.out; omega)) 0 _).below ((Below.refl _ _).alloc (Nat.le_refl _) _))
      have HPB4 : Hid (Pl V1d pb xb D) := Lib.hid (by rw [hV]; exact (HPB.out.set (HOB.out.sub (fun b e => by have := HBB.out; have := HBV2.out; omega)) 0 _).below ((Below.refl _ _).alloc (Nat.le_refl _) _))
      rw [← hV]
      clear hV kB fB lB
      clear HYP HYM HYQ HYA HPA3 HPB HOA HOB HSV HSV3 HV3 HXA HYB HXB HYT HXT HBV HBV1 HBV2 HTL
      clear HBVB
      have kA := HVA.out.c
      have kB := HVB.out.c
      go_wp2_with fail
      refine (same_any pa d ca xa pb d cb xb D V1d HDL.out.symm HDL.out.symm HPA4.out HPB4.out).mono ?_
      rintro e V1e ⟨rfl, hb⟩
      have HVn : Hid (Below wr.heap.size wr V1e) := Lib.hid (HV.out.trans (hb.mono HV.out.size))
      have HWP := Lib.hid (HVP.out.below hb)
      have HWM := Lib.hid (HVM.out.below hb)
      have HWQ := Lib.hid (HVQ.out.below hb)
      have HWA := Lib.hid (HVA.out.below hb)
      have HWB := Lib.hid (HVB.out.below hb)
      have HWT := Lib.hid (HVT.out.below hb)
      have HWU := Lib.hid (HVU.out.below hb)
      have hEE : (E != E) = false := by simp
      have hTT : ∀ W, (binOp .neq 27 (.agg #[.int .i64 tk, .int .i64 tf, .int .i64 tt, .int .i64 tl, .int .i64 to_, .int .i64 ta, .bool town, .int .u32 tn, .int .u32 tv]) (.agg #[.int .i64 tk, .int .i64 tf, .int .i64 tt, .int .i64 tl, .int .i64 to_, .int .i64 ta, .bool town, .int .u32 tn, .int .u32 tv])).run Try.prog W = .ok (.bool false) W := fun W => by
        have := neq_msg W (takeM L k) (takeM L k)
        rw [eqM_refl, HT.out] at this
        exact this
      have kT := HWT.out.c
      have kU := HWU.out.c
      clear hb HV HVP HVM HVQ HVA HVB HPA4 HPB4 HD HE HDL kA kB HVT HVU
      go_upto_region 18 with fail
      have HV := HVn
      have HVP := HWP
      have HVM := HWM
      have HVQ := HWQ
      have HVA := HWA
      have HVB := HWB
      have HBVB : Hid (bb < V1e.heap.size) := Lib.hid HVB.out.lt
      clear HVn HWP HWM HWQ HWA HWB hEE hTT kT kU HWT HWU HT
      -- Drop
      have kQ := HVQ.out.c
      go_wp2_with fail
      obtain ⟨D, hD⟩ : ∃ D, D = dropP L k := ⟨_, rfl⟩
      obtain ⟨E, hE⟩ : ∃ E, E = checkP L k := ⟨_, rfl⟩
      obtain ⟨d, hd⟩ : ∃ d, d = D.length := ⟨_, rfl⟩
      have hc := drop_any pv j cv ys L k V1e HZ.out (HMI.out.below HV.out)
      rw [← hD, ← hE, ← hd] at hc
      have HD := Lib.hid hD
      have HE := Lib.hid hE
      have HDL := Lib.hid hd
      clear hD hE hd
      refine hc.mono ?_
      clear hc kQ
      rintro e V2a ⟨pa, ca, xa, rfl, ho⟩
      have HV1 : Hid (Below wr.heap.size wr V2a) := Lib.hid (HV.out.trans (ho.below.mono HV.out.size))
      have HWP := Lib.hid (HVP.out.below ho.below)
      have HWM := Lib.hid (HVM.out.below ho.below)
      have HWQ := Lib.hid (HVQ.out.below ho.below)
      have HWA := Lib.hid (HVA.out.below ho.below)
      have HWB := Lib.hid (HVB.out.below ho.below)
      have HPA := Lib.hid ho.pl
      have HOA := Lib.hid ho.off
      have HSV : Hid (V1e.heap.size ≤ V2a.heap.size) := Lib.hid ho.below.size
      clear ho
      have kA := HWA.out.c
      have fA := HWA.out.f
      have lA := HWA.out.lt
      go_upto_region 19 with fail
      obtain ⟨V2b, hV⟩ : ∃ v, v = V2a.setCell ⟨ba, 0, none⟩ (.slice pa d ca) := ⟨_, rfl⟩
      have HV2 : Hid (Below wr.heap.size wr V2b) := Lib.hid (by rw [hV]; exact HV1.out.setCell (p := ⟨ba, 0, none⟩) HBA.out _)
      have HXP := Lib.hid (HWP.out.other (B' := ba) (n := 0) (.slice pa d ca) (by have := HBA.out; have := HLP.out; omega))
      rw [← hV] at HXP
      have HXM := Lib.hid (HWM.out.other (B' := ba) (n := 0) (.slice pa d ca) (by have := HBA.out; have := HLM.out; omega))
      rw [← hV] at HXM
      have HXQ := Lib.hid (HWQ.out.other (B' := ba) (n := 0) (.slice pa d ca) (by have := HBA.out; have := HLQ.out; omega))
      rw [← hV] at HXQ
      have HXB := Lib.hid (HWB.out.other (B' := ba) (n := 0) (.slice pa d ca) HNE.out)
      rw [← hV] at HXB
      have HXA := Lib.hid (HWA.out.set (n := 0) (.slice pa d ca) (by simp))
      rw [← hV] at HXA
      have HPA2 : Hid (Pl V2b pa xa D) := Lib.hid (by rw [hV]; exact HPA.out.set (HOA.out.sub (fun b e => by have := HVA.out.lt; omega)) 0 _)
      rw [← hV]
      clear hV HV HVP HVM HVQ HVB HWP HWM HWQ HWA HWB HV1 HPA kA fA lA
      have HV := HV2
      have kP := HXP.out.c
      go_wp2_with fail
      have hc := rdrop_any p0 j c xs L k V2b HZ.out (HPR.out.below HV.out)
      rw [← HD.out, ← HE.out, ← HDL.out] at hc
      refine hc.mono ?_
      clear hc kP
      rintro e V2c ⟨pb, cb, xb, rfl, ho⟩
      have HV3 : Hid (Below wr.heap.size wr V2c) := Lib.hid (HV.out.trans (ho.below.mono HV.out.size))
      have HYP := Lib.hid (HXP.out.below ho.below)
      have HYM := Lib.hid (HXM.out.below ho.below)
      have HYQ := Lib.hid (HXQ.out.below ho.below)
      have HYA := Lib.hid (HXA.out.below ho.below)
      have HYB := Lib.hid (HXB.out.below ho.below)
      have HPA3 := Lib.hid (HPA2.out.below ho.below)
      have HPB := Lib.hid ho.pl
      have HOB : Hid (Off (fun b => wr.heap.size ≤ b ∧ b < V2b.heap.size) pb xb D) := Lib.hid (ho.off _ (fun b hb => hb.2) (HPO.out.sub (fun b hb => hb.1)))
      have HSV3 : Hid (V2b.heap.size ≤ V2c.heap.size) := Lib.hid ho.below.size
      clear ho HV HV2 HXP HXM HXQ HPA2
      have kB := HYB.out.c
      have fB := HYB.out.f
      have lB := HYB.out.lt
      go_upto_region 20 with fail
      obtain ⟨V2d, hV⟩ : ∃ v, v = V2c.setCell ⟨bb, 0, none⟩ (.slice pb d cb) := ⟨_, rfl⟩
      have HV : Hid (Below wr.heap.size wr V2d) := Lib.hid (by rw [hV]; exact HV3.out.setCell (p := ⟨bb, 0, none⟩) HBB.out _)
      have HBV2 : Hid (bb < V2b.heap.size) := Lib.hid HXB.out.lt
      have HVP := Lib.hid (HYP.out.other (B' := bb) (n := 0) (.slice pb d cb) (by have := HBB.out; have := HLP.out; omega))
      rw [← hV] at HVP
      have HVM := Lib.hid (HYM.out.other (B' := bb) (n := 0) (.slice pb d cb) (by have := HBB.out; have := HLM.out; omega))
      rw [← hV] at HVM
      have HVQ := Lib.hid (HYQ.out.other (B' := bb) (n := 0) (.slice pb d cb) (by have := HBB.out; have := HLQ.out; omega))
      rw [← hV] at HVQ
      have HVA := Lib.hid (HYA.out.other (B' := bb) (n := 0) (.slice pb d cb) (Ne.symm HNE.out))
      rw [← hV] at HVA
      have HVB := Lib.hid (HYB.out.set (n := 0) (.slice pb d cb) (by simp))
      rw [← hV] at HVB
      have HPA4 : Hid (Pl V2d pa xa D) := Lib.hid (by rw [hV]; exact HPA3.out.set (HOA.out.sub (fun b e => by have := HBVB.out; omega)) 0 _)
      have HPB4 : Hid (Pl V2d pb xb D) := Lib.hid (by rw [hV]; exact HPB.out.set (HOB.out.sub (fun b e => by have := HBB.out; have := HBV2.out; omega)) 0 _)
      rw [← hV]
      clear hV kB fB lB HBV2
      clear HYP HYM HYQ HYA HPA3 HPB HOA HOB HSV HSV3 HV3 HXA HYB HXB
      clear HBVB
      have kA := HVA.out.c
      have kB := HVB.out.c
      go_wp2_with fail
      refine (same_any pa d ca xa pb d cb xb D V2d HDL.out.symm HDL.out.symm HPA4.out HPB4.out).mono ?_
      rintro e V2e ⟨rfl, hb⟩
      have HVn : Hid (Below wr.heap.size wr V2e) := Lib.hid (HV.out.trans (hb.mono HV.out.size))
      have HWP := Lib.hid (HVP.out.below hb)
      have HWM := Lib.hid (HVM.out.below hb)
      have HWQ := Lib.hid (HVQ.out.below hb)
      have HWA := Lib.hid (HVA.out.below hb)
      have HWB := Lib.hid (HVB.out.below hb)
      have hEE : (E != E) = false := by simp
      clear hb HV HVP HVM HVQ HVA HVB HPA4 HPB4 HD HE HDL kA kB
      go_upto_region 22 with fail
      have HV := HVn
      have HVP := HWP
      have HVM := HWM
      have HVQ := HWQ
      have HVA := HWA
      have HVB := HWB
      have HBVB : Hid (bb < V2e.heap.size) := Lib.hid HVB.out.lt
      clear HVn HWP HWM HWQ HWA HWB hEE
      -- Twice
      have kQ := HVQ.out.c
      go_wp2_with fail
      obtain ⟨D, hD⟩ : ∃ D, D = twiceP L k := ⟨_, rfl⟩
      obtain ⟨E, hE⟩ : ∃ E, E = twiceE L k := ⟨_, rfl⟩
      obtain ⟨d, hd⟩ : ∃ d, d = D.length := ⟨_, rfl⟩
      have hc := twice_any pv j cv ys L k V2e HZ.out (HMI.out.below HV.out)
      rw [← hD, ← hE, ← hd] at hc
      have HD := Lib.hid hD
      have HE := Lib.hid hE
      have HDL := Lib.hid hd
      clear hD hE hd
      refine hc.mono ?_
      clear hc kQ
      rintro e V3a ⟨pa, ca, xa, rfl, ho⟩
      have HV1 : Hid (Below wr.heap.size wr V3a) := Lib.hid (HV.out.trans (ho.below.mono HV.out.size))
      have HWP := Lib.hid (HVP.out.below ho.below)
      have HWM := Lib.hid (HVM.out.below ho.below)
      have HWQ := Lib.hid (HVQ.out.below ho.below)
      have HWA := Lib.hid (HVA.out.below ho.below)
      have HWB := Lib.hid (HVB.out.below ho.below)
      have HPA := Lib.hid ho.pl
      have HOA := Lib.hid ho.off
      have HSV : Hid (V2e.heap.size ≤ V3a.heap.size) := Lib.hid ho.below.size
      clear ho
      have kA := HWA.out.c
      have fA := HWA.out.f
      have lA := HWA.out.lt
      go_upto_region 23 with fail
      obtain ⟨V3b, hV⟩ : ∃ v, v = V3a.setCell ⟨ba, 0, none⟩ (.slice pa d ca) := ⟨_, rfl⟩
      have HV2 : Hid (Below wr.heap.size wr V3b) := Lib.hid (by rw [hV]; exact HV1.out.setCell (p := ⟨ba, 0, none⟩) HBA.out _)
      have HXP := Lib.hid (HWP.out.other (B' := ba) (n := 0) (.slice pa d ca) (by have := HBA.out; have := HLP.out; omega))
      rw [← hV] at HXP
      have HXM := Lib.hid (HWM.out.other (B' := ba) (n := 0) (.slice pa d ca) (by have := HBA.out; have := HLM.out; omega))
      rw [← hV] at HXM
      have HXQ := Lib.hid (HWQ.out.other (B' := ba) (n := 0) (.slice pa d ca) (by have := HBA.out; have := HLQ.out; omega))
      rw [← hV] at HXQ
      have HXB := Lib.hid (HWB.out.other (B' := ba) (n := 0) (.slice pa d ca) HNE.out)
      rw [← hV] at HXB
      have HXA := Lib.hid (HWA.out.set (n := 0) (.slice pa d ca) (by simp))
      rw [← hV] at HXA
      have HPA2 : Hid (Pl V3b pa xa D) := Lib.hid (by rw [hV]; exact HPA.out.set (HOA.out.sub (fun b e => by have := HVA.out.lt; omega)) 0 _)
      rw [← hV]
      clear hV HV HVP HVM HVQ HVB HWP HWM HWQ HWA HWB HV1 HPA kA fA lA
      have HV := HV2
      have kP := HXP.out.c
      go_wp2_with fail
      have hc := rtwice_any p0 j c xs L k V3b HZ.out (HPR.out.below HV.out)
      rw [← HD.out, ← HE.out, ← HDL.out] at hc
      refine hc.mono ?_
      clear hc kP
      rintro e V3c ⟨pb, cb, xb, rfl, ho⟩
      have HV3 : Hid (Below wr.heap.size wr V3c) := Lib.hid (HV.out.trans (ho.below.mono HV.out.size))
      have HYP := Lib.hid (HXP.out.below ho.below)
      have HYM := Lib.hid (HXM.out.below ho.below)
      have HYQ := Lib.hid (HXQ.out.below ho.below)
      have HYA := Lib.hid (HXA.out.below ho.below)
      have HYB := Lib.hid (HXB.out.below ho.below)
      have HPA3 := Lib.hid (HPA2.out.below ho.below)
      have HPB := Lib.hid ho.pl
      have HOB : Hid (Off (fun b => wr.heap.size ≤ b ∧ b < V3b.heap.size) pb xb D) := Lib.hid (ho.off _ (fun b hb => hb.2) (HPO.out.sub (fun b hb => hb.1)))
      have HSV3 : Hid (V3b.heap.size ≤ V3c.heap.size) := Lib.hid ho.below.size
      clear ho HV HV2 HXP HXM HXQ HPA2
      have kB := HYB.out.c
      have fB := HYB.out.f
      have lB := HYB.out.lt
      go_upto_region 24 with fail
      obtain ⟨V3d, hV⟩ : ∃ v, v = V3c.setCell ⟨bb, 0, none⟩ (.slice pb d cb) := ⟨_, rfl⟩
      have HV : Hid (Below wr.heap.size wr V3d) := Lib.hid (by rw [hV]; exact HV3.out.setCell (p := ⟨bb, 0, none⟩) HBB.out _)
      have HBV2 : Hid (bb < V3b.heap.size) := Lib.hid HXB.out.lt
      have HVP := Lib.hid (HYP.out.other (B' := bb) (n := 0) (.slice pb d cb) (by have := HBB.out; have := HLP.out; omega))
      rw [← hV] at HVP
      have HVM := Lib.hid (HYM.out.other (B' := bb) (n := 0) (.slice pb d cb) (by have := HBB.out; have := HLM.out; omega))
      rw [← hV] at HVM
      have HVQ := Lib.hid (HYQ.out.other (B' := bb) (n := 0) (.slice pb d cb) (by have := HBB.out; have := HLQ.out; omega))
      rw [← hV] at HVQ
      have HVA := Lib.hid (HYA.out.other (B' := bb) (n := 0) (.slice pb d cb) (Ne.symm HNE.out))
      rw [← hV] at HVA
      have HVB := Lib.hid (HYB.out.set (n := 0) (.slice pb d cb) (by simp))
      rw [← hV] at HVB
      have HPA4 : Hid (Pl V3d pa xa D) := Lib.hid (by rw [hV]; exact HPA3.out.set (HOA.out.sub (fun b e => by have := HBVB.out; omega)) 0 _)
      have HPB4 : Hid (Pl V3d pb xb D) := Lib.hid (by rw [hV]; exact HPB.out.set (HOB.out.sub (fun b e => by have := HBB.out; have := HBV2.out; omega)) 0 _)
      rw [← hV]
      clear hV kB fB lB HBV2
      clear HYP HYM HYQ HYA HPA3 HPB HOA HOB HSV HSV3 HV3 HXA HYB HXB
      clear HBVB
      have kA := HVA.out.c
      have kB := HVB.out.c
      go_wp2_with fail
      refine (same_any pa d ca xa pb d cb xb D V3d HDL.out.symm HDL.out.symm HPA4.out HPB4.out).mono ?_
      rintro e V3e ⟨rfl, hb⟩
      have HVn : Hid (Below wr.heap.size wr V3e) := Lib.hid (HV.out.trans (hb.mono HV.out.size))
      have HWP := Lib.hid (HVP.out.below hb)
      have HWM := Lib.hid (HVM.out.below hb)
      have HWQ := Lib.hid (HVQ.out.below hb)
      have HWA := Lib.hid (HVA.out.below hb)
      have HWB := Lib.hid (HVB.out.below hb)
      have hEE : (E != E) = false := by simp
      clear hb HV HVP HVM HVQ HVA HVB HPA4 HPB4 HD HE HDL kA kB
      go_upto_region 26 with fail
      have HV := HVn
      have HVP := HWP
      have HVM := HWM
      have HVQ := HWQ
      have HVA := HWA
      have HVB := HWB
      have HBVB : Hid (bb < V3e.heap.size) := Lib.hid HVB.out.lt
      clear HVn HWP HWM HWQ HWA HWB hEE
      -- Spoil
      have kQ := HVQ.out.c
      go_wp2_with fail
      obtain ⟨D, hD⟩ : ∃ D, D = spoilP L k bit := ⟨_, rfl⟩
      obtain ⟨E, hE⟩ : ∃ E, E = spoilE L k bit := ⟨_, rfl⟩
      obtain ⟨d, hd⟩ : ∃ d, d = D.length := ⟨_, rfl⟩
      have hc := spoil_any pv j cv ys L k bit V3e HZ.out (HMI.out.below HV.out)
      rw [← hD, ← hE, ← hd] at hc
      have HD := Lib.hid hD
      have HE := Lib.hid hE
      have HDL := Lib.hid hd
      clear hD hE hd
      refine hc.mono ?_
      clear hc kQ
      rintro e V4a ⟨pa, ca, xa, rfl, ho⟩
      have HV1 : Hid (Below wr.heap.size wr V4a) := Lib.hid (HV.out.trans (ho.below.mono HV.out.size))
      have HWP := Lib.hid (HVP.out.below ho.below)
      have HWM := Lib.hid (HVM.out.below ho.below)
      have HWQ := Lib.hid (HVQ.out.below ho.below)
      have HWA := Lib.hid (HVA.out.below ho.below)
      have HWB := Lib.hid (HVB.out.below ho.below)
      have HPA := Lib.hid ho.pl
      have HOA := Lib.hid ho.off
      have HSV : Hid (V3e.heap.size ≤ V4a.heap.size) := Lib.hid ho.below.size
      clear ho
      have kA := HWA.out.c
      have fA := HWA.out.f
      have lA := HWA.out.lt
      go_upto_region 27 with fail
      obtain ⟨V4b, hV⟩ : ∃ v, v = V4a.setCell ⟨ba, 0, none⟩ (.slice pa d ca) := ⟨_, rfl⟩
      have HV2 : Hid (Below wr.heap.size wr V4b) := Lib.hid (by rw [hV]; exact HV1.out.setCell (p := ⟨ba, 0, none⟩) HBA.out _)
      have HXP := Lib.hid (HWP.out.other (B' := ba) (n := 0) (.slice pa d ca) (by have := HBA.out; have := HLP.out; omega))
      rw [← hV] at HXP
      have HXM := Lib.hid (HWM.out.other (B' := ba) (n := 0) (.slice pa d ca) (by have := HBA.out; have := HLM.out; omega))
      rw [← hV] at HXM
      have HXQ := Lib.hid (HWQ.out.other (B' := ba) (n := 0) (.slice pa d ca) (by have := HBA.out; have := HLQ.out; omega))
      rw [← hV] at HXQ
      have HXB := Lib.hid (HWB.out.other (B' := ba) (n := 0) (.slice pa d ca) HNE.out)
      rw [← hV] at HXB
      have HXA := Lib.hid (HWA.out.set (n := 0) (.slice pa d ca) (by simp))
      rw [← hV] at HXA
      have HPA2 : Hid (Pl V4b pa xa D) := Lib.hid (by rw [hV]; exact HPA.out.set (HOA.out.sub (fun b e => by have := HVA.out.lt; omega)) 0 _)
      rw [← hV]
      clear hV HV HVP HVM HVQ HVB HWP HWM HWQ HWA HWB HV1 HPA kA fA lA
      have HV := HV2
      have kP := HXP.out.c
      go_wp2_with fail
      have hc := rspoil_any p0 j c xs L k bit V4b HZ.out (HPR.out.below HV.out)
      rw [← HD.out, ← HE.out, ← HDL.out] at hc
      refine hc.mono ?_
      clear hc kP
      rintro e V4c ⟨pb, cb, xb, rfl, ho⟩
      have HV3 : Hid (Below wr.heap.size wr V4c) := Lib.hid (HV.out.trans (ho.below.mono HV.out.size))
      have HYP := Lib.hid (HXP.out.below ho.below)
      have HYM := Lib.hid (HXM.out.below ho.below)
      have HYQ := Lib.hid (HXQ.out.below ho.below)
      have HYA := Lib.hid (HXA.out.below ho.below)
      have HYB := Lib.hid (HXB.out.below ho.below)
      have HPA3 := Lib.hid (HPA2.out.below ho.below)
      have HPB := Lib.hid ho.pl
      have HOB : Hid (Off (fun b => wr.heap.size ≤ b ∧ b < V4b.heap.size) pb xb D) := Lib.hid (ho.off _ (fun b hb => hb.2) (HPO.out.sub (fun b hb => hb.1)))
      have HSV3 : Hid (V4b.heap.size ≤ V4c.heap.size) := Lib.hid ho.below.size
      clear ho HV HV2 HXP HXM HXQ HPA2
      have kB := HYB.out.c
      have fB := HYB.out.f
      have lB := HYB.out.lt
      go_upto_region 28 with fail
      obtain ⟨V4d, hV⟩ : ∃ v, v = V4c.setCell ⟨bb, 0, none⟩ (.slice pb d cb) := ⟨_, rfl⟩
      have HV : Hid (Below wr.heap.size wr V4d) := Lib.hid (by rw [hV]; exact HV3.out.setCell (p := ⟨bb, 0, none⟩) HBB.out _)
      have HBV2 : Hid (bb < V4b.heap.size) := Lib.hid HXB.out.lt
      have HVP := Lib.hid (HYP.out.other (B' := bb) (n := 0) (.slice pb d cb) (by have := HBB.out; have := HLP.out; omega))
      rw [← hV] at HVP
      have HVM := Lib.hid (HYM.out.other (B' := bb) (n := 0) (.slice pb d cb) (by have := HBB.out; have := HLM.out; omega))
      rw [← hV] at HVM
      have HVQ := Lib.hid (HYQ.out.other (B' := bb) (n := 0) (.slice pb d cb) (by have := HBB.out; have := HLQ.out; omega))
      rw [← hV] at HVQ
      have HVA := Lib.hid (HYA.out.other (B' := bb) (n := 0) (.slice pb d cb) (Ne.symm HNE.out))
      rw [← hV] at HVA
      have HVB := Lib.hid (HYB.out.set (n := 0) (.slice pb d cb) (by simp))
      rw [← hV] at HVB
      have HPA4 : Hid (Pl V4d pa xa D) := Lib.hid (by rw [hV]; exact HPA3.out.set (HOA.out.sub (fun b e => by have := HBVB.out; omega)) 0 _)
      have HPB4 : Hid (Pl V4d pb xb D) := Lib.hid (by rw [hV]; exact HPB.out.set (HOB.out.sub (fun b e => by have := HBB.out; have := HBV2.out; omega)) 0 _)
      rw [← hV]
      clear hV kB fB lB HBV2
      clear HYP HYM HYQ HYA HPA3 HPB HOA HOB HSV HSV3 HV3 HXA HYB HXB
      clear HBVB
      have kA := HVA.out.c
      have kB := HVB.out.c
      have kP := HVP.out.c
      have kQ := HVQ.out.c
      go_wp2_with fail
      have hc := rright_any p0 j c xs L V4d HZ.out (HPR.out.below HV.out)
      obtain ⟨rb, hrb⟩ : ∃ rb, rb = rightP L := ⟨_, rfl⟩
      rw [← hrb] at hc
      have HRB := Lib.hid hrb
      refine hc.mono ?_
      clear hc hrb kA kB kP kQ
      rintro e V5 ⟨rfl, hb⟩
      have HV5 : Hid (Below wr.heap.size wr V5) := Lib.hid (HV.out.trans (hb.mono HV.out.size))
      have HWP := Lib.hid (HVP.out.below hb)
      have HWQ := Lib.hid (HVQ.out.below hb)
      have HWA := Lib.hid (HVA.out.below hb)
      have HWB := Lib.hid (HVB.out.below hb)
      have HPA5 := Lib.hid (HPA4.out.below hb)
      have HPB5 := Lib.hid (HPB4.out.below hb)
      have HMI5 := Lib.hid (HMI.out.below HV5.out)
      have HPR5 := Lib.hid (HPR.out.below HV5.out)
      have hEq : (E == E) = true := by simp
      clear hb HV HVP HVM HVQ HVA HVB HPA4 HPB4 HE HD
      have kP := HWP.out.c
      cases rb with
      | false =>
        have hRB : (false == false) = true := rfl
        have hRM : ((0 : Int) == 0) = true := by simp
        have HPRc : ∀ w', Below V5.heap.size V5 w' → Calls Try.prog 20 #[.agg #[.slice pv j cv]] w' fun e w'' => e = .returned (.bool false) ∧ Below w'.heap.size w' w'' := fun w' hb => by
          have := pright_any pv j cv ys L w' HZ.out (HMI5.out.below hb)
          rw [← HRB.out] at this
          exact this
        have HRRc : ∀ w', Below V5.heap.size V5 w' → Calls Try.prog 19 #[.agg #[.slice p0 j c]] w' fun e w'' => e = .returned (.bool false) ∧ Below w'.heap.size w' w'' := fun w' hb => by
          have := rright_any p0 j c xs L w' HZ.out (HPR5.out.below hb)
          rw [← HRB.out] at this
          exact this
        have HRMc : ∀ w', Below V5.heap.size V5 w' → Calls Try.prog 21 #[.agg #[.slice pv j cv]] w' fun e w'' => e = .returned (.int .i64 (0)) ∧ Below w'.heap.size w' w'' := fun w' hb => by
          have := room_any pv j cv ys L w' HZ.out (HMI5.out.below hb)
          unfold roomP at this
          rw [← HRB.out, HZ.out] at this
          exact this
        go_upto_region 31 with fail
        refine region_plan (fun w' : World => Below V5.heap.size V5 w' ∧ w'.cell? ⟨ba, 0, none⟩ = some (.slice pa d ca) ∧ w'.cell? ⟨bb, 0, none⟩ = some (.slice pb d cb) ∧ w'.cell? ⟨w2.heap.size, 0, none⟩ = some (.slice pv j cv) ∧ w'.cell? ⟨w.heap.size, 0, none⟩ = some (.slice p0 j c)) 24 [(0, true), (1, true), (2, false), (3, true), (4, true), (5, true), (6, true), (7, true), (8, true), (9, true), (11, true), (10, false), (12, false), (13, true), (14, true), (15, true), (16, true), (18, true), (17, false), (19, true), (20, true), (21, true), (22, true), (23, true)] (by kernel_rfl) (by kernel_rfl) ⟨(Below.refl _ _).drew, HWA.out.drew.c 0, HWB.out.drew.c 0, HWQ.out.drew.c 0, HWP.out.drew.c 0⟩ ?_
        iterate 2
          refine plan_read (v := ?_) rfl (by rfl) ?_ ?_
          rotate_left
          · intro w' hS
            try dsimp only at hS
            obtain ⟨s0, s1, s2, s3, s4⟩ := hS
            go_simp
            try with_reducible rfl
          try simp only [Act.put, List.setIfInBounds_toArray, List.set_cons_zero, List.set_cons_succ, List.getElem_toArray, List.getElem_cons_zero, List.getElem_cons_succ, hEq, hRB, hRM]
        refine plan_call (F := 10) (args := ?_) rfl (by rfl) ?_ ?_
        rotate_left
        · go_simp
          rfl
        refine (same_any pa d ca xa pb d cb xb D V5.drew HDL.out.symm HDL.out.symm (HPA5.out.below (Below.refl _ _).drew) (HPB5.out.below (Below.refl _ _).drew)).mono ?_
        rintro e w5 ⟨rfl, hb⟩
        have HSw5 : Hid (Below V5.heap.size V5 w5) := Lib.hid (((Below.refl V5.heap.size V5).drew).trans (hb.mono ((Below.refl V5.heap.size V5).drew).size))
        clear hb
        refine ⟨_, rfl, ⟨HSw5.out, (HWA.out.below HSw5.out).c 0, (HWB.out.below HSw5.out).c 0, (HWQ.out.below HSw5.out).c 0, (HWP.out.below HSw5.out).c 0⟩, ?_⟩
        try simp only [Act.put, List.setIfInBounds_toArray, List.set_cons_zero, List.set_cons_succ, List.getElem_toArray, List.getElem_cons_zero, List.getElem_cons_succ, hEq, hRB, hRM]
        iterate 8
          refine plan_read (v := ?_) rfl (by rfl) ?_ ?_
          rotate_left
          · intro w' hS
            try dsimp only at hS
            obtain ⟨s0, s1, s2, s3, s4⟩ := hS
            go_simp
            try with_reducible rfl
          try simp only [Act.put, List.setIfInBounds_toArray, List.set_cons_zero, List.set_cons_succ, List.getElem_toArray, List.getElem_cons_zero, List.getElem_cons_succ, hEq, hRB, hRM]
        refine plan_call (F := 20) (args := ?_) rfl (by rfl) ?_ ?_
        rotate_left
        · go_simp
          rfl
        refine (HPRc _ HSw5.out).mono ?_
        rintro e w6 ⟨rfl, hb⟩
        have HSw6 : Hid (Below V5.heap.size V5 w6) := Lib.hid (HSw5.out.trans (hb.mono HSw5.out.size))
        clear hb
        refine ⟨_, rfl, ⟨HSw6.out, (HWA.out.below HSw6.out).c 0, (HWB.out.below HSw6.out).c 0, (HWQ.out.below HSw6.out).c 0, (HWP.out.below HSw6.out).c 0⟩, ?_⟩
        try simp only [Act.put, List.setIfInBounds_toArray, List.set_cons_zero, List.set_cons_succ, List.getElem_toArray, List.getElem_cons_zero, List.getElem_cons_succ, hEq, hRB, hRM]
        refine plan_call (F := 19) (args := ?_) rfl (by rfl) ?_ ?_
        rotate_left
        · go_simp
          rfl
        refine (HRRc _ HSw6.out).mono ?_
        rintro e w7 ⟨rfl, hb⟩
        have HSw7 : Hid (Below V5.heap.size V5 w7) := Lib.hid (HSw6.out.trans (hb.mono HSw6.out.size))
        clear hb
        refine ⟨_, rfl, ⟨HSw7.out, (HWA.out.below HSw7.out).c 0, (HWB.out.below HSw7.out).c 0, (HWQ.out.below HSw7.out).c 0, (HWP.out.below HSw7.out).c 0⟩, ?_⟩
        try simp only [Act.put, List.setIfInBounds_toArray, List.set_cons_zero, List.set_cons_succ, List.getElem_toArray, List.getElem_cons_zero, List.getElem_cons_succ, hEq, hRB, hRM]
        iterate 5
          refine plan_read (v := ?_) rfl (by rfl) ?_ ?_
          rotate_left
          · intro w' hS
            try dsimp only at hS
            obtain ⟨s0, s1, s2, s3, s4⟩ := hS
            go_simp
            try with_reducible rfl
          try simp only [Act.put, List.setIfInBounds_toArray, List.set_cons_zero, List.set_cons_succ, List.getElem_toArray, List.getElem_cons_zero, List.getElem_cons_succ, hEq, hRB, hRM]
        refine plan_call (F := 21) (args := ?_) rfl (by rfl) ?_ ?_
        rotate_left
        · go_simp
          rfl
        refine (HRMc _ HSw7.out).mono ?_
        rintro e w8 ⟨rfl, hb⟩
        have HSw8 : Hid (Below V5.heap.size V5 w8) := Lib.hid (HSw7.out.trans (hb.mono HSw7.out.size))
        clear hb
        refine ⟨_, rfl, ⟨HSw8.out, (HWA.out.below HSw8.out).c 0, (HWB.out.below HSw8.out).c 0, (HWQ.out.below HSw8.out).c 0, (HWP.out.below HSw8.out).c 0⟩, ?_⟩
        try simp only [Act.put, List.setIfInBounds_toArray, List.set_cons_zero, List.set_cons_succ, List.getElem_toArray, List.getElem_cons_zero, List.getElem_cons_succ, hEq, hRB, hRM]
        iterate 5
          refine plan_read (v := ?_) rfl (by rfl) ?_ ?_
          rotate_left
          · intro w' hS
            try dsimp only at hS
            obtain ⟨s0, s1, s2, s3, s4⟩ := hS
            go_simp
            try with_reducible rfl
          try simp only [Act.put, List.setIfInBounds_toArray, List.set_cons_zero, List.set_cons_succ, List.getElem_toArray, List.getElem_cons_zero, List.getElem_cons_succ, hEq, hRB, hRM]
        refine plan_nil ?_
        simp only [List.drop_succ_cons, List.drop_zero]
        go_wp2_with fail
        refine (same_any pv j cv ys p0 j c xs L w8 HZ.out HZ.out (HMI5.out.below HSw8.out) (HPR5.out.below HSw8.out)).mono ?_
        rintro e w9 ⟨rfl, hb⟩
        have HW9 : Hid (Below w.heap.size w w9) := Lib.hid (((HB.out.trans (HV5.out.mono HB.out.size)).trans (HSw8.out.mono (Nat.le_trans HB.out.size HV5.out.size))).trans (hb.mono (Nat.le_trans (Nat.le_trans HB.out.size HV5.out.size) HSw8.out.size)))
        clear hb
        go_wp2_with fail
        go_ret
        exact ⟨rfl, HW9.out⟩
      | true =>
        have hRB : (true == true) = true := rfl
        have hRM : ((64 - (j : Int) : Int) == 64 - (j : Int)) = true := by simp
        have HPRc : ∀ w', Below V5.heap.size V5 w' → Calls Try.prog 20 #[.agg #[.slice pv j cv]] w' fun e w'' => e = .returned (.bool true) ∧ Below w'.heap.size w' w'' := fun w' hb => by
          have := pright_any pv j cv ys L w' HZ.out (HMI5.out.below hb)
          rw [← HRB.out] at this
          exact this
        have HRRc : ∀ w', Below V5.heap.size V5 w' → Calls Try.prog 19 #[.agg #[.slice p0 j c]] w' fun e w'' => e = .returned (.bool true) ∧ Below w'.heap.size w' w'' := fun w' hb => by
          have := rright_any p0 j c xs L w' HZ.out (HPR5.out.below hb)
          rw [← HRB.out] at this
          exact this
        have HRMc : ∀ w', Below V5.heap.size V5 w' → Calls Try.prog 21 #[.agg #[.slice pv j cv]] w' fun e w'' => e = .returned (.int .i64 (64 - (j : Int))) ∧ Below w'.heap.size w' w'' := fun w' hb => by
          have := room_any pv j cv ys L w' HZ.out (HMI5.out.below hb)
          unfold roomP at this
          rw [← HRB.out, HZ.out] at this
          exact this
        go_upto_region 31 with fail
        refine region_plan (fun w' : World => Below V5.heap.size V5 w' ∧ w'.cell? ⟨ba, 0, none⟩ = some (.slice pa d ca) ∧ w'.cell? ⟨bb, 0, none⟩ = some (.slice pb d cb) ∧ w'.cell? ⟨w2.heap.size, 0, none⟩ = some (.slice pv j cv) ∧ w'.cell? ⟨w.heap.size, 0, none⟩ = some (.slice p0 j c)) 24 [(0, true), (1, true), (2, false), (3, true), (4, true), (5, true), (6, true), (7, true), (8, true), (9, true), (11, true), (10, false), (12, false), (13, true), (14, true), (15, true), (16, true), (18, true), (17, false), (19, true), (20, true), (21, true), (22, true), (23, true)] (by kernel_rfl) (by kernel_rfl) ⟨(Below.refl _ _).drew, HWA.out.drew.c 0, HWB.out.drew.c 0, HWQ.out.drew.c 0, HWP.out.drew.c 0⟩ ?_
        iterate 2
          refine plan_read (v := ?_) rfl (by rfl) ?_ ?_
          rotate_left
          · intro w' hS
            try dsimp only at hS
            obtain ⟨s0, s1, s2, s3, s4⟩ := hS
            go_simp
            try with_reducible rfl
          try simp only [Act.put, List.setIfInBounds_toArray, List.set_cons_zero, List.set_cons_succ, List.getElem_toArray, List.getElem_cons_zero, List.getElem_cons_succ, hEq, hRB, hRM]
        refine plan_call (F := 10) (args := ?_) rfl (by rfl) ?_ ?_
        rotate_left
        · go_simp
          rfl
        refine (same_any pa d ca xa pb d cb xb D V5.drew HDL.out.symm HDL.out.symm (HPA5.out.below (Below.refl _ _).drew) (HPB5.out.below (Below.refl _ _).drew)).mono ?_
        rintro e w5 ⟨rfl, hb⟩
        have HSw5 : Hid (Below V5.heap.size V5 w5) := Lib.hid (((Below.refl V5.heap.size V5).drew).trans (hb.mono ((Below.refl V5.heap.size V5).drew).size))
        clear hb
        refine ⟨_, rfl, ⟨HSw5.out, (HWA.out.below HSw5.out).c 0, (HWB.out.below HSw5.out).c 0, (HWQ.out.below HSw5.out).c 0, (HWP.out.below HSw5.out).c 0⟩, ?_⟩
        try simp only [Act.put, List.setIfInBounds_toArray, List.set_cons_zero, List.set_cons_succ, List.getElem_toArray, List.getElem_cons_zero, List.getElem_cons_succ, hEq, hRB, hRM]
        iterate 8
          refine plan_read (v := ?_) rfl (by rfl) ?_ ?_
          rotate_left
          · intro w' hS
            try dsimp only at hS
            obtain ⟨s0, s1, s2, s3, s4⟩ := hS
            go_simp
            try with_reducible rfl
          try simp only [Act.put, List.setIfInBounds_toArray, List.set_cons_zero, List.set_cons_succ, List.getElem_toArray, List.getElem_cons_zero, List.getElem_cons_succ, hEq, hRB, hRM]
        refine plan_call (F := 20) (args := ?_) rfl (by rfl) ?_ ?_
        rotate_left
        · go_simp
          rfl
        refine (HPRc _ HSw5.out).mono ?_
        rintro e w6 ⟨rfl, hb⟩
        have HSw6 : Hid (Below V5.heap.size V5 w6) := Lib.hid (HSw5.out.trans (hb.mono HSw5.out.size))
        clear hb
        refine ⟨_, rfl, ⟨HSw6.out, (HWA.out.below HSw6.out).c 0, (HWB.out.below HSw6.out).c 0, (HWQ.out.below HSw6.out).c 0, (HWP.out.below HSw6.out).c 0⟩, ?_⟩
        try simp only [Act.put, List.setIfInBounds_toArray, List.set_cons_zero, List.set_cons_succ, List.getElem_toArray, List.getElem_cons_zero, List.getElem_cons_succ, hEq, hRB, hRM]
        refine plan_call (F := 19) (args := ?_) rfl (by rfl) ?_ ?_
        rotate_left
        · go_simp
          rfl
        refine (HRRc _ HSw6.out).mono ?_
        rintro e w7 ⟨rfl, hb⟩
        have HSw7 : Hid (Below V5.heap.size V5 w7) := Lib.hid (HSw6.out.trans (hb.mono HSw6.out.size))
        clear hb
        refine ⟨_, rfl, ⟨HSw7.out, (HWA.out.below HSw7.out).c 0, (HWB.out.below HSw7.out).c 0, (HWQ.out.below HSw7.out).c 0, (HWP.out.below HSw7.out).c 0⟩, ?_⟩
        try simp only [Act.put, List.setIfInBounds_toArray, List.set_cons_zero, List.set_cons_succ, List.getElem_toArray, List.getElem_cons_zero, List.getElem_cons_succ, hEq, hRB, hRM]
        iterate 5
          refine plan_read (v := ?_) rfl (by rfl) ?_ ?_
          rotate_left
          · intro w' hS
            try dsimp only at hS
            obtain ⟨s0, s1, s2, s3, s4⟩ := hS
            go_simp
            try with_reducible rfl
          try simp only [Act.put, List.setIfInBounds_toArray, List.set_cons_zero, List.set_cons_succ, List.getElem_toArray, List.getElem_cons_zero, List.getElem_cons_succ, hEq, hRB, hRM]
        refine plan_call (F := 21) (args := ?_) rfl (by rfl) ?_ ?_
        rotate_left
        · go_simp
          rfl
        refine (HRMc _ HSw7.out).mono ?_
        rintro e w8 ⟨rfl, hb⟩
        have HSw8 : Hid (Below V5.heap.size V5 w8) := Lib.hid (HSw7.out.trans (hb.mono HSw7.out.size))
        clear hb
        refine ⟨_, rfl, ⟨HSw8.out, (HWA.out.below HSw8.out).c 0, (HWB.out.below HSw8.out).c 0, (HWQ.out.below HSw8.out).c 0, (HWP.out.below HSw8.out).c 0⟩, ?_⟩
        try simp only [Act.put, List.setIfInBounds_toArray, List.set_cons_zero, List.set_cons_succ, List.getElem_toArray, List.getElem_cons_zero, List.getElem_cons_succ, hEq, hRB, hRM]
        iterate 5
          refine plan_read (v := ?_) rfl (by rfl) ?_ ?_
          rotate_left
          · intro w' hS
            try dsimp only at hS
            obtain ⟨s0, s1, s2, s3, s4⟩ := hS
            go_simp
            try with_reducible rfl
          try simp only [Act.put, List.setIfInBounds_toArray, List.set_cons_zero, List.set_cons_succ, List.getElem_toArray, List.getElem_cons_zero, List.getElem_cons_succ, hEq, hRB, hRM]
        refine plan_nil ?_
        simp only [List.drop_succ_cons, List.drop_zero]
        go_wp2_with fail
        refine (same_any pv j cv ys p0 j c xs L w8 HZ.out HZ.out (HMI5.out.below HSw8.out) (HPR5.out.below HSw8.out)).mono ?_
        rintro e w9 ⟨rfl, hb⟩
        have HW9 : Hid (Below w.heap.size w w9) := Lib.hid (((HB.out.trans (HV5.out.mono HB.out.size)).trans (HSw8.out.mono (Nat.le_trans HB.out.size HV5.out.size))).trans (hb.mono (Nat.le_trans (Nat.le_trans HB.out.size HV5.out.size) HSw8.out.size)))
        clear hb
        go_wp2_with fail
        go_ret
        exact ⟨rfl, HW9.out⟩
end Go.Proofs.Ytpmheaeiemnjeaa
