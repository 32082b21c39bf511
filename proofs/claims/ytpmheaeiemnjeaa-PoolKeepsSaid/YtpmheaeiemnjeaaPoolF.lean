/- What pool.Send answers: no condition but that the pool reads, and that the message's numbers fit. -/
import Derived.Test.YtpmheaeiemnjeaaPoolD
namespace Go.Proofs.Ytpmheaeiemnjeaa
set_option linter.unusedVariables false
open Go.ChangeShapes Go.WideShapes Go.ChangeAt Go.RowKit


set_option maxHeartbeats 4000000 in
theorem send_any (p : Option Addr) (n c : Nat) (xs : List Value) (L : List (List Nat)) (m : Msg) (w : World) (hz : L.length = n) (h : Pl w p xs L) (hmn : m.n < 4294967296) (hmv : m.v < 4294967296) :
    Calls Try.prog 8 #[.agg #[.slice p n c], .agg m.row] w fun e w' => ∃ p' c' xs', e = .returned (.tuple #[.agg #[.slice p' (sendP L m).length c'], .int .i64 (sendE L m)]) ∧ Out w w' p' xs' (sendP L m) := by
  have HC := Lib.hid (fun w' hb => copied_any p n c xs L w' hz (h.below hb))
  have HP := Lib.hid (fun W => put_any m W hmn hmv)
  have hn := h.n100
  have HL := Lib.hid h.l100
  have HB := Lib.hid h.lt
  have HN := Lib.hid hn
  obtain ⟨D, hD⟩ : ∃ D, D = sendP L m := ⟨_, rfl⟩
  obtain ⟨er, her⟩ : ∃ er, er = sendE L m := ⟨_, rfl⟩
  rw [← hD, ← her]
  have HD := Lib.hid hD
  have HER := Lib.hid her
  obtain ⟨mk, mf, mt, ml, mo, ma, own, mn, mv, hmm⟩ : ∃ k f t l o a own n v, m = ⟨k, f, t, l, o, a, own, n, v⟩ := ⟨_, _, _, _, _, _, _, _, _, rfl⟩
  have hrow : m.row = #[.int .i64 mk, .int .i64 mf, .int .i64 mt, .int .i64 ml, .int .i64 mo, .int .i64 ma, .bool own, .int .u32 mn, .int .u32 mv] := by rw [hmm]; rfl
  rw [hrow] at HP ⊢
  clear h hz hn hD her hrow hmm hmn hmv
  go_enter Try.func8, Try.ntmps8
  go_wp2_with fail
  refine (HC.out _ ((((Below.refl _ _).alloc (Nat.le_refl _) _).alloc (by simp) _).alloc (by simp; omega) _)).mono ?_
  rintro e w1 ⟨v, ys, rfl, ho, hb1⟩
  have HBX : Hid (Below w.heap.size w w1) := Lib.hid (((((Below.refl _ _).alloc (Nat.le_refl _) _).alloc (by simp) _).alloc (by simp; omega) _).trans (hb1.mono (by simp; omega)))
  have HKR := Lib.hid (Blk.track1 hb1)
  have HKM := Lib.hid (Blk.track2 hb1)
  simp only [World.size_alloc] at HKR HKM
  have HO := Lib.hid ho
  obtain ⟨p1, c1, rfl, hpl⟩ := ho.pl HN.out HL.out HB.out
  have HOO : Hid (Own (w.heap.size + 3) w1 (.slice p1 L.length c1) ys L) := Lib.hid (by simpa using HO.out)
  have HP1 := Lib.hid hpl
  obtain ⟨n1, hn1⟩ : ∃ n1, n1 = L.length := ⟨_, rfl⟩
  rw [← hn1] at HOO ⊢
  have HN1 := Lib.hid hn1
  have hright := pright_any p1 n1 c1 ys L (w1.alloc (.cells #[.slice p1 n1 c1] 24)) hn1.symm (hpl.below ((Below.refl _ _).alloc (Nat.le_refl _) _))
  obtain ⟨rb, hrb⟩ : ∃ rb, rb = rightP L := ⟨_, rfl⟩
  rw [← hrb] at hright
  have HRB := Lib.hid hrb
  have HRT := Lib.hid hright
  clear HO ho hpl hb1 hn1 HC hright hrb
  have hl1 := HKR.out.lt
  have kR := HKR.out.c
  have fR := HKR.out.f
  go_wp2_with fail
  refine HRT.out.mono ?_
  rintro e w2 ⟨rfl, hb2⟩
  have HKS := Lib.hid (Blk.track1 hb2)
  have HB12 : Hid (Below w1.heap.size w1 w2) := Lib.hid (((Below.refl _ _).alloc (Nat.le_refl _) _).trans (hb2.mono (by simp)))
  have HKR2 := Lib.hid (HKR.out.below HB12.out)
  have HKM2 := Lib.hid (HKM.out.below HB12.out)
  have HB2 : Hid (Below w.heap.size w w2) := Lib.hid (HBX.out.trans (HB12.out.mono HBX.out.size))
  have HO2 := Lib.hid (HOO.out.below HB12.out)
  have HP2 := Lib.hid (HP1.out.below HB12.out)
  have HOFF : Hid (Off (fun b => b < w.heap.size + 3 ∨ w1.heap.size ≤ b) p1 ys L) := Lib.hid (Own.off (c := c1) (by rw [HN1.out] at HOO; exact HOO.out))
  have HSZ : Hid (w.heap.size + 1 + 1 < w1.heap.size) := Lib.hid hl1
  clear hb2 kR fR hl1 HP1 HOO HKR HKM HBX HRT
  cases rb with
  | false =>
    have hdp : D = L := by rw [HD.out]; unfold sendP; rw [← HRB.out]; rfl
    have hee : er = 1 := by rw [HER.out]; unfold sendE; rw [← HRB.out]; rfl
    subst hdp hee
    have kS := HKS.out.c
    have kR := HKR2.out.c
    have fR := HKR2.out.f
    have lR := HKR2.out.lt
    go_wp2_with fail
    exact bodyPost_ret (v := .tuple #[.agg #[.slice p1 n1 c1], .int .i64 1]) (by simp [results, Try.results8, go_sem, *]) rfl ⟨p1, c1, ys, by rw [HN1.out], HP2.out.set (HOFF.out.sub (fun b e => .inl (by omega))) 0 _, HOFF.out.sub (fun b e => .inl (by omega)), HB2.out.setCell (p := ⟨w.heap.size + 1 + 1, 0, none⟩) (by show w.heap.size ≤ w.heap.size + 1 + 1; omega) _⟩
  | true =>
    have kS := HKS.out.c
    have kM := HKM2.out.c
    go_wp2_with fail
    refine (HP.out w2).mono ?_
    rintro e w3 ⟨r, e2, rfl, hputs, hb3⟩
    have HKS3 := Lib.hid (HKS.out.below hb3)
    have HKR3 := Lib.hid (HKR2.out.below hb3)
    have HB3 : Hid (Below w.heap.size w w3) := Lib.hid (HB2.out.trans (hb3.mono HB2.out.size))
    have HO3 := Lib.hid (HO2.out.below hb3)
    have HP3 := Lib.hid (HP2.out.below hb3)
    have HS3 : Hid (w2.heap.size ≤ w3.heap.size) := Lib.hid hb3.size
    clear hb3 kS kM
    rcases hputs with ⟨hmay, rfl, rfl⟩ | ⟨hmay, rfl, k, f, t, l, o, a, own', nn, vv, hmm, hfit, g, cap, rfl, hfrm⟩
    · have hdp : D = L := by rw [HD.out]; unfold sendP; rw [← HRB.out, hmay]; rfl
      have hee : er = 1 := by rw [HER.out]; unfold sendE; rw [← HRB.out, hmay]; rfl
      subst hdp hee
      clear hmay
      have kS := HKS3.out.c
      have kR := HKR3.out.c
      have fR := HKR3.out.f
      have lR := HKR3.out.lt
      go_wp2_with fail
      exact bodyPost_ret (v := .tuple #[.agg #[.slice p1 n1 c1], .int .i64 1]) (by simp [results, Try.results8, go_sem, *]) rfl ⟨p1, c1, ys, by rw [HN1.out], HP3.out.set (HOFF.out.sub (fun b e => .inl (by omega))) 0 _, HOFF.out.sub (fun b e => .inl (by omega)), HB3.out.setCell (p := ⟨w.heap.size + 1 + 1, 0, none⟩) (by show w.heap.size ≤ w.heap.size + 1 + 1; omega) _⟩
    · have hdp : D = addP L (outL m) := by rw [HD.out]; unfold sendP; rw [← HRB.out, hmay]; rfl
      have hee : er = addE L := by rw [HER.out]; unfold sendE; rw [← HRB.out, hmay]; rfl
      have hout : outL m = frameL k f t l o a own' nn vv := by unfold outL; rw [if_pos hmay, hmm]; rfl
      have hadd := added_any (w.heap.size + 3) (.slice p1 n1 c1) ys L (.slice (some ⟨g, 0, none⟩) 19 cap) (outL m) w3 (by exact HO3.out) HRB.out.symm HB.out (by rw [hout]; exact own_base hfrm.1 (by have := HB12.out.size; have := HSZ.out; omega)) (by rw [hout]; rfl) (by rw [hout]; exact frame_lt hfit) (fun g2 e e2 => by
        injection e with e
        simp at e
        have h1 := (HO2.out.row.lt g2 e2).2
        have h2 := hfrm.2.2.1
        omega) (by have := HB12.out.size; have := HSZ.out; have := HS3.out; omega)
      rw [← hdp, ← hee] at hadd
      have HADD := Lib.hid hadd
      clear hadd hdp hee hout hfit hfrm hmm hmay
      have kS := HKS3.out.c
      go_wp2_with fail
      refine HADD.out.mono ?_
      rintro e w4 ⟨p4, c4, zs, rfl, hp4, hoff4, hb4, hkp4⟩
      have HKR4 := Lib.hid (HKR3.out.belowN hb4 (by omega))
      have HP4 := Lib.hid hp4
      have HO4 := Lib.hid hoff4
      have HB4 : Hid (Below w.heap.size w w4) := Lib.hid (HB3.out.trans (hb4.mono (by omega)))
      obtain ⟨d, hd⟩ : ∃ d, d = D.length := ⟨_, rfl⟩
      rw [← hd]
      have HDL := Lib.hid hd
      clear kS hp4 hoff4 hb4 hd hkp4
      have kR := HKR4.out.c
      have fR := HKR4.out.f
      have lR := HKR4.out.lt
      go_wp2_with fail
      exact bodyPost_ret (v := .tuple #[.agg #[.slice p4 d c4], .int .i64 er]) (by simp [results, Try.results8, go_sem, *]) rfl ⟨p4, c4, zs, by rw [HDL.out], HP4.out.set (HO4.out.sub (fun b e => by omega)) 0 _, HO4.out.sub (fun b e => by omega), HB4.out.setCell (p := ⟨w.heap.size + 1 + 1, 0, none⟩) (by show w.heap.size ≤ w.heap.size + 1 + 1; omega) _⟩
end Go.Proofs.Ytpmheaeiemnjeaa
