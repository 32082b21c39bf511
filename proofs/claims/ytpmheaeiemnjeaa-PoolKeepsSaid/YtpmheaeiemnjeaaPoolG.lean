/- What pool.Twice answers: no condition but that the pool reads. -/
import Derived.Test.YtpmheaeiemnjeaaPoolD
namespace Go.Proofs.Ytpmheaeiemnjeaa
set_option linter.unusedVariables false
open Go.ChangeShapes Go.WideShapes Go.ChangeAt Go.RowKit


set_option maxHeartbeats 4000000 in
theorem twice_any (p : Option Addr) (n c : Nat) (xs : List Value) (L : List (List Nat)) (k : Int) (w : World) (hz : L.length = n) (h : Pl w p xs L) :
    Calls Try.prog 15 #[.agg #[.slice p n c], .int .i64 k] w fun e w' => ∃ p' c' xs', e = .returned (.tuple #[.agg #[.slice p' (twiceP L k).length c'], .int .i64 (twiceE L k)]) ∧ Out w w' p' xs' (twiceP L k) := by
  have HC := Lib.hid (fun w' hb => copied_any p n c xs L w' hz (h.below hb))
  have hn := h.n100
  have HL := Lib.hid h.l100
  have HB := Lib.hid h.lt
  have HN := Lib.hid hn
  obtain ⟨ck, hck⟩ : ∃ ck, ck = checkP L k := ⟨_, rfl⟩
  have HCK := Lib.hid hck
  obtain ⟨D, hD⟩ : ∃ D, D = twiceP L k := ⟨_, rfl⟩
  obtain ⟨er, her⟩ : ∃ er, er = twiceE L k := ⟨_, rfl⟩
  rw [← hD, ← her]
  have HD := Lib.hid hD
  have HER := Lib.hid her
  clear h hz hn hD her hck
  go_enter Try.func15, Try.ntmps15
  go_wp2_with fail
  refine (HC.out _ (((Below.refl _ _).alloc (Nat.le_refl _) _).alloc (by simp) _)).mono ?_
  rintro e w1 ⟨v, ys, rfl, ho, hb1⟩
  have HBX : Hid (Below w.heap.size w w1) := Lib.hid ((((Below.refl _ _).alloc (Nat.le_refl _) _).alloc (by simp) _).trans (hb1.mono (by simp; omega)))
  have HKR := Lib.hid (Blk.track1 hb1)
  have HO := Lib.hid ho
  obtain ⟨p1, c1, rfl, hpl⟩ := ho.pl HN.out HL.out HB.out
  rw [World.size_alloc] at HKR
  have HOO : Hid (Own (w.heap.size + 2) w1 (.slice p1 L.length c1) ys L) := Lib.hid (by simpa using HO.out)
  have HP1 := Lib.hid hpl
  obtain ⟨n1, hn1⟩ : ∃ n1, n1 = L.length := ⟨_, rfl⟩
  rw [← hn1] at HOO ⊢
  have HN1 := Lib.hid hn1
  clear HO ho hpl hb1 hn1 HC
  have hl1 := HKR.out.lt
  have kR := HKR.out.c
  have fR := HKR.out.f
  go_wp2_with fail
  have hfind := find_any p1 n1 c1 ys L k (w1.alloc (.cells #[.slice p1 n1 c1] 24)) HN1.out.symm (HP1.out.below ((Below.refl _ _).alloc (Nat.le_refl _) _))
  rw [← HCK.out] at hfind
  refine hfind.mono ?_
  clear hfind
  rintro e w2 ⟨rfl, hb2⟩
  have HKS := Lib.hid (Blk.track1 hb2)
  have HB12 : Hid (Below w1.heap.size w1 w2) := Lib.hid (((Below.refl _ _).alloc (Nat.le_refl _) _).trans (hb2.mono (by simp)))
  have HKR2 := Lib.hid (HKR.out.below HB12.out)
  have HB2 : Hid (Below w.heap.size w w2) := Lib.hid (HBX.out.trans (HB12.out.mono HBX.out.size))
  have HO2 := Lib.hid (HOO.out.below HB12.out)
  have HP2 := Lib.hid (HP1.out.below HB12.out)
  have HOFF : Hid (Off (fun b => b < w.heap.size + 2 ∨ w1.heap.size ≤ b) p1 ys L) := Lib.hid (Own.off (c := c1) (by rw [HN1.out] at HOO; exact HOO.out))
  have kS := HKS.out.c
  have fS := HKS.out.f
  have lS := HKS.out.lt
  have HSZ : Hid (w.heap.size + 1 < w1.heap.size) := Lib.hid hl1
  clear hb2 kR fR hl1 HP1 HOO HKR HBX
  by_cases hk : ck = 0
  · subst hk
    have hk : checkP L k = 0 := HCK.out.symm
    obtain ⟨hr, h0, h1⟩ := check_inv hk
    obtain ⟨hr64, hr19⟩ := right_inv hr
    obtain ⟨i, rfl⟩ := Int.eq_ofNat_of_zero_le h0
    have hi : i < L.length := by omega
    have hdp : D = addP L (L.getD i []) := by rw [HD.out]; unfold twiceP; rw [if_pos hk]; rfl
    have hee : er = addE L := by rw [HER.out]; unfold twiceE; rw [if_pos hk]
    obtain ⟨l, hl⟩ : ∃ l, l = L.getD i [] := ⟨_, rfl⟩
    rw [← hl] at hdp
    have hlm := mem_getD L [] i hi
    rw [← hl] at hlm
    have hl19 := hr19 l hlm
    obtain ⟨q, cq, hq, hcq⟩ := own_cap (HO2.out.fr i (by exact hi))
    rw [← hl, hl19] at hq
    have hi' : (i : Int) < (n1 : Int) := by have := HN1.out; omega
    have hrow2 := HO2.out.row
    rw [← HN1.out] at hrow2
    obtain ⟨g, rfl, hnc, hcm, hbg, hgl⟩ := own_go hrow2 (by omega)
    have hcell : w2.cell? ⟨g, i, none⟩ = some (.slice q 19 cq) := by
      have hlen : ys.length = L.length := by rw [HO2.out.row.1, Nat.mul_one]
      rw [hrow2.cellAt i (by omega), ← hq, List.getD_eq_getElem?_getD, List.getElem?_eq_getElem (by omega)]
      rfl
    have HI := Lib.hid hi
    have HRT := Lib.hid hr
    have HLE := Lib.hid hl
    have HL19 := Lib.hid hl19
    have HLM := Lib.hid hlm
    have HDP := Lib.hid hdp
    have HEE := Lib.hid hee
    have HQ := Lib.hid hq
    clear hr hr64 hr19 h0 h1 hk hi hdp hee hl hlm hl19 hq hcq hnc hcm hbg hrow2
    go_upto_region 5 with fail
    have kS0 := kS 0
    refine region_plan (fun w' : World => w'.cell? ⟨w1.heap.size, 0, none⟩ = some (.slice (some ⟨g, 0, none⟩) n1 c1) ∧ w'.cell? ⟨g, i, none⟩ = some (.slice q 19 cq)) 10 [(0, true), (1, true), (2, true), (3, true), (4, true), (5, true), (6, false), (7, false), (8, true), (9, true)] (by kernel_rfl) (by kernel_rfl) ⟨kS0, hcell⟩ ?_
    iterate 6
      refine plan_read (v := ?_) rfl (by rfl) ?_ ?_
      rotate_left
      · intro w' hS
        try dsimp only at hS
        obtain ⟨s1, s2⟩ := hS
        go_simp
        try with_reducible rfl
      try simp only [Act.put, List.setIfInBounds_toArray, List.set_cons_zero, List.set_cons_succ, List.getElem_toArray, List.getElem_cons_zero, List.getElem_cons_succ]
    refine plan_call (F := 33) (args := ?_) rfl (by rfl) ?_ ?_
    rotate_left
    · go_simp
      rfl
    have hfs : Fs w2.drew (.slice q 19 cq) l := by
      have h0 := own_fs (HO2.out.fr i HI.out) (HB.out _ (mem_getD L [] i HI.out))
      rw [HQ.out, ← HLE.out] at h0
      exact h0.below (Below.refl _ _).drew
    refine (clone_bytes _ l _ hfs (by rw [HL19.out]; omega)).mono ?_
    rintro e w3 ⟨r, rfl, hr3, hb3⟩
    rw [HL19.out] at hr3
    obtain ⟨pr, cr, rfl, _⟩ := own_cap hr3
    have HB23 : Hid (Below w2.heap.size w2 w3) := Lib.hid ((Below.refl _ _).drew.trans hb3)
    have HOR : Hid (w3.ownsRow w2.heap.size 5 1 (.slice pr 19 cr) 19 (u8C l)) := Lib.hid hr3
    clear hr3 hb3 hfs
    refine ⟨_, rfl, ⟨(HB23.out.cell (p := ⟨w1.heap.size, 0, none⟩) lS).trans kS0, (HB23.out.cell (p := ⟨g, i, none⟩) hgl).trans hcell⟩, ?_⟩
    try simp only [Act.put, List.setIfInBounds_toArray, List.set_cons_zero, List.set_cons_succ, List.getElem_toArray, List.getElem_cons_zero, List.getElem_cons_succ]
    have HKR3 := Lib.hid (HKR2.out.below HB23.out)
    have HB3 : Hid (Below w.heap.size w w3) := Lib.hid (HB2.out.trans (HB23.out.mono HB2.out.size))
    have HO3 := Lib.hid (HO2.out.below HB23.out)
    have hadd := added_any (w.heap.size + 2) (.slice (some ⟨g, 0, none⟩) n1 c1) ys L (.slice pr 19 cr) l w3 HO3.out HRT.out HB.out (own_base HOR.out (by have := HB12.out.size; have := HSZ.out; omega)) HL19.out (HB.out l HLM.out) (fun g2 e e2 => by
      injection e2 with e2
      simp at e2
      subst e2
      have h1 := (HOR.out.lt _ e).1
      omega) (by have := HB12.out.size; have := HSZ.out; have := HB23.out.size; omega)
    rw [← HDP.out, ← HEE.out] at hadd
    have HADD := Lib.hid hadd
    have HS3 : Hid (w3.cell? ⟨w1.heap.size, 0, none⟩ = some (.slice (some ⟨g, 0, none⟩) n1 c1) ∧ w3.cell? ⟨g, i, none⟩ = some (.slice q 19 cq)) := Lib.hid ⟨(HB23.out.cell (p := ⟨w1.heap.size, 0, none⟩) lS).trans kS0, (HB23.out.cell (p := ⟨g, i, none⟩) hgl).trans hcell⟩
    have HGL : Hid (g < w1.heap.size) := Lib.hid (by have := HO2.out; have h1 := HOFF.out.1 (by have := HI.out; omega) ⟨g, 0, none⟩ rfl; simp at h1; omega)
    clear hadd
    refine plan_call (F := 25) (args := ?_) rfl (by rfl) ?_ ?_
    rotate_left
    · go_simp
      rfl
    refine HADD.out.mono ?_
    rintro e w4 ⟨p4, c4, zs, rfl, hp4, hoff4, hb4, hkp4⟩
    have HKR4 := Lib.hid (HKR3.out.belowN hb4 (by omega))
    have HP4 := Lib.hid hp4
    have HO4 := Lib.hid hoff4
    have HB4 : Hid (Below w.heap.size w w4) := Lib.hid (HB3.out.trans (hb4.mono (by omega)))
    obtain ⟨d, hd⟩ : ∃ d, d = D.length := ⟨_, rfl⟩
    rw [← hd]
    have HDL := Lib.hid hd
    refine ⟨_, rfl, ⟨hkp4 _ _ HS3.out.1 (fun e => by injection e with e; simp at e; have := HGL.out; omega), hkp4 _ _ HS3.out.2 (fun _ => HI.out)⟩, ?_⟩
    try simp only [Act.put, List.setIfInBounds_toArray, List.set_cons_zero, List.set_cons_succ, List.getElem_toArray, List.getElem_cons_zero, List.getElem_cons_succ]
    clear hp4 hoff4 hb4 hd hkp4 kS fS lS kS0 hcell hgl
    iterate 2
      refine plan_read (v := ?_) rfl (by rfl) ?_ ?_
      rotate_left
      · intro w' hS
        clear hS
        go_simp
        try with_reducible rfl
      try simp only [Act.put, List.setIfInBounds_toArray, List.set_cons_zero, List.set_cons_succ, List.getElem_toArray, List.getElem_cons_zero, List.getElem_cons_succ]
    refine plan_nil ?_
    simp only [List.drop_succ_cons, List.drop_zero]
    have kR := HKR4.out.c
    have fR := HKR4.out.f
    have lR := HKR4.out.lt
    go_wp2_with fail
    exact bodyPost_ret (v := .tuple #[.agg #[.slice p4 d c4], .int .i64 er]) (by simp [results, Try.results15, go_sem, *]) rfl ⟨p4, c4, zs, by rw [HDL.out], HP4.out.set (HO4.out.sub (fun b e => by omega)) 0 _, HO4.out.sub (fun b e => by omega), HB4.out.setCell (p := ⟨w.heap.size + 1, 0, none⟩) (by show w.heap.size ≤ w.heap.size + 1; omega) _⟩
  · have hdp : D = L := by rw [HD.out]; unfold twiceP; rw [if_neg (by rw [← HCK.out]; exact hk)]
    have hee : er = ck := by rw [HER.out, HCK.out]; unfold twiceE; rw [if_neg (by rw [← HCK.out]; exact hk)]
    subst hdp hee
    have e0 : (er != 0) = true := by simpa using hk
    clear hk
    have kR := HKR2.out.c
    have fR := HKR2.out.f
    have lR := HKR2.out.lt
    go_wp2_with fail
    exact bodyPost_ret (v := .tuple #[.agg #[.slice p1 n1 c1], .int .i64 er]) (by simp [results, Try.results15, go_sem, *]) rfl ⟨p1, c1, ys, by rw [HN1.out], HP2.out.set (HOFF.out.sub (fun b e => .inl (by omega))) 0 _, HOFF.out.sub (fun b e => .inl (by omega)), HB2.out.setCell (p := ⟨w.heap.size + 1, 0, none⟩) (by show w.heap.size ≤ w.heap.size + 1; omega) _⟩
end Go.Proofs.Ytpmheaeiemnjeaa
