/- What the document's own Twice answers; no condition but that the pool reads. -/
import Derived.Test.YtpmheaeiemnjeaaPoolT
namespace Go.Proofs.Ytpmheaeiemnjeaa
set_option linter.unusedVariables false
open Go.ChangeShapes Go.WideShapes Go.ChangeAt Go.RowKit


set_option maxHeartbeats 4000000 in
theorem rtwice_any (p : Option Addr) (n c : Nat) (xs : List Value) (L : List (List Nat)) (k : Int) (w : World) (hz : L.length = n) (h : Pl w p xs L) :
    Calls Try.prog 16 #[.agg #[.slice p n c], .int .i64 k] w fun e w' => ∃ p' c' xs', e = .returned (.tuple #[.agg #[.slice p' (twiceP L k).length c'], .int .i64 (twiceE L k)]) ∧ ROut w w' p xs L p' xs' (twiceP L k) := by
  have hm : n ≤ 100 := by rw [← hz]; exact h.n100
  have HC := Lib.hid (fun w' hb => rcheck_any p n c xs L k w' hz (h.below hb))
  have HPL := Lib.hid h
  have HZ := Lib.hid hz
  obtain ⟨D, hD⟩ : ∃ D, D = twiceP L k := ⟨_, rfl⟩
  obtain ⟨er, her⟩ : ∃ er, er = twiceE L k := ⟨_, rfl⟩
  obtain ⟨ck, hck⟩ : ∃ ck, ck = checkP L k := ⟨_, rfl⟩
  rw [← hD, ← her]
  rw [← hck] at HC
  have HD := Lib.hid hD
  have HER := Lib.hid her
  have HCK := Lib.hid hck
  clear h hz hD her hck
  go_enter Try.func16, Try.ntmps16
  go_wp2_with fail
  refine (HC.out _ (((Below.refl _ _).alloc (Nat.le_refl _) _).alloc (by simp) _)).mono ?_
  rintro e w1 ⟨rfl, hb1⟩
  have HB1 : Hid (Below w.heap.size w w1) := Lib.hid ((((Below.refl _ _).alloc (Nat.le_refl _) _).alloc (by simp) _).trans (hb1.mono (by simp; omega)))
  have HR1 := Lib.hid (Blk.track1 hb1)
  have HK1 := Lib.hid (Blk.track2 hb1)
  simp only [World.size_alloc] at HR1
  clear hb1 HC
  have kB := HK1.out.c
  by_cases hk : ck = 0
  · subst hk
    have hk : checkP L k = 0 := HCK.out.symm
    obtain ⟨hr, h0, h1⟩ := check_inv hk
    obtain ⟨i, rfl⟩ := Int.eq_ofNat_of_zero_le h0
    have hi : i < L.length := by omega
    obtain ⟨l, hl⟩ : ∃ l, l = L.getD i [] := ⟨_, rfl⟩
    have hdp : D = addP L l := by rw [HD.out]; unfold twiceP; rw [if_pos hk, hl]; rfl
    have hee : er = addE L := by rw [HER.out]; unfold twiceE; rw [if_pos hk]
    have hl19 : l.length = 19 := by rw [hl]; exact (right_inv hr).2 _ (mem_getD L [] i hi)
    obtain ⟨b, off, hbl, rfl, hcell⟩ := HPL.out.at_ (by omega)
    have hck := hcell i hi
    have hfs := HPL.out.fs i hi
    obtain ⟨q, c2, hv, hc2, hby⟩ := HPL.out.fs i hi
    rw [← hl] at hfs
    rw [hv] at hck hfs
    rw [← hl, hl19] at hck hfs
    have hoffb : ∀ Z : Nat → Prop, Off Z (some ⟨b, off, none⟩) xs L → (0 < l.length → ∀ g, (Value.slice q 19 c2).ownBlock = some g → ¬ Z g) := fun Z ho h0 g e => ho.2 i hi (by rw [← hl]; exact h0) g (by rw [hv, ← hl, hl19]; exact e)
    have hckr := (HB1.out.cell (p := ⟨b, off + i, none⟩) hbl).trans hck
    have hi' : (i : Int) < (n : Int) := by have := HZ.out; omega
    have HFS := Lib.hid hfs
    have HDP := Lib.hid hdp
    have HEE := Lib.hid hee
    have HL19 := Lib.hid hl19
    have HOB := Lib.hid hoffb
    have HSZ : Hid (w.heap.size + 1 < w1.heap.size) := Lib.hid HR1.out.lt
    clear hr h0 h1 hk hi hl hdp hee hl19 hcell hck hfs hv hc2 hby hoffb
    go_upto_region 4 with fail
    have kB0 := kB 0
    refine region_plan (fun w' : World => w'.cell? ⟨w.heap.size, 0, none⟩ = some (.slice (some ⟨b, off, none⟩) n c) ∧ w'.cell? ⟨b, off + i, none⟩ = some (.slice q 19 c2)) 9 [(0, true), (1, true), (2, true), (3, true), (4, true), (5, true), (6, false), (7, true), (8, true)] (by kernel_rfl) (by kernel_rfl) ⟨kB0, hckr⟩ ?_
    iterate 6
      refine plan_read (v := ?_) rfl (by rfl) ?_ ?_
      rotate_left
      · intro w' hS
        try dsimp only at hS
        obtain ⟨s1, s2⟩ := hS
        go_simp
        try with_reducible rfl
      try simp only [Act.put, List.setIfInBounds_toArray, List.set_cons_zero, List.set_cons_succ, List.getElem_toArray, List.getElem_cons_zero, List.getElem_cons_succ]
    refine plan_call (F := 27) (args := ?_) rfl (by rfl) ?_ ?_
    rotate_left
    · go_simp
      rfl
    have hadd := radd_any (some ⟨b, off, none⟩) n c xs L (.slice q 19 c2) l w1.drew HZ.out ((HPL.out.below HB1.out).below (Below.refl _ _).drew) ((HFS.out.below HB1.out).below (Below.refl _ _).drew) (by rw [HL19.out]; omega)
    rw [← HDP.out, ← HEE.out] at hadd
    refine hadd.mono ?_
    clear hadd
    rintro e w4 ⟨p4, c4, zs, rfl, hp4, hoff4, hb4⟩
    have HB14 : Hid (Below w1.heap.size w1 w4) := Lib.hid ((Below.refl _ _).drew.trans hb4)
    have HR4 := Lib.hid (HR1.out.below HB14.out)
    have HP4 := Lib.hid hp4
    have HO4 : Hid (∀ Z : Nat → Prop, (∀ b, Z b → b < w1.heap.size) → Off Z (some ⟨b, off, none⟩) xs L → Off Z p4 zs D) := Lib.hid (fun Z hZ ho => hoff4 Z hZ ho (HOB.out Z ho))
    have HB4 : Hid (Below w.heap.size w w4) := Lib.hid (HB1.out.trans (HB14.out.mono HB1.out.size))
    obtain ⟨d, hd⟩ : ∃ d, d = D.length := ⟨_, rfl⟩
    rw [← hd]
    have HDL := Lib.hid hd
    refine ⟨_, rfl, ⟨(HK1.out.below HB14.out).c 0, ((HB4.out.cell (p := ⟨b, off + i, none⟩) hbl).trans (HB1.out.cell (p := ⟨b, off + i, none⟩) hbl).symm).trans hckr⟩, ?_⟩
    clear hp4 hoff4 hb4 hd kB kB0 hckr hbl
    try simp only [Act.put, List.setIfInBounds_toArray, List.set_cons_zero, List.set_cons_succ, List.getElem_toArray, List.getElem_cons_zero, List.getElem_cons_succ]
    iterate 2
      refine plan_read (v := ?_) rfl (by rfl) ?_ ?_
      rotate_left
      · intro w' hS
        clear hS
        go_simp
        try with_reducible rfl
      try simp only [Act.put, List.setIfInBounds_toArray, List.set_cons_zero, List.set_cons_succ, List.getElem_toArray, List.getElem_cons_zero, List.getElem_cons_succ]
    refine plan_nil ?_
    simp only [List.drop_succ_cons, List.drop_zero]
    have kR := HR4.out.c
    have fR := HR4.out.f
    have lR := HR4.out.lt
    go_wp2_with fail
    exact bodyPost_ret (v := .tuple #[.agg #[.slice p4 d c4], .int .i64 er]) (by simp [results, Try.results16, go_sem, *]) rfl ⟨p4, c4, zs, by rw [HDL.out], HP4.out.set (HO4.out _ (fun b e => by have := HSZ.out; omega) (HPL.out.off (fun b e => by omega))) 0 _, fun Z hZ ho => HO4.out Z (fun b hb => by have := hZ b hb; have := HB1.out.size; omega) ho, HB4.out.setCell (p := ⟨w.heap.size + 1, 0, none⟩) (by show w.heap.size ≤ w.heap.size + 1; omega) _⟩
  · have hdp : D = L := by rw [HD.out]; unfold twiceP; rw [if_neg (by rw [← HCK.out]; exact hk)]
    have hee : er = ck := by rw [HER.out, HCK.out]; unfold twiceE; rw [if_neg (by rw [← HCK.out]; exact hk)]
    subst hdp hee
    have e0 : (er != 0) = true := by simpa using hk
    clear hk
    have kR := HR1.out.c
    have fR := HR1.out.f
    have lR := HR1.out.lt
    go_wp2_with fail
    have hbf := HB1.out.setCell (p := ⟨w.heap.size + 1, 0, none⟩) (by show w.heap.size ≤ w.heap.size + 1; omega) (.slice p n c)
    exact bodyPost_ret (v := .tuple #[.agg #[.slice p n c], .int .i64 er]) (by simp [results, Try.results16, go_sem, *]) rfl ⟨p, c, xs, by rw [HZ.out], HPL.out.below hbf, fun Z hZ ho => ho, hbf⟩
end Go.Proofs.Ytpmheaeiemnjeaa
