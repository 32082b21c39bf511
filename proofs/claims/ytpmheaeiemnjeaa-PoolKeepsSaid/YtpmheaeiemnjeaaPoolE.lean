/- What pool.Take answers: no condition but that the pool reads. -/
import Derived.Test.YtpmheaeiemnjeaaPoolD
namespace Go.Proofs.Ytpmheaeiemnjeaa
set_option linter.unusedVariables false
open Go.ChangeShapes Go.WideShapes Go.ChangeAt Go.RowKit

theorem drop_at {L : List (List Nat)} {k : Int} (h : checkP L k = 0) : ∃ i : Nat, k = i ∧ i < L.length ∧ atP L k = L.getD i [] := by
  obtain ⟨_, h0, h1⟩ := check_inv h
  obtain ⟨i, rfl⟩ := Int.eq_ofNat_of_zero_le h0
  exact ⟨i, rfl, by omega, rfl⟩
theorem msg_parts (m : Msg) : ∃ k f t l o a own n v, m.row = #[.int .i64 k, .int .i64 f, .int .i64 t, .int .i64 l, .int .i64 o, .int .i64 a, .bool own, .int .u32 (n : Nat), .int .u32 (v : Nat)] := by
  obtain ⟨k, f, t, l, o, a, own, n, v⟩ := m
  exact ⟨k, f, t, l, o, a, own, n, v, rfl⟩
theorem pl_store9 {w : World} {p : Option Addr} {xs : List Value} {L : List (List Nat)} (h : Pl w p xs L) {R : Nat} (ho : Off (fun b => b = R) p xs L) (x0 x1 x2 x3 x4 x5 x6 x7 x8 : Value) :
    Pl (((((((((w.setCell ⟨R, 0, none⟩ x0).setCell ⟨R, 1, none⟩ x1).setCell ⟨R, 2, none⟩ x2).setCell ⟨R, 3, none⟩ x3).setCell ⟨R, 4, none⟩ x4).setCell ⟨R, 5, none⟩ x5).setCell ⟨R, 6, none⟩ x6).setCell ⟨R, 7, none⟩ x7).setCell ⟨R, 8, none⟩ x8) p xs L :=
  ((((((((h.set ho 0 x0).set ho 1 x1).set ho 2 x2).set ho 3 x3).set ho 4 x4).set ho 5 x5).set ho 6 x6).set ho 7 x7).set ho 8 x8

set_option maxHeartbeats 4000000 in
theorem take_any (p : Option Addr) (n c : Nat) (xs : List Value) (L : List (List Nat)) (k : Int) (w : World) (hz : L.length = n) (h : Pl w p xs L) :
    Calls Try.prog 11 #[.agg #[.slice p n c], .int .i64 k] w fun e w' => ∃ p' c' xs', e = .returned (.tuple #[.agg #[.slice p' (dropP L k).length c'], .agg (takeM L k).row, .int .i64 (takeE L k)]) ∧ Out w w' p' xs' (dropP L k) := by
  have HC := Lib.hid (fun w' hb => drop_any p n c xs L k w' hz (h.below hb))
  have HP := Lib.hid h
  have HZ := Lib.hid hz
  obtain ⟨D, hD⟩ : ∃ D, D = dropP L k := ⟨_, rfl⟩
  obtain ⟨er, her⟩ : ∃ er, er = checkP L k := ⟨_, rfl⟩
  obtain ⟨te, hte⟩ : ∃ te, te = takeE L k := ⟨_, rfl⟩
  obtain ⟨tm, htm⟩ : ∃ tm, tm = (takeM L k).row := ⟨_, rfl⟩
  rw [← hD, ← hte, ← htm]
  rw [← hD, ← her] at HC
  have HD := Lib.hid hD
  have HER := Lib.hid her
  have HTE := Lib.hid hte
  have HTM := Lib.hid htm
  clear h hz hD her hte htm
  go_enter Try.func11, Try.ntmps11
  go_wp2_with fail
  refine (HC.out _ ((((Below.refl _ _).alloc (Nat.le_refl _) _).alloc (by simp) _).alloc (by simp; omega) _)).mono ?_
  rintro e w1 ⟨p1, c1, ys, rfl, ho⟩
  have HBX : Hid (Below w.heap.size w w1) := Lib.hid (((((Below.refl _ _).alloc (Nat.le_refl _) _).alloc (by simp) _).alloc (by simp; omega) _).trans (ho.below.mono (by simp; omega)))
  have HKM := Lib.hid (Blk.track1 ho.below)
  have HKR := Lib.hid (Blk.track2 ho.below)
  have HKB : Hid (Blk w1 w.heap.size #[.slice p n c]) := Lib.hid ((((Blk.new w #[.slice p n c] 24).alloc _).alloc _).below ho.below)
  simp only [World.size_alloc] at HKM HKR
  have HPL := Lib.hid ho.pl
  have HOFF := Lib.hid ho.off
  simp only [World.size_alloc] at HOFF
  obtain ⟨d, hd⟩ : ∃ d, d = D.length := ⟨_, rfl⟩
  rw [← hd]
  have HDL := Lib.hid hd
  clear ho hd HC
  by_cases hk : er = 0
  · subst hk
    have hk : checkP L k = 0 := HER.out.symm
    obtain ⟨i, rfl, hi, hat⟩ := drop_at hk
    obtain ⟨b, off, hb, rfl, hcell⟩ := HP.out.at_ (by omega)
    have hck := hcell i hi
    have hl := HP.out.l100 _ (mem_getD L [] i hi)
    obtain ⟨q, c2, hv, hc2, hby⟩ := HP.out.fs i hi
    rw [hv] at hck
    obtain ⟨x, hx⟩ : ∃ x, x = L.getD i [] := ⟨_, rfl⟩
    have hte : te = readE x := by rw [HTE.out]; unfold takeE; rw [if_pos hk, hat, hx]
    have htm : tm = (readM x).row := by rw [HTM.out]; unfold takeM; rw [if_pos hk, hat, hx]
    rw [← hx] at hck hl hc2 hby
    obtain ⟨xl, hxl⟩ : ∃ xl, xl = x.length := ⟨_, rfl⟩
    rw [← hxl] at hck hl hc2
    obtain ⟨mk, mf, mt, ml, mo, ma, mown, mn, mv, hrow⟩ := msg_parts (readM x)
    rw [hrow] at htm
    subst hte htm
    have hi' : (i : Int) < (n : Int) := by have := HZ.out; omega
    have HROW := Lib.hid hrow
    have HBY := Lib.hid hby
    have HXL := Lib.hid hxl
    have cB := HKB.out.c
    have cB1 := (HKB.out.alloc (.cells #[.slice p1 d c1] 24)).c
    have hck1 : (w1.alloc (.cells #[.slice p1 d c1] 24)).cell? ⟨b, off + i, none⟩ = some (.slice q xl c2) := (((HBX.out.alloc HBX.out.size _)).cell (p := ⟨b, off + i, none⟩) hb).trans hck
    clear hcell hv hx hby hxl hrow hi hat hk hck cB
    go_wp2_with fail
    have hread := read_any q xl c2 x (w1.alloc (.cells #[.slice p1 d c1] 24)) HXL.out.symm (by unfold maxLen; omega) hc2 (HBY.out.below (HBX.out.alloc HBX.out.size _))
    rw [HROW.out] at hread
    refine hread.mono ?_
    clear hread
    rintro e w2 ⟨rfl, hb2⟩
    have HB12 : Hid (Below w1.heap.size w1 w2) := Lib.hid (((Below.refl _ _).alloc (Nat.le_refl _) _).trans (hb2.mono (by simp)))
    have HKS := Lib.hid (Blk.track1 hb2)
    have HKR2 := Lib.hid (HKR.out.below HB12.out)
    have HKM2 := Lib.hid (HKM.out.below HB12.out)
    have HPL2 := Lib.hid (HPL.out.below HB12.out)
    have HB2 : Hid (Below w.heap.size w w2) := Lib.hid (HBX.out.trans (HB12.out.mono HBX.out.size))
    have HSZ : Hid (w.heap.size + 1 + 1 < w2.heap.size) := Lib.hid HKM2.out.lt
    have HSZ1 : Hid (w.heap.size + 1 + 1 < w1.heap.size) := Lib.hid HKM.out.lt
    clear hb2 cB1 hck1
    go_upto_region 5 with fail
    obtain ⟨W, hW⟩ : ∃ W, W = w2.alloc (.cells #[.int .i64 mk, .int .i64 mf, .int .i64 mt, .int .i64 ml, .int .i64 mo, .int .i64 ma, .bool mown, .int .u32 mn, .int .u32 mv] 27) := ⟨_, rfl⟩
    have HM : Hid (Blk W w2.heap.size #[.int .i64 mk, .int .i64 mf, .int .i64 mt, .int .i64 ml, .int .i64 mo, .int .i64 ma, .bool mown, .int .u32 mn, .int .u32 mv]) := by rw [hW]; exact Blk.new _ _ _
    have HWB : Hid (Below w2.heap.size w2 W) := by rw [hW]; exact (Below.refl _ _).alloc (Nat.le_refl _) _
    rw [← hW]
    clear hW
    have HS0 : Hid (Blk W.drew w1.heap.size #[.slice p1 d c1] ∧ Blk W.drew w2.heap.size #[.int .i64 mk, .int .i64 mf, .int .i64 mt, .int .i64 ml, .int .i64 mo, .int .i64 ma, .bool mown, .int .u32 mn, .int .u32 mv]) := Lib.hid ⟨(HKS.out.below HWB.out).drew, HM.out.drew⟩
    have HR0 := Lib.hid (HKR2.out.below HWB.out)
    have HG0 := Lib.hid (HKM2.out.below HWB.out)
    refine region_plan (fun w' : World => Blk w' w1.heap.size #[.slice p1 d c1] ∧ Blk w' w2.heap.size #[.int .i64 mk, .int .i64 mf, .int .i64 mt, .int .i64 ml, .int .i64 mo, .int .i64 ma, .bool mown, .int .u32 mn, .int .u32 mv]) 5 [(0, true), (1, true), (2, true), (3, false), (4, false)] (by kernel_rfl) (by kernel_rfl) HS0.out ?_
    iterate 3
      refine plan_read (v := ?_) rfl (by rfl) ?_ ?_
      rotate_left
      · intro w' hS
        try dsimp only at hS
        have c1 := hS.1.c
        have c2 := hS.2.c
        go_simp
        try with_reducible rfl
      try simp only [Act.put, List.setIfInBounds_toArray, List.set_cons_zero, List.set_cons_succ, List.getElem_toArray, List.getElem_cons_zero, List.getElem_cons_succ]
    have cR := HR0.out.c
    have fR := HR0.out.f
    refine plan_store (w1 := W.drew.setCell ⟨w.heap.size + 1, 0, none⟩ (.slice p1 d c1)) rfl (by rfl) ?_ ?_ ?_
    · go_simp
    · exact ⟨HS0.out.1.other _ (by have := HSZ1.out; omega), HS0.out.2.other _ (by have := HSZ.out; omega)⟩
    try simp only [Act.put, List.setIfInBounds_toArray, List.set_cons_zero, List.set_cons_succ, List.getElem_toArray, List.getElem_cons_zero, List.getElem_cons_succ]
    have HSS : Hid (Blk (W.drew.setCell ⟨w.heap.size + 1, 0, none⟩ (.slice p1 d c1)) w1.heap.size #[.slice p1 d c1] ∧ Blk (W.drew.setCell ⟨w.heap.size + 1, 0, none⟩ (.slice p1 d c1)) w2.heap.size #[.int .i64 mk, .int .i64 mf, .int .i64 mt, .int .i64 ml, .int .i64 mo, .int .i64 ma, .bool mown, .int .u32 mn, .int .u32 mv]) := Lib.hid ⟨HS0.out.1.other _ (by have := HSZ1.out; omega), HS0.out.2.other _ (by have := HSZ.out; omega)⟩
    have HGG := Lib.hid (HG0.out.drew.other (B' := w.heap.size + 1) (n := 0) (.slice p1 d c1) (by omega))
    have HRR := Lib.hid (HR0.out.drew.set (n := 0) (.slice p1 d c1) (by simp))
    have HPP := Lib.hid (((HPL2.out.below HWB.out).below (Below.refl _ _).drew).set (R := w.heap.size + 1) (HOFF.out.sub (fun b e => by omega)) 0 (.slice p1 d c1))
    have HBB : Hid (Below w.heap.size w (W.drew.setCell ⟨w.heap.size + 1, 0, none⟩ (.slice p1 d c1))) := Lib.hid (((HB2.out.trans (HWB.out.mono HB2.out.size)).drew).setCell (p := ⟨w.heap.size + 1, 0, none⟩) (by show w.heap.size ≤ w.heap.size + 1; omega) _)
    obtain ⟨w6, hw6⟩ : ∃ w6, w6 = W.drew.setCell ⟨w.heap.size + 1, 0, none⟩ (.slice p1 d c1) := ⟨_, rfl⟩
    rw [← hw6] at HSS HGG HRR HPP HBB ⊢
    clear hw6 cR fR HS0 HR0 HG0
    have cG := HGG.out.c
    have fG := HGG.out.f
    refine plan_store (w1 := ?_) rfl (by rfl) ?_ ?_ ?_
    rotate_left
    · go_simp
      rfl
    · exact ⟨blkO9 HSS.out.1 (by have := HSZ1.out; omega), blkO9 HSS.out.2 (by have := HSZ.out; omega)⟩
    try simp only [Act.put, List.setIfInBounds_toArray, List.set_cons_zero, List.set_cons_succ, List.getElem_toArray, List.getElem_cons_zero, List.getElem_cons_succ]
    have HG9 := Lib.hid (blkS9 HGG.out (v0 := .int .i64 mk) (v1 := .int .i64 mf) (v2 := .int .i64 mt) (v3 := .int .i64 ml) (v4 := .int .i64 mo) (v5 := .int .i64 ma) (v6 := .bool mown) (v7 := .int .u32 mn) (v8 := .int .u32 mv))
    have HR9 := Lib.hid (blkO9 (X := w.heap.size + 1 + 1) HRR.out (by omega) (v0 := .int .i64 mk) (v1 := .int .i64 mf) (v2 := .int .i64 mt) (v3 := .int .i64 ml) (v4 := .int .i64 mo) (v5 := .int .i64 ma) (v6 := .bool mown) (v7 := .int .u32 mn) (v8 := .int .u32 mv))
    have HP9 := Lib.hid (pl_store9 (R := w.heap.size + 1 + 1) HPP.out (HOFF.out.sub (fun b e => by omega)) (.int .i64 mk) (.int .i64 mf) (.int .i64 mt) (.int .i64 ml) (.int .i64 mo) (.int .i64 ma) (.bool mown) (.int .u32 mn) (.int .u32 mv))
    have HB9 := Lib.hid (belowS9 (X := w.heap.size + 1 + 1) HBB.out (by omega) (v0 := .int .i64 mk) (v1 := .int .i64 mf) (v2 := .int .i64 mt) (v3 := .int .i64 ml) (v4 := .int .i64 mo) (v5 := .int .i64 ma) (v6 := .bool mown) (v7 := .int .u32 mn) (v8 := .int .u32 mv))
    obtain ⟨w7, hw7⟩ : ∃ w7, w7 = (((((((((w6.setCell ⟨w.heap.size + 1 + 1, 0, none⟩ (.int .i64 mk)).setCell ⟨w.heap.size + 1 + 1, 1, none⟩ (.int .i64 mf)).setCell ⟨w.heap.size + 1 + 1, 2, none⟩ (.int .i64 mt)).setCell ⟨w.heap.size + 1 + 1, 3, none⟩ (.int .i64 ml)).setCell ⟨w.heap.size + 1 + 1, 4, none⟩ (.int .i64 mo)).setCell ⟨w.heap.size + 1 + 1, 5, none⟩ (.int .i64 ma)).setCell ⟨w.heap.size + 1 + 1, 6, none⟩ (.bool mown)).setCell ⟨w.heap.size + 1 + 1, 7, none⟩ (.int .u32 mn)).setCell ⟨w.heap.size + 1 + 1, 8, none⟩ (.int .u32 mv)) := ⟨_, rfl⟩
    rw [← hw7] at HG9 HR9 HP9 HB9 ⊢
    clear hw7 cG fG HSS HGG HRR HPP HBB
    have cG := HG9.out.c
    have cR := HR9.out.c
    refine plan_nil ?_
    simp only [List.drop_succ_cons, List.drop_zero]
    go_wp2_with fail
    exact bodyPost_ret (v := .tuple #[.agg #[.slice p1 d c1], .agg #[.int .i64 mk, .int .i64 mf, .int .i64 mt, .int .i64 ml, .int .i64 mo, .int .i64 ma, .bool mown, .int .u32 mn, .int .u32 mv], .int .i64 (readE x)]) (by simp [results, Try.results11, go_sem, *]) rfl ⟨p1, c1, ys, by rw [HDL.out], HP9.out, HOFF.out.sub (fun b e => by omega), HB9.out⟩
  · have hdp : D = L := by rw [HD.out]; unfold dropP; rw [if_neg (by rw [← HER.out]; exact hk)]
    have hte : te = er := by rw [HTE.out, HER.out]; unfold takeE; rw [if_neg (by rw [← HER.out]; exact hk)]
    have htm : tm = #[.int .i64 0, .int .i64 0, .int .i64 0, .int .i64 0, .int .i64 0, .int .i64 0, .bool false, .int .u32 0, .int .u32 0] := by rw [HTM.out]; unfold takeM; rw [if_neg (by rw [← HER.out]; exact hk)]; rfl
    have e0 : (er != 0) = true := by simpa using hk
    subst hte htm
    clear hk
    have cR := HKR.out.c
    have fR := HKR.out.f
    have lR := HKR.out.lt
    have cG := HKM.out.c
    have fG := HKM.out.f
    have lG := HKM.out.lt
    go_wp2_with fail
    exact bodyPost_ret (v := .tuple #[.agg #[.slice p1 d c1], .agg #[.int .i64 0, .int .i64 0, .int .i64 0, .int .i64 0, .int .i64 0, .int .i64 0, .bool false, .int .u32 0, .int .u32 0], .int .i64 te]) (by simp [results, Try.results11, go_sem, *]) rfl ⟨p1, c1, ys, by rw [HDL.out], (pl_store9 (HPL.out.set (HOFF.out.sub (fun b e => by omega)) 0 _) (HOFF.out.sub (fun b e => by omega)) _ _ _ _ _ _ _ _ _).below ((Below.refl _ _).alloc (Nat.le_refl _) _), HOFF.out.sub (fun b e => by omega), (belowS9 (HBX.out.setCell (p := ⟨w.heap.size + 1, 0, none⟩) (by show w.heap.size ≤ w.heap.size + 1; omega) _) (by omega)).alloc (by simp; have := HBX.out.size; omega) _⟩
end Go.Proofs.Ytpmheaeiemnjeaa
