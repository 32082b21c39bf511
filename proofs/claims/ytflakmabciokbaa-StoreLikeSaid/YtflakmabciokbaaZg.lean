/- Laid together, in this order: StM, StN, StO, StP, StQ, StR. -/
import Derived.Test.YtflakmabciokbaaZf
set_option linter.unusedSimpArgs false
set_option linter.unusedVariables false
/- A store trimmed, with a bank lost, and rebuilt, by the program; no condition but that it reads. -/
namespace Go.Proofs.Ytflakmabciokbaa
set_option linter.unusedVariables false
open Go.ChangeShapes Go.WideShapes Go.ChangeAt Go.RowKit

theorem keep_lt (l : List Ud.Un) (t : Int) : keepF (ltPr t) l = Ud.fromL l t := by
  unfold keepF ltPr Ud.fromL
  refine List.filter_congr fun u _ => ?_
  by_cases h : u.span < t
  · rw [decide_eq_true h, decide_eq_false (show ¬ t ≤ u.span by omega)]; rfl
  · rw [decide_eq_false h, decide_eq_true (show t ≤ u.span by omega)]; rfl
theorem keep_ge (l : List Ud.Un) (t : Int) : keepF (gePr t) l = Ud.belowL l t := by
  unfold keepF gePr Ud.belowL
  refine List.filter_congr fun u _ => ?_
  by_cases h : u.span < t
  · rw [decide_eq_true h, decide_eq_false (show ¬ t ≤ u.span by omega)]; rfl
  · rw [decide_eq_false h, decide_eq_true (show t ≤ u.span by omega)]; rfl

set_option maxHeartbeats 4000000 in
theorem strim_any {T : Nat → Prop} (S : Nat → Prop) (v : Value) (V : Vt) (t : Int) (w : World) (h : Vo T w v V) (hS : ∀ R, S R → R < w.heap.size) :
    Calls Try.prog 13 #[v, .int .i64 t] w fun e w' => OutV S w w' e (trimV V t) (trimVE V t) := by
  obtain ⟨⟨L, P, z⟩, wo, sp, l⟩ := V
  obtain ⟨p0, n, c0, xs0, pp0, m, cc0, q0, k, d0, rfl, hc, -⟩ := h
  dsimp only at hc ⊢
  have hm100 : m ≤ 100 := hc.bn.m100
  have hn100 : n ≤ 100 := hc.bn.n100
  have hk10 : k ≤ 10000 := hc.k10
  have HZN : Hid (L.length = n ∧ P.length = m ∧ l.length = k) := Lib.hid ⟨hc.bn.zn, hc.bn.zm, hc.ll⟩
  have HU32 : Hid (U32 l) := Lib.hid hc.u32
  have HSS := Lib.hid hS
  have HCP : Hid (∀ W, Below w.heap.size w W → Calls Try.prog 36 #[.agg #[.slice p0 n c0, .slice pp0 m cc0, .int .i64 z, .int .i64 wo, .int .i64 sp, .slice q0 k d0]] W fun e w' => ∃ p' c' ys pp' cc' q' d', e = .returned (.agg #[.slice p' n c', .slice pp' m cc', .int .i64 z, .int .i64 wo, .int .i64 sp, .slice q' k d']) ∧ OwnV W.heap.size w' p' n c' ys pp' m cc' q' k d' ⟨⟨L, P, z⟩, wo, sp, l⟩ ∧ Below W.heap.size W w') := Lib.hid (fun W hW => scopied_any p0 n c0 xs0 pp0 m cc0 q0 k d0 ⟨⟨L, P, z⟩, wo, sp, l⟩ W (hc.below hW))
  clear hS hc
  obtain ⟨w0, hw0⟩ : ∃ w0, w0 = ((w.alloc (.cells #[.slice p0 n c0, .slice pp0 m cc0, .int .i64 z, .int .i64 wo, .int .i64 sp, .slice q0 k d0] 28)).alloc (.cells #[.int .i64 t] 3)).alloc (.cells #[.slice none 0 0, .slice none 0 0, .int .i64 0, .int .i64 0, .int .i64 0, .slice none 0 0] 28) := ⟨_, rfl⟩
  have HB0 : Hid (Below w.heap.size w w0) := Lib.hid (by rw [hw0]; exact (((Below.refl _ _).alloc (Nat.le_refl _) _).alloc (by simp <;> omega) _).alloc (by simp <;> omega) _)
  have HBK : Hid (Blk w0 w.heap.size #[.slice p0 n c0, .slice pp0 m cc0, .int .i64 z, .int .i64 wo, .int .i64 sp, .slice q0 k d0] ∧ Blk w0 (w.heap.size + 1) #[.int .i64 t] ∧ Blk w0 (w.heap.size + 2) #[.slice none 0 0, .slice none 0 0, .int .i64 0, .int .i64 0, .int .i64 0, .slice none 0 0]) := Lib.hid (by
    have k0 := Blk.new w #[.slice p0 n c0, .slice pp0 m cc0, .int .i64 z, .int .i64 wo, .int .i64 sp, .slice q0 k d0] 28
    have k1 := Blk.new (w.alloc (.cells #[.slice p0 n c0, .slice pp0 m cc0, .int .i64 z, .int .i64 wo, .int .i64 sp, .slice q0 k d0] 28)) #[.int .i64 t] 3
    have k2 := Blk.new ((w.alloc (.cells #[.slice p0 n c0, .slice pp0 m cc0, .int .i64 z, .int .i64 wo, .int .i64 sp, .slice q0 k d0] 28)).alloc (.cells #[.int .i64 t] 3)) #[.slice none 0 0, .slice none 0 0, .int .i64 0, .int .i64 0, .int .i64 0, .slice none 0 0] 28
    simp only [World.size_alloc] at k1 k2
    rw [hw0]
    exact ⟨((k0.alloc _).alloc _), (k1.alloc _), k2⟩)
  have HSZ : Hid (w0.heap.size = w.heap.size + 3) := Lib.hid (by rw [hw0]; simp only [World.size_alloc])
  have HW0 := Lib.hid hw0
  clear hw0
  have HNO : Hid (okS ⟨⟨L, P, z⟩, wo, sp, l⟩ t = false → trimV ⟨⟨L, P, z⟩, wo, sp, l⟩ t = ⟨⟨L, P, z⟩, wo, sp, l⟩ ∧ trimVE ⟨⟨L, P, z⟩, wo, sp, l⟩ t = 1) := Lib.hid (fun e => by unfold trimV trimVE; rw [e]; exact ⟨rfl, rfl⟩)
  have HYES : Hid (okS ⟨⟨L, P, z⟩, wo, sp, l⟩ t = true → trimV ⟨⟨L, P, z⟩, wo, sp, l⟩ t = ⟨⟨L, P, z⟩, wo, sp, keepF (ltPr t) l⟩ ∧ trimVE ⟨⟨L, P, z⟩, wo, sp, l⟩ t = 0) := Lib.hid (fun e => by unfold trimV trimVE; rw [e, keep_lt]; exact ⟨rfl, rfl⟩)
  go_enter Try.func13, Try.ntmps13
  have kA := HBK.out.1.c
  go_upto_region 1 with fail
  rw [← HW0.out]
  clear HW0
  go_wp2_with fail
  refine (HCP.out w0 HB0.out).mono ?_
  rintro e w1 ⟨p, c, ys, pp, cc, q, d, rfl, ho, hb⟩
  have HB1 : Hid (Below w.heap.size w w1) := Lib.hid (HB0.out.trans (hb.mono HB0.out.size))
  have HSM : Hid (SV w (w1.alloc (.cells #[.slice p n c, .slice pp m cc, .int .i64 z, .int .i64 wo, .int .i64 sp, .slice q k d] 28)) (w.heap.size + 2) (w.heap.size + 3) w1.heap.size p n c ys pp m cc q k d ⟨⟨L, P, z⟩, wo, sp, l⟩) := Lib.hid (SV.make (b0 := w.heap.size + 3) (by rw [HSZ.out] at ho; exact ho) HB1.out (HBK.out.2.2.below hb) (by omega) (by rw [← HSZ.out]; exact hb.size))
  have HX1 := Lib.hid ((HBK.out.2.1.below hb).alloc (.cells #[.slice p n c, .slice pp m cc, .int .i64 z, .int .i64 wo, .int .i64 sp, .slice q k d] 28))
  clear ho hb kA HCP HB0 HBK HB1
  go_upto_region 2 with fail
  obtain ⟨bo, hbo⟩ : ∃ b, b = w1.heap.size := ⟨_, rfl⟩
  obtain ⟨w2, hw2⟩ : ∃ W9, W9 = w1.alloc (.cells #[.slice p n c, .slice pp m cc, .int .i64 z, .int .i64 wo, .int .i64 sp, .slice q k d] 28) := ⟨_, rfl⟩
  rw [← hw2, ← hbo] at HSM
  rw [← hw2, ← hbo]
  rw [← hw2] at HX1
  clear hw2 hbo
  have HQ := Lib.hid (shad_any _ _ _ t w2 HSM.out.vo)
  obtain ⟨r, hr⟩ : ∃ r, r = okS ⟨⟨L, P, z⟩, wo, sp, l⟩ t := ⟨_, rfl⟩
  rw [← hr] at HQ HNO HYES
  clear hr
  have kK := HSM.out.hk.c
  have kX := HX1.out.c
  go_wp2_with fail
  refine HQ.out.mono ?_
  rintro e w3 ⟨rfl, hb⟩
  have HS3 := Lib.hid (HSM.out.below hb)
  have HX3 := Lib.hid (HX1.out.below hb)
  clear hb kK kX HSM HQ HX1
  cases r with
  | false =>
    have HN := Lib.hid (HNO.out (by first | rfl | trivial))
    clear HNO HYES
    have kK := HS3.out.hk.c
    have kT := HS3.out.ht.c
    have fT := HS3.out.ht.f
    have lT := HS3.out.ht.lt
    go_wp2_with fail
    refine bodyPost_ret (v := .tuple #[.agg #[.slice p n c, .slice pp m cc, .int .i64 z, .int .i64 wo, .int .i64 sp, .slice q k d], .int .i64 1]) (by simp [results, Try.results13, go_sem, *]) rfl (HS3.out.out HSS.out 1 HN.out)
  | true =>
    have HN := Lib.hid (HYES.out (by first | rfl | trivial))
    have HDE := Lib.hid (deleteLt_any (w.heap.size + 3) q k d t (w.heap.size + 1) l w3 HS3.out.ho.lo HZN.out.2.2 hk10 (HX3.out.c 0) HX3.out.lt (by omega))
    have HUU : Hid (U32 (keepF (ltPr t) l)) := Lib.hid (HU32.out.filter _)
    have HKL : Hid ((keepF (ltPr t) l).length ≤ 10000) := Lib.hid (by have h9 : (keepF (ltPr t) l).length ≤ l.length := List.length_filter_le _ _; have h8 := HZN.out.2.2; omega)
    obtain ⟨l2, hl2⟩ : ∃ y, y = keepF (ltPr t) l := ⟨_, rfl⟩
    rw [← hl2] at HN HDE HUU HKL
    clear HNO HYES hl2
    have kK := HS3.out.hk.c
    go_wp2_with fail
    refine HDE.out.mono ?_
    rintro e w4 ⟨k2, rfl, hk2, ho, hg⟩
    have HS5 := Lib.hid (HS3.out.list5 (by rw [← hk2]; exact HKL.out) ho hg (.inl (by cases q <;> rfl)) HUU.out)
    have HK4 := Lib.hid (HS3.out.hk.grown hg (fun e => HS3.out.nq bo e rfl))
    clear ho hg hk2 kK HS3 HDE
    have kK := HK4.out.c
    have fK := HK4.out.f
    have lK := HK4.out.lt
    go_upto_region 5 with fail
    obtain ⟨w5, hw5⟩ : ∃ W9, W9 = w4.setCell ⟨bo, 5, none⟩ (.slice q k2 d) := ⟨_, rfl⟩
    rw [← hw5] at HS5 ⊢
    clear hw5 kK fK lK HK4
    have kK := HS5.out.hk.c
    have kT := HS5.out.ht.c
    have fT := HS5.out.ht.f
    have lT := HS5.out.ht.lt
    go_wp2_with fail
    refine bodyPost_ret (v := .tuple #[.agg #[.slice p n c, .slice pp m cc, .int .i64 z, .int .i64 wo, .int .i64 sp, .slice q k2 d], .int .i64 0]) (by simp [results, Try.results13, go_sem, *]) rfl (HS5.out.out HSS.out 0 HN.out)

set_option maxHeartbeats 4000000 in
theorem slose1_any (p : Option Addr) (n c : Nat) (xs : List Value) (pp : Option Addr) (m cc : Nat) (B : Bk) (a : Int) (X : Nat) (w : World) (h : Bn w p n c xs pp m cc B) (hX : w.cell? ⟨X, 0, none⟩ = some (.int .i64 a)) (hxl : X < w.heap.size) :
    Calls Try.prog 63 #[.agg #[.slice p n c, .slice pp m cc, .int .i64 B.lost], .pointer (some ⟨X, 0, none⟩)] w fun e w' => Back w w' e n m (loseB B a) (loseE B a) := by
  have HRD : Hid (∀ W, Below w.heap.size w W → Calls Try.prog 64 #[.agg #[.slice p n c, .slice pp m cc, .int .i64 B.lost], .int .i64 a] W fun e w' => Back W w' e n m (loseB B a) (loseE B a)) := Lib.hid (fun W hW => lose_any p n c xs pp m cc B a W (h.below hW))
  obtain ⟨lo, hlo⟩ : ∃ y, y = B.lost := ⟨_, rfl⟩
  obtain ⟨r, hr⟩ : ∃ y, y = loseB B a := ⟨_, rfl⟩
  obtain ⟨e, he⟩ : ∃ y, y = loseE B a := ⟨_, rfl⟩
  rw [← hlo, ← hr, ← he] at HRD
  rw [← hlo, ← hr, ← he]
  clear hlo hr he h
  obtain ⟨w0, hw0⟩ : ∃ w0, w0 = (w.alloc (.cells #[.slice p n c, .slice pp m cc, .int .i64 lo] 25)).alloc (.cells #[.slice none 0 0, .slice none 0 0, .int .i64 0] 25) := ⟨_, rfl⟩
  have HA0 : Hid (Blk w0 w.heap.size #[.slice p n c, .slice pp m cc, .int .i64 lo]) := Lib.hid (by rw [hw0]; exact (Blk.new _ _ _).alloc _)
  have HR0 : Hid (Blk w0 (w.heap.size + 1) #[.slice none 0 0, .slice none 0 0, .int .i64 0]) := Lib.hid (by
    have k2 := Blk.new (w.alloc (.cells #[.slice p n c, .slice pp m cc, .int .i64 lo] 25)) #[.slice none 0 0, .slice none 0 0, .int .i64 0] 25
    simp only [World.size_alloc] at k2
    rw [hw0]; exact k2)
  have HB0 : Hid (Below w.heap.size w w0) := Lib.hid (by rw [hw0]; exact ((Below.refl _ _).alloc (Nat.le_refl _) _).alloc (by simp) _)
  have HSZ : Hid (w0.heap.size = w.heap.size + 2) := Lib.hid (by rw [hw0, World.size_alloc, World.size_alloc])
  have HW0 := Lib.hid hw0
  have kX : w0.cell? ⟨X, 0, none⟩ = some (.int .i64 a) := (HB0.out.cell (p := ⟨X, 0, none⟩) hxl).trans hX
  clear hw0 hX
  go_enter Try.func63, Try.ntmps63
  have kA := HA0.out.c
  go_upto_region 1 with fail
  rw [← HW0.out]
  clear HW0
  go_wp2_with fail
  refine (HRD.out w0 HB0.out).mono ?_
  rintro e w1 ⟨q, d, ys, qq, dd, rfl, ho, hb⟩
  have HO1 : Hid (OwnB (w.heap.size + 2) w1 q n d ys qq m dd r) := Lib.hid (by rw [HSZ.out] at ho; exact ho)
  have HBB : Hid (Below w.heap.size w w1) := Lib.hid (HB0.out.trans (hb.mono HB0.out.size))
  have cR := (HR0.out.below hb).c
  have fR := (HR0.out.below hb).f
  have lR := (HR0.out.below hb).lt
  clear ho hb kA kX
  go_wp2_with fail
  refine bodyPost_ret (v := .tuple #[.agg #[.slice q n d, .slice qq m dd, .int .i64 r.lost], .int .i64 e]) (by simp [results, Try.results63, go_sem, *]) rfl ⟨q, d, ys, qq, dd, rfl, res3_own HO1.out _ _ _, res3_below HBB.out _ _ _⟩

set_option maxHeartbeats 4000000 in
theorem swithL_any {T : Nat → Prop} (S : Nat → Prop) (v : Value) (V : Vt) (w : World) (a : Int) (X : Nat) (hX : w.cell? ⟨X, 0, none⟩ = some (.int .i64 a)) (hxl : X < w.heap.size) (h : Vo T w v V) (hS : ∀ R, S R → R < w.heap.size) :
    Calls Try.prog 62 #[v, .func (.func 63) #[] #[.pointer (some ⟨X, 0, none⟩)]] w fun e w' => OutV S w w' e (loseV V a) (loseVE V a) := by
  have HXX := Lib.hid (And.intro hX hxl)
  clear hX hxl
  obtain ⟨⟨L, P, z⟩, wo, sp, l⟩ := V
  obtain ⟨p0, n, c0, xs0, pp0, m, cc0, q0, k, d0, rfl, hc, -⟩ := h
  dsimp only at hc ⊢
  have hm100 : m ≤ 100 := hc.bn.m100
  have hn100 : n ≤ 100 := hc.bn.n100
  have hk10 : k ≤ 10000 := hc.k10
  have HZN : Hid (L.length = n ∧ P.length = m ∧ l.length = k) := Lib.hid ⟨hc.bn.zn, hc.bn.zm, hc.ll⟩
  have HU32 : Hid (U32 l) := Lib.hid hc.u32
  have HSS := Lib.hid hS
  have HCP : Hid (∀ W, Below w.heap.size w W → Calls Try.prog 36 #[.agg #[.slice p0 n c0, .slice pp0 m cc0, .int .i64 z, .int .i64 wo, .int .i64 sp, .slice q0 k d0]] W fun e w' => ∃ p' c' ys pp' cc' q' d', e = .returned (.agg #[.slice p' n c', .slice pp' m cc', .int .i64 z, .int .i64 wo, .int .i64 sp, .slice q' k d']) ∧ OwnV W.heap.size w' p' n c' ys pp' m cc' q' k d' ⟨⟨L, P, z⟩, wo, sp, l⟩ ∧ Below W.heap.size W w') := Lib.hid (fun W hW => scopied_any p0 n c0 xs0 pp0 m cc0 q0 k d0 ⟨⟨L, P, z⟩, wo, sp, l⟩ W (hc.below hW))
  clear hS hc
  obtain ⟨w0, hw0⟩ : ∃ w0, w0 = (w.alloc (.cells #[.slice p0 n c0, .slice pp0 m cc0, .int .i64 z, .int .i64 wo, .int .i64 sp, .slice q0 k d0] 28)).alloc (.cells #[.slice none 0 0, .slice none 0 0, .int .i64 0, .int .i64 0, .int .i64 0, .slice none 0 0] 28) := ⟨_, rfl⟩
  have HB0 : Hid (Below w.heap.size w w0) := Lib.hid (by rw [hw0]; exact ((Below.refl _ _).alloc (Nat.le_refl _) _).alloc (by simp <;> omega) _)
  have HBK : Hid (Blk w0 w.heap.size #[.slice p0 n c0, .slice pp0 m cc0, .int .i64 z, .int .i64 wo, .int .i64 sp, .slice q0 k d0] ∧ Blk w0 (w.heap.size + 1) #[.slice none 0 0, .slice none 0 0, .int .i64 0, .int .i64 0, .int .i64 0, .slice none 0 0]) := Lib.hid (by
    have k0 := Blk.new w #[.slice p0 n c0, .slice pp0 m cc0, .int .i64 z, .int .i64 wo, .int .i64 sp, .slice q0 k d0] 28
    have k1 := Blk.new (w.alloc (.cells #[.slice p0 n c0, .slice pp0 m cc0, .int .i64 z, .int .i64 wo, .int .i64 sp, .slice q0 k d0] 28)) #[.slice none 0 0, .slice none 0 0, .int .i64 0, .int .i64 0, .int .i64 0, .slice none 0 0] 28
    simp only [World.size_alloc] at k1
    rw [hw0]
    exact ⟨(k0.alloc _), k1⟩)
  have HSZ : Hid (w0.heap.size = w.heap.size + 2) := Lib.hid (by rw [hw0]; simp only [World.size_alloc])
  have HW0 := Lib.hid hw0
  clear hw0
  have HNO : Hid (rightV ⟨⟨L, P, z⟩, wo, sp, l⟩ = false → loseV ⟨⟨L, P, z⟩, wo, sp, l⟩ a = ⟨⟨L, P, z⟩, wo, sp, l⟩ ∧ loseVE ⟨⟨L, P, z⟩, wo, sp, l⟩ a = 1) := Lib.hid (fun e => by unfold loseV loseVE; rw [e]; exact ⟨rfl, rfl⟩)
  have HYES : Hid (rightV ⟨⟨L, P, z⟩, wo, sp, l⟩ = true → loseV ⟨⟨L, P, z⟩, wo, sp, l⟩ a = ⟨loseB ⟨L, P, z⟩ a, wo, sp, l⟩ ∧ loseVE ⟨⟨L, P, z⟩, wo, sp, l⟩ a = loseE ⟨L, P, z⟩ a) := Lib.hid (fun e => by unfold loseV loseVE; rw [e]; exact ⟨rfl, rfl⟩)
  go_enter Try.func62, Try.ntmps62
  have kA := HBK.out.1.c
  go_upto_region 1 with fail
  rw [← HW0.out]
  clear HW0
  go_wp2_with fail
  refine (HCP.out w0 HB0.out).mono ?_
  rintro e w1 ⟨p, c, ys, pp, cc, q, d, rfl, ho, hb⟩
  have HB1 : Hid (Below w.heap.size w w1) := Lib.hid (HB0.out.trans (hb.mono HB0.out.size))
  have HSM : Hid (SV w (w1.alloc (.cells #[.slice p n c, .slice pp m cc, .int .i64 z, .int .i64 wo, .int .i64 sp, .slice q k d] 28)) (w.heap.size + 1) (w.heap.size + 2) w1.heap.size p n c ys pp m cc q k d ⟨⟨L, P, z⟩, wo, sp, l⟩) := Lib.hid (SV.make (b0 := w.heap.size + 2) (by rw [HSZ.out] at ho; exact ho) HB1.out (HBK.out.2.below hb) (by omega) (by rw [← HSZ.out]; exact hb.size))
  clear ho hb kA HCP HB0 HBK HB1
  go_upto_region 2 with fail
  obtain ⟨bo, hbo⟩ : ∃ b, b = w1.heap.size := ⟨_, rfl⟩
  obtain ⟨w2, hw2⟩ : ∃ W9, W9 = w1.alloc (.cells #[.slice p n c, .slice pp m cc, .int .i64 z, .int .i64 wo, .int .i64 sp, .slice q k d] 28) := ⟨_, rfl⟩
  rw [← hw2, ← hbo] at HSM
  rw [← hw2, ← hbo]
  clear hw2 hbo
  have HQ := Lib.hid (sright_any _ _ _ w2 HSM.out.vo)
  obtain ⟨r, hr⟩ : ∃ r, r = rightV ⟨⟨L, P, z⟩, wo, sp, l⟩ := ⟨_, rfl⟩
  rw [← hr] at HQ HNO HYES
  clear hr
  have kK := HSM.out.hk.c
  go_wp2_with fail
  refine HQ.out.mono ?_
  rintro e w3 ⟨rfl, hb⟩
  have HS3 := Lib.hid (HSM.out.below hb)
  clear hb kK HSM HQ
  cases r with
  | false =>
    have HN := Lib.hid (HNO.out (by first | rfl | trivial))
    clear HNO HYES
    have kK := HS3.out.hk.c
    have kT := HS3.out.ht.c
    have fT := HS3.out.ht.f
    have lT := HS3.out.ht.lt
    go_wp2_with fail
    refine bodyPost_ret (v := .tuple #[.agg #[.slice p n c, .slice pp m cc, .int .i64 z, .int .i64 wo, .int .i64 sp, .slice q k d], .int .i64 1]) (by simp [results, Try.results62, go_sem, *]) rfl (HS3.out.out HSS.out 1 HN.out)
  | true =>
    have HN := Lib.hid (HYES.out (by first | rfl | trivial))
    have HCL := Lib.hid (slose1_any p n c ys pp m cc ⟨L, P, z⟩ a X w3 HS3.out.ho.ob.bn ((HS3.out.hb.cell (p := ⟨X, 0, none⟩) HXX.out.2).trans HXX.out.1) (Nat.lt_of_lt_of_le HXX.out.2 HS3.out.hb.size))
    obtain ⟨B2, hB2⟩ : ∃ y, y = loseB ⟨L, P, z⟩ a := ⟨_, rfl⟩
    obtain ⟨er, her⟩ : ∃ y, y = loseE ⟨L, P, z⟩ a := ⟨_, rfl⟩
    rw [← hB2, ← her] at HN HCL
    clear HNO HYES hB2 her
    have kK := HS3.out.hk.c
    go_wp2_with fail
    refine HCL.out.mono ?_
    rintro e w4 ⟨p2, c2, ys2, pp2, cc2, rfl, ho, hb⟩
    have HS4 := Lib.hid (HS3.out.below hb)
    have HGE : Hid (bo < w3.heap.size ∧ (∀ g, (Value.slice q k d).ownBlock = some g → g < w3.heap.size) ∧ w.heap.size + 2 ≤ w3.heap.size) := Lib.hid ⟨HS3.out.hk.lt, fun g e => (HS3.out.ho.lo.lt g e).2, by have h1 := HS3.out.hk.lt; have h2 := HS3.out.ge; omega⟩
    have HS5 := Lib.hid (HS4.out.banks (ho.mono HGE.out.2.2) (Ap.over ho HGE.out.1) (fun g e => Ap.over ho (HGE.out.2.1 g e)))
    clear ho hb kK HS3 HCL
    have kK := HS4.out.hk.c
    have fK := HS4.out.hk.f
    have lK := HS4.out.hk.lt
    go_upto_region 6 with fail
    obtain ⟨w5, hw5⟩ : ∃ y, y = ((w4.setCell ⟨bo, 0, none⟩ (.slice p2 n c2)).setCell ⟨bo, 1, none⟩ (.slice pp2 m cc2)).setCell ⟨bo, 2, none⟩ (.int .i64 B2.lost) := ⟨_, rfl⟩
    rw [← hw5] at HS5 ⊢
    clear hw5 kK fK lK HS4
    obtain ⟨L2, P2, z2⟩ := B2
    have kK := HS5.out.hk.c
    have kT := HS5.out.ht.c
    have fT := HS5.out.ht.f
    have lT := HS5.out.ht.lt
    go_wp2_with fail
    refine bodyPost_ret (v := .tuple #[.agg #[.slice p2 n c2, .slice pp2 m cc2, .int .i64 z2, .int .i64 wo, .int .i64 sp, .slice q k d], .int .i64 er]) (by simp [results, Try.results62, go_sem, *]) rfl (HS5.out.out HSS.out er HN.out)

set_option maxHeartbeats 4000000 in
theorem swithR_any {T : Nat → Prop} (S : Nat → Prop) (v : Value) (V : Vt) (w : World)  (h : Vo T w v V) (hS : ∀ R, S R → R < w.heap.size) :
    Calls Try.prog 62 #[v, .func (.func 65) #[] #[]] w fun e w' => OutV S w w' e (rebV V) (rebVE V) := by
  obtain ⟨⟨L, P, z⟩, wo, sp, l⟩ := V
  obtain ⟨p0, n, c0, xs0, pp0, m, cc0, q0, k, d0, rfl, hc, -⟩ := h
  dsimp only at hc ⊢
  have hm100 : m ≤ 100 := hc.bn.m100
  have hn100 : n ≤ 100 := hc.bn.n100
  have hk10 : k ≤ 10000 := hc.k10
  have HZN : Hid (L.length = n ∧ P.length = m ∧ l.length = k) := Lib.hid ⟨hc.bn.zn, hc.bn.zm, hc.ll⟩
  have HU32 : Hid (U32 l) := Lib.hid hc.u32
  have HSS := Lib.hid hS
  have HCP : Hid (∀ W, Below w.heap.size w W → Calls Try.prog 36 #[.agg #[.slice p0 n c0, .slice pp0 m cc0, .int .i64 z, .int .i64 wo, .int .i64 sp, .slice q0 k d0]] W fun e w' => ∃ p' c' ys pp' cc' q' d', e = .returned (.agg #[.slice p' n c', .slice pp' m cc', .int .i64 z, .int .i64 wo, .int .i64 sp, .slice q' k d']) ∧ OwnV W.heap.size w' p' n c' ys pp' m cc' q' k d' ⟨⟨L, P, z⟩, wo, sp, l⟩ ∧ Below W.heap.size W w') := Lib.hid (fun W hW => scopied_any p0 n c0 xs0 pp0 m cc0 q0 k d0 ⟨⟨L, P, z⟩, wo, sp, l⟩ W (hc.below hW))
  clear hS hc
  obtain ⟨w0, hw0⟩ : ∃ w0, w0 = (w.alloc (.cells #[.slice p0 n c0, .slice pp0 m cc0, .int .i64 z, .int .i64 wo, .int .i64 sp, .slice q0 k d0] 28)).alloc (.cells #[.slice none 0 0, .slice none 0 0, .int .i64 0, .int .i64 0, .int .i64 0, .slice none 0 0] 28) := ⟨_, rfl⟩
  have HB0 : Hid (Below w.heap.size w w0) := Lib.hid (by rw [hw0]; exact ((Below.refl _ _).alloc (Nat.le_refl _) _).alloc (by simp <;> omega) _)
  have HBK : Hid (Blk w0 w.heap.size #[.slice p0 n c0, .slice pp0 m cc0, .int .i64 z, .int .i64 wo, .int .i64 sp, .slice q0 k d0] ∧ Blk w0 (w.heap.size + 1) #[.slice none 0 0, .slice none 0 0, .int .i64 0, .int .i64 0, .int .i64 0, .slice none 0 0]) := Lib.hid (by
    have k0 := Blk.new w #[.slice p0 n c0, .slice pp0 m cc0, .int .i64 z, .int .i64 wo, .int .i64 sp, .slice q0 k d0] 28
    have k1 := Blk.new (w.alloc (.cells #[.slice p0 n c0, .slice pp0 m cc0, .int .i64 z, .int .i64 wo, .int .i64 sp, .slice q0 k d0] 28)) #[.slice none 0 0, .slice none 0 0, .int .i64 0, .int .i64 0, .int .i64 0, .slice none 0 0] 28
    simp only [World.size_alloc] at k1
    rw [hw0]
    exact ⟨(k0.alloc _), k1⟩)
  have HSZ : Hid (w0.heap.size = w.heap.size + 2) := Lib.hid (by rw [hw0]; simp only [World.size_alloc])
  have HW0 := Lib.hid hw0
  clear hw0
  have HNO : Hid (rightV ⟨⟨L, P, z⟩, wo, sp, l⟩ = false → rebV ⟨⟨L, P, z⟩, wo, sp, l⟩ = ⟨⟨L, P, z⟩, wo, sp, l⟩ ∧ rebVE ⟨⟨L, P, z⟩, wo, sp, l⟩ = 1) := Lib.hid (fun e => by unfold rebV rebVE; rw [e]; exact ⟨rfl, rfl⟩)
  have HYES : Hid (rightV ⟨⟨L, P, z⟩, wo, sp, l⟩ = true → rebV ⟨⟨L, P, z⟩, wo, sp, l⟩ = ⟨rebuildB ⟨L, P, z⟩, wo, sp, l⟩ ∧ rebVE ⟨⟨L, P, z⟩, wo, sp, l⟩ = rebuildE ⟨L, P, z⟩) := Lib.hid (fun e => by unfold rebV rebVE; rw [e]; exact ⟨rfl, rfl⟩)
  go_enter Try.func62, Try.ntmps62
  have kA := HBK.out.1.c
  go_upto_region 1 with fail
  rw [← HW0.out]
  clear HW0
  go_wp2_with fail
  refine (HCP.out w0 HB0.out).mono ?_
  rintro e w1 ⟨p, c, ys, pp, cc, q, d, rfl, ho, hb⟩
  have HB1 : Hid (Below w.heap.size w w1) := Lib.hid (HB0.out.trans (hb.mono HB0.out.size))
  have HSM : Hid (SV w (w1.alloc (.cells #[.slice p n c, .slice pp m cc, .int .i64 z, .int .i64 wo, .int .i64 sp, .slice q k d] 28)) (w.heap.size + 1) (w.heap.size + 2) w1.heap.size p n c ys pp m cc q k d ⟨⟨L, P, z⟩, wo, sp, l⟩) := Lib.hid (SV.make (b0 := w.heap.size + 2) (by rw [HSZ.out] at ho; exact ho) HB1.out (HBK.out.2.below hb) (by omega) (by rw [← HSZ.out]; exact hb.size))
  clear ho hb kA HCP HB0 HBK HB1
  go_upto_region 2 with fail
  obtain ⟨bo, hbo⟩ : ∃ b, b = w1.heap.size := ⟨_, rfl⟩
  obtain ⟨w2, hw2⟩ : ∃ W9, W9 = w1.alloc (.cells #[.slice p n c, .slice pp m cc, .int .i64 z, .int .i64 wo, .int .i64 sp, .slice q k d] 28) := ⟨_, rfl⟩
  rw [← hw2, ← hbo] at HSM
  rw [← hw2, ← hbo]
  clear hw2 hbo
  have HQ := Lib.hid (sright_any _ _ _ w2 HSM.out.vo)
  obtain ⟨r, hr⟩ : ∃ r, r = rightV ⟨⟨L, P, z⟩, wo, sp, l⟩ := ⟨_, rfl⟩
  rw [← hr] at HQ HNO HYES
  clear hr
  have kK := HSM.out.hk.c
  go_wp2_with fail
  refine HQ.out.mono ?_
  rintro e w3 ⟨rfl, hb⟩
  have HS3 := Lib.hid (HSM.out.below hb)
  clear hb kK HSM HQ
  cases r with
  | false =>
    have HN := Lib.hid (HNO.out (by first | rfl | trivial))
    clear HNO HYES
    have kK := HS3.out.hk.c
    have kT := HS3.out.ht.c
    have fT := HS3.out.ht.f
    have lT := HS3.out.ht.lt
    go_wp2_with fail
    refine bodyPost_ret (v := .tuple #[.agg #[.slice p n c, .slice pp m cc, .int .i64 z, .int .i64 wo, .int .i64 sp, .slice q k d], .int .i64 1]) (by simp [results, Try.results62, go_sem, *]) rfl (HS3.out.out HSS.out 1 HN.out)
  | true =>
    have HN := Lib.hid (HYES.out (by first | rfl | trivial))
    have HCL := Lib.hid (rebuild_any p n c ys pp m cc ⟨L, P, z⟩ w3 HS3.out.ho.ob.bn)
    obtain ⟨B2, hB2⟩ : ∃ y, y = rebuildB ⟨L, P, z⟩ := ⟨_, rfl⟩
    obtain ⟨er, her⟩ : ∃ y, y = rebuildE ⟨L, P, z⟩ := ⟨_, rfl⟩
    rw [← hB2, ← her] at HN HCL
    clear HNO HYES hB2 her
    have kK := HS3.out.hk.c
    go_wp2_with fail
    refine HCL.out.mono ?_
    rintro e w4 ⟨p2, c2, ys2, pp2, cc2, rfl, ho, hb⟩
    have HS4 := Lib.hid (HS3.out.below hb)
    have HGE : Hid (bo < w3.heap.size ∧ (∀ g, (Value.slice q k d).ownBlock = some g → g < w3.heap.size) ∧ w.heap.size + 2 ≤ w3.heap.size) := Lib.hid ⟨HS3.out.hk.lt, fun g e => (HS3.out.ho.lo.lt g e).2, by have h1 := HS3.out.hk.lt; have h2 := HS3.out.ge; omega⟩
    have HS5 := Lib.hid (HS4.out.banks (ho.mono HGE.out.2.2) (Ap.over ho HGE.out.1) (fun g e => Ap.over ho (HGE.out.2.1 g e)))
    clear ho hb kK HS3 HCL
    have kK := HS4.out.hk.c
    have fK := HS4.out.hk.f
    have lK := HS4.out.hk.lt
    go_upto_region 6 with fail
    obtain ⟨w5, hw5⟩ : ∃ y, y = ((w4.setCell ⟨bo, 0, none⟩ (.slice p2 n c2)).setCell ⟨bo, 1, none⟩ (.slice pp2 m cc2)).setCell ⟨bo, 2, none⟩ (.int .i64 B2.lost) := ⟨_, rfl⟩
    rw [← hw5] at HS5 ⊢
    clear hw5 kK fK lK HS4
    obtain ⟨L2, P2, z2⟩ := B2
    have kK := HS5.out.hk.c
    have kT := HS5.out.ht.c
    have fT := HS5.out.ht.f
    have lT := HS5.out.ht.lt
    go_wp2_with fail
    refine bodyPost_ret (v := .tuple #[.agg #[.slice p2 n c2, .slice pp2 m cc2, .int .i64 z2, .int .i64 wo, .int .i64 sp, .slice q k d], .int .i64 er]) (by simp [results, Try.results62, go_sem, *]) rfl (HS5.out.out HSS.out er HN.out)
end Go.Proofs.Ytflakmabciokbaa
/- A store with a bank lost, and rebuilt, by the program; no condition but that it reads. -/
namespace Go.Proofs.Ytflakmabciokbaa
set_option linter.unusedVariables false
open Go.ChangeShapes Go.WideShapes Go.ChangeAt Go.RowKit

set_option maxHeartbeats 4000000 in
theorem slose_any {T : Nat → Prop} (S : Nat → Prop) (v : Value) (V : Vt) (a : Int) (w : World) (h : Vo T w v V) (hS : ∀ R, S R → R < w.heap.size) :
    Calls Try.prog 25 #[v, .int .i64 a] w fun e w' => OutV S w w' e (loseV V a) (loseVE V a) := by
  have HSS := Lib.hid hS
  have HCL : Hid (∀ W, Below w.heap.size w W → ∀ X, W.cell? ⟨X, 0, none⟩ = some (.int .i64 a) → X < W.heap.size → Calls Try.prog 62 #[v, .func (.func 63) #[] #[.pointer (some ⟨X, 0, none⟩)]] W fun e w' => OutV (fun R => R < W.heap.size) W w' e (loseV V a) (loseVE V a)) := Lib.hid (fun W hW X h1 h2 => swithL_any _ v V W a X h1 h2 (h.below hW) (fun R hR => hR))
  obtain ⟨p0, n0, c0, xs0, pp0, m0, cc0, q0, k0, d0, rfl, hc, -⟩ := h
  obtain ⟨V2, hV2⟩ : ∃ y, y = loseV V a := ⟨_, rfl⟩
  obtain ⟨er, her⟩ : ∃ y, y = loseVE V a := ⟨_, rfl⟩
  rw [← hV2, ← her] at HCL
  rw [← hV2, ← her]
  obtain ⟨z, hz⟩ : ∃ y, y = V.B.lost := ⟨_, rfl⟩
  obtain ⟨wo, hwo⟩ : ∃ y, y = V.words := ⟨_, rfl⟩
  obtain ⟨sp, hsp⟩ : ∃ y, y = V.span := ⟨_, rfl⟩
  rw [← hz, ← hwo, ← hsp] at HCL
  rw [← hz, ← hwo, ← hsp]
  clear hS hc hV2 her hz hwo hsp
  obtain ⟨w0, hw0⟩ : ∃ w0, w0 = ((w.alloc (.cells #[.slice p0 n0 c0, .slice pp0 m0 cc0, .int .i64 z, .int .i64 wo, .int .i64 sp, .slice q0 k0 d0] 28)).alloc (.cells #[.int .i64 a] 3)).alloc (.cells #[.slice none 0 0, .slice none 0 0, .int .i64 0, .int .i64 0, .int .i64 0, .slice none 0 0] 28) := ⟨_, rfl⟩
  have HB0 : Hid (Below w.heap.size w w0) := Lib.hid (by rw [hw0]; exact (((Below.refl _ _).alloc (Nat.le_refl _) _).alloc (by simp <;> omega) _).alloc (by simp <;> omega) _)
  have HBK : Hid (Blk w0 w.heap.size #[.slice p0 n0 c0, .slice pp0 m0 cc0, .int .i64 z, .int .i64 wo, .int .i64 sp, .slice q0 k0 d0] ∧ Blk w0 (w.heap.size + 1) #[.int .i64 a] ∧ Blk w0 (w.heap.size + 2) #[.slice none 0 0, .slice none 0 0, .int .i64 0, .int .i64 0, .int .i64 0, .slice none 0 0]) := Lib.hid (by
    have j0 := Blk.new w #[.slice p0 n0 c0, .slice pp0 m0 cc0, .int .i64 z, .int .i64 wo, .int .i64 sp, .slice q0 k0 d0] 28
    have j1 := Blk.new (w.alloc (.cells #[.slice p0 n0 c0, .slice pp0 m0 cc0, .int .i64 z, .int .i64 wo, .int .i64 sp, .slice q0 k0 d0] 28)) #[.int .i64 a] 3
    have j2 := Blk.new ((w.alloc (.cells #[.slice p0 n0 c0, .slice pp0 m0 cc0, .int .i64 z, .int .i64 wo, .int .i64 sp, .slice q0 k0 d0] 28)).alloc (.cells #[.int .i64 a] 3)) #[.slice none 0 0, .slice none 0 0, .int .i64 0, .int .i64 0, .int .i64 0, .slice none 0 0] 28
    simp only [World.size_alloc] at j1 j2
    rw [hw0]
    exact ⟨((j0.alloc _).alloc _), (j1.alloc _), j2⟩)
  have HSZ : Hid (w0.heap.size = w.heap.size + 3) := Lib.hid (by rw [hw0]; simp only [World.size_alloc])
  have HW0 := Lib.hid hw0
  clear hw0
  go_enter Try.func25, Try.ntmps25
  have kA := HBK.out.1.c
  go_upto_region 1 with fail
  rw [← HW0.out]
  clear HW0
  go_wp2_with fail
  refine (HCL.out w0 HB0.out (w.heap.size + 1) (HBK.out.2.1.c 0) HBK.out.2.1.lt).mono ?_
  rintro e w1 ⟨vv, rfl, hvo, hb⟩
  obtain ⟨p, n, c, xs, pp, m, cc, q, k, d, rfl, hc, hoff⟩ := hvo
  have HB1 : Hid (Below w.heap.size w w1) := Lib.hid (HB0.out.trans (hb.mono HB0.out.size))
  have HVO : Hid (Vo (fun R => R < w0.heap.size) w1 (.agg #[.slice p n c, .slice pp m cc, .int .i64 V2.B.lost, .int .i64 V2.words, .int .i64 V2.span, .slice q k d]) V2) := Lib.hid ⟨p, n, c, xs, pp, m, cc, q, k, d, rfl, hc, hoff⟩
  have kT := (HBK.out.2.2.below hb).c
  have fT := (HBK.out.2.2.below hb).f
  have lT := (HBK.out.2.2.below hb).lt
  clear hb kA hc hoff
  go_wp2_with fail
  refine bodyPost_ret (v := .tuple #[.agg #[.slice p n c, .slice pp m cc, .int .i64 V2.B.lost, .int .i64 V2.words, .int .i64 V2.span, .slice q k d], .int .i64 er]) (by simp [results, Try.results25, go_sem, *]) rfl ⟨_, rfl, (HVO.out.set6 (R := w.heap.size + 2) (by rw [HSZ.out]; omega) _ _ _ _ _ _).weak (fun R' h' => by have h9 := HSS.out R' h'; rw [HSZ.out]; omega), set6_below HB1.out (by omega) _ _ _ _ _ _⟩

set_option maxHeartbeats 4000000 in
theorem sreb_any {T : Nat → Prop} (S : Nat → Prop) (v : Value) (V : Vt)  (w : World) (h : Vo T w v V) (hS : ∀ R, S R → R < w.heap.size) :
    Calls Try.prog 26 #[v] w fun e w' => OutV S w w' e (rebV V) (rebVE V) := by
  have HSS := Lib.hid hS
  have HCL : Hid (∀ W, Below w.heap.size w W → Calls Try.prog 62 #[v, .func (.func 65) #[] #[]] W fun e w' => OutV (fun R => R < W.heap.size) W w' e (rebV V) (rebVE V)) := Lib.hid (fun W hW => swithR_any _ v V W (h.below hW) (fun R hR => hR))
  obtain ⟨p0, n0, c0, xs0, pp0, m0, cc0, q0, k0, d0, rfl, hc, -⟩ := h
  obtain ⟨V2, hV2⟩ : ∃ y, y = rebV V := ⟨_, rfl⟩
  obtain ⟨er, her⟩ : ∃ y, y = rebVE V := ⟨_, rfl⟩
  rw [← hV2, ← her] at HCL
  rw [← hV2, ← her]
  obtain ⟨z, hz⟩ : ∃ y, y = V.B.lost := ⟨_, rfl⟩
  obtain ⟨wo, hwo⟩ : ∃ y, y = V.words := ⟨_, rfl⟩
  obtain ⟨sp, hsp⟩ : ∃ y, y = V.span := ⟨_, rfl⟩
  rw [← hz, ← hwo, ← hsp] at HCL
  rw [← hz, ← hwo, ← hsp]
  clear hS hc hV2 her hz hwo hsp
  obtain ⟨w0, hw0⟩ : ∃ w0, w0 = (w.alloc (.cells #[.slice p0 n0 c0, .slice pp0 m0 cc0, .int .i64 z, .int .i64 wo, .int .i64 sp, .slice q0 k0 d0] 28)).alloc (.cells #[.slice none 0 0, .slice none 0 0, .int .i64 0, .int .i64 0, .int .i64 0, .slice none 0 0] 28) := ⟨_, rfl⟩
  have HB0 : Hid (Below w.heap.size w w0) := Lib.hid (by rw [hw0]; exact ((Below.refl _ _).alloc (Nat.le_refl _) _).alloc (by simp <;> omega) _)
  have HBK : Hid (Blk w0 w.heap.size #[.slice p0 n0 c0, .slice pp0 m0 cc0, .int .i64 z, .int .i64 wo, .int .i64 sp, .slice q0 k0 d0] ∧ Blk w0 (w.heap.size + 1) #[.slice none 0 0, .slice none 0 0, .int .i64 0, .int .i64 0, .int .i64 0, .slice none 0 0]) := Lib.hid (by
    have j0 := Blk.new w #[.slice p0 n0 c0, .slice pp0 m0 cc0, .int .i64 z, .int .i64 wo, .int .i64 sp, .slice q0 k0 d0] 28
    have j2 := Blk.new (w.alloc (.cells #[.slice p0 n0 c0, .slice pp0 m0 cc0, .int .i64 z, .int .i64 wo, .int .i64 sp, .slice q0 k0 d0] 28)) #[.slice none 0 0, .slice none 0 0, .int .i64 0, .int .i64 0, .int .i64 0, .slice none 0 0] 28
    simp only [World.size_alloc] at j2
    rw [hw0]
    exact ⟨(j0.alloc _), j2⟩)
  have HSZ : Hid (w0.heap.size = w.heap.size + 2) := Lib.hid (by rw [hw0]; simp only [World.size_alloc])
  have HW0 := Lib.hid hw0
  clear hw0
  go_enter Try.func26, Try.ntmps26
  have kA := HBK.out.1.c
  go_upto_region 1 with fail
  rw [← HW0.out]
  clear HW0
  go_wp2_with fail
  refine (HCL.out w0 HB0.out).mono ?_
  rintro e w1 ⟨vv, rfl, hvo, hb⟩
  obtain ⟨p, n, c, xs, pp, m, cc, q, k, d, rfl, hc, hoff⟩ := hvo
  have HB1 : Hid (Below w.heap.size w w1) := Lib.hid (HB0.out.trans (hb.mono HB0.out.size))
  have HVO : Hid (Vo (fun R => R < w0.heap.size) w1 (.agg #[.slice p n c, .slice pp m cc, .int .i64 V2.B.lost, .int .i64 V2.words, .int .i64 V2.span, .slice q k d]) V2) := Lib.hid ⟨p, n, c, xs, pp, m, cc, q, k, d, rfl, hc, hoff⟩
  have kT := (HBK.out.2.below hb).c
  have fT := (HBK.out.2.below hb).f
  have lT := (HBK.out.2.below hb).lt
  clear hb kA hc hoff
  go_wp2_with fail
  refine bodyPost_ret (v := .tuple #[.agg #[.slice p n c, .slice pp m cc, .int .i64 V2.B.lost, .int .i64 V2.words, .int .i64 V2.span, .slice q k d], .int .i64 er]) (by simp [results, Try.results26, go_sem, *]) rfl ⟨_, rfl, (HVO.out.set6 (R := w.heap.size + 1) (by rw [HSZ.out]; omega) _ _ _ _ _ _).weak (fun R' h' => by have h9 := HSS.out R' h'; rw [HSZ.out]; omega), set6_below HB1.out (by omega) _ _ _ _ _ _⟩
end Go.Proofs.Ytflakmabciokbaa
/- A store gone back to an interval, by the program; no condition but that it reads. -/
namespace Go.Proofs.Ytflakmabciokbaa
set_option linter.unusedVariables false
open Go.ChangeShapes Go.WideShapes Go.ChangeAt Go.RowKit Go.Maps
attribute [local go_sem] Oper.semAt_some

def stepK (l : List Ud.Un) {R : Nat} (B : Bk) (j : Fin R) : Bk := putA B (l.getD (l.length - 1 - j.val) Ud.zU).at_ (l.getD (l.length - 1 - j.val) Ud.zU).val
def bkB (l : List Ud.Un) {R : Nat} (pre : List (Fin R)) (B : Bk) : Bk := pre.foldl (stepK l) B
theorem bkB_snoc (l : List Ud.Un) {R : Nat} (pre : List (Fin R)) (x : Fin R) (B : Bk) : bkB l (pre ++ [x]) B = putA (bkB l pre B) (l.getD (l.length - 1 - x.val) Ud.zU).at_ (l.getD (l.length - 1 - x.val) Ud.zU).val := by
  unfold bkB; rw [List.foldl_append]; rfl
theorem bkB_all (l : List Ud.Un) {s : Int} (hs : l.Pairwise fun x y => x.span ≤ y.span) {R : Nat} (hR : Ud.cutU l s + R = l.length) (B : Bk) : bkB l (List.finRange R) B = undoB (Ud.fromL l s) B := by
  rw [(Ud.cut_split hs s).2]
  have e : (List.finRange R).map (fun j => l.getD (l.length - 1 - j.val) Ud.zU) = (l.drop (Ud.cutU l s)).reverse := by
    apply List.ext_getElem
    · simp; omega
    · intro i h1 h2
      simp at h1 h2
      rw [List.getElem_map, List.getElem_reverse, List.getElem_finRange, List.getElem_drop, Ud.get_getD l Ud.zU]
      congr 1
      simp
      omega
  have e2 : bkB l (List.finRange R) B = ((List.finRange R).map (fun j => l.getD (l.length - 1 - j.val) Ud.zU)).foldl (fun B u => putA B u.at_ u.val) B := by
    unfold bkB
    rw [List.foldl_map]
    rfl
  rw [e2, e, List.foldl_reverse]
  rfl
theorem sd_bkB {l : List Ud.Un} {n b m : Nat} (hl : ∀ u ∈ l, (0 ≤ u.at_ ∧ u.at_ < (n : Int)) ∧ 0 ≤ u.val) {R : Nat} (hR : R ≤ l.length) (pre : List (Fin R)) {B : Bk} (h : Sd B n b m) : Sd (bkB l pre B) n b m := by
  unfold bkB
  induction pre generalizing B with
  | nil => exact h
  | cons x pre ih =>
    rw [List.foldl_cons]
    refine ih ?_
    have hx := x.isLt
    obtain ⟨⟨h1, h2⟩, h3⟩ := hl (l.getD (l.length - 1 - x.val) Ud.zU) (Ud.mem_getD _ _ _ (by omega))
    unfold stepK
    have ea : (l.getD (l.length - 1 - x.val) Ud.zU).at_ = (((l.getD (l.length - 1 - x.val) Ud.zU).at_.toNat : Nat) : Int) := by omega
    rw [ea]
    exact (h.put (by omega) h3).1
theorem ap_cells {base : Nat} {W : World} {p : Option Addr} {n c : Nat} {ys : List Value} {pp : Option Addr} {m cc : Nat} {B : Bk} (h : OwnB base W p n c ys pp m cc B) {r : Nat} {o : Obj} (ho : W.heap[r]? = some o) (hc : o.isCells = false) : Ap r p n c ys pp m cc := by
  have key : ∀ {e : TypeId} {z k : Nat} {v : Value} {xs : List Value}, W.ownsRow base e z v k xs → ∀ g, v.ownBlock = some g → g ≠ r := fun {e z k v xs} hr g hv e2 => by
    obtain ⟨o', h1, h2⟩ := Ud.own_cells hr hv
    rw [e2, ho] at h1
    injection h1 with h1
    rw [← h1, hc] at h2
    cases h2
  exact ⟨key h.own.row, fun j hj => key (h.own.fr j (by rw [h.zn]; exact hj)), key h.par⟩
theorem ownV_grownNC {b0 : Nat} {W W' : World} {p : Option Addr} {n c : Nat} {ys : List Value} {pp : Option Addr} {m cc : Nat} {q : Option Addr} {k d : Nat} {V : Vt} (h : OwnV b0 W p n c ys pp m cc q k d V) {row : Option Nat} (hg : W.grownBy W' row) (hr : ∀ r, row = some r → ∃ o : Obj, W.heap[r]? = some o ∧ o.isCells = false) : OwnV b0 W' p n c ys pp m cc q k d V := by
  refine ⟨?_, ?_, h.k10, h.u32, h.ap⟩
  · cases row with
    | none => exact ownB_grown0 h.ob hg
    | some r =>
      obtain ⟨o, h1, h2⟩ := hr r rfl
      exact ownB_grownAp h.ob (ap_cells h.ob h1 h2) hg
  · refine h.lo.kept hg ?_
    cases hv : (Value.slice q k d).ownBlock with
    | none => exact .inl rfl
    | some g =>
      refine .inr (fun e => ?_)
      obtain ⟨o, h1, h2⟩ := hr g e.symm
      obtain ⟨o', h3, h4⟩ := Ud.own_cells h.lo hv
      rw [h1] at h3; injection h3 with h3; subst h3; rw [h2] at h4; cases h4
variable {w W : World} {R b0 bo : Nat} {p : Option Addr} {n c : Nat} {ys : List Value} {pp : Option Addr} {m cc : Nat} {q : Option Addr} {k d : Nat} {V : Vt}
theorem SV.grownNC {W' : World} (h : SV w W R b0 bo p n c ys pp m cc q k d V) {row : Option Nat} (hg : W.grownBy W' row) (hr : ∀ r, row = some r → w.heap.size ≤ r ∧ ∃ o : Obj, W.heap[r]? = some o ∧ o.isCells = false) : SV w W' R b0 bo p n c ys pp m cc q k d V := by
  have hne : ∀ g o, W.heap[g]? = some o → o.isCells = true → row ≠ some g := fun g o h1 h2 e => by
    obtain ⟨_, o', h3, h4⟩ := hr g e
    rw [h1] at h3; injection h3 with h3; subst h3; rw [h2] at h4; cases h4
  obtain ⟨o1, a1, b1⟩ := Ud.blk_cells h.ht (by simp)
  obtain ⟨o2, a2, b2⟩ := Ud.blk_cells h.hk (by simp)
  exact ⟨h.ht.grown hg (hne _ _ a1 b1), h.hk.grown hg (hne _ _ a2 b2), ownV_grownNC h.ho hg (fun r e => (hr r e).2), h.hb.grown hg h.hb.size (fun g e => (hr g e).1), h.hR, h.ge, h.nb, h.nq⟩
theorem dk_set6 {W : World} {D B : Nat} {a0 a1 a2 a3 a4 a5 : Value} (hK : W.heap[D]? = some (.deferred (some []))) (hB : Blk W B #[a0, a1, a2, a3, a4, a5]) (u0 u1 u2 u3 u4 u5 : Value) : (set6 W B u0 u1 u2 u3 u4 u5).heap[D]? = some (.deferred (some [])) := by
  have k1 := hB.set (n := 0) u0 (by simp)
  have k2 := k1.set (n := 1) u1 (by simp)
  have k3 := k2.set (n := 2) u2 (by simp)
  have k4 := k3.set (n := 3) u3 (by simp)
  have k5 := k4.set (n := 4) u4 (by simp)
  exact Ud.dk_set (Ud.dk_set (Ud.dk_set (Ud.dk_set (Ud.dk_set (Ud.dk_set hK hB (by simp)) k1 (by simp)) k2 (by simp)) k3 (by simp)) k4 (by simp)) k5 (by simp)
theorem SV.outM {S : Nat → Prop} (h : SV w W R b0 bo p n c ys pp m cc q k d V) (hS : ∀ R', S R' → R' < w.heap.size) (X : Int) {V' : Vt} {E : Int} (hV : V' = V ∧ E = X) {D : Nat} (hD : w.heap.size ≤ D) (hK : W.heap[D]? = some (.deferred (some []))) (Y : World)
    (hY : Y = (set6 W R (.slice p n c) (.slice pp m cc) (.int .i64 V.B.lost) (.int .i64 V.words) (.int .i64 V.span) (.slice q k d)).putObj D (.deferred none)) :
    OutV S w Y (.returned (.tuple #[.agg #[.slice p n c, .slice pp m cc, .int .i64 V.B.lost, .int .i64 V.words, .int .i64 V.span, .slice q k d], .int .i64 X])) V' E ∧ Blk Y R #[.slice p n c, .slice pp m cc, .int .i64 V.B.lost, .int .i64 V.words, .int .i64 V.span, .slice q k d] := by
  obtain ⟨rfl, rfl⟩ := hV
  have hR := h.hR
  have hKZ := dk_set6 hK h.ht (.slice p n c) (.slice pp m cc) (.int .i64 V'.B.lost) (.int .i64 V'.words) (.int .i64 V'.span) (.slice q k d)
  have ho := h.ho.set6 (R := R) hR.2 (.slice p n c) (.slice pp m cc) (.int .i64 V'.B.lost) (.int .i64 V'.words) (.int .i64 V'.span) (.slice q k d)
  have hb := set6_below h.hb hR.1 (.slice p n c) (.slice pp m cc) (.int .i64 V'.B.lost) (.int .i64 V'.words) (.int .i64 V'.span) (.slice q k d)
  have ht := set6_same h.ht (.slice p n c) (.slice pp m cc) (.int .i64 V'.B.lost) (.int .i64 V'.words) (.int .i64 V'.span) (.slice q k d)
  obtain ⟨Z, hZ⟩ : ∃ Z, Z = set6 W R (.slice p n c) (.slice pp m cc) (.int .i64 V'.B.lost) (.int .i64 V'.words) (.int .i64 V'.span) (.slice q k d) := ⟨_, rfl⟩
  rw [← hZ] at hKZ ho hb ht hY
  have hg : Z.grownBy Y (some D) := by rw [hY]; exact grownBy_putObj' Z D _
  obtain ⟨o1, a1, b1⟩ := Ud.blk_cells ht (by simp)
  have hne : some D ≠ some R := fun e => by
    injection e with e
    rw [← e, hKZ] at a1
    injection a1 with a1
    subst a1
    cases b1
  refine ⟨⟨_, rfl, (ownV_grownNC ho hg (fun r e => by injection e with e; subst e; exact ⟨_, hKZ, rfl⟩)).vo (fun R' h' => by have := hS R' h'; omega), hb.grown hg hb.size (fun g e => by injection e with e; omega)⟩, ht.grown hg hne⟩

set_option maxHeartbeats 8000000 in
set_option maxRecDepth 100000 in
theorem sback_any {T : Nat → Prop} (S : Nat → Prop) (v : Value) (V : Vt) (t : Int) (w : World) (h : Vo T w v V) (hS : ∀ R, S R → R < w.heap.size) :
    Calls Try.prog 11 #[v, .int .i64 t] w fun e w' => OutV S w w' e (backV V t) (backVE V t) := by
  obtain ⟨⟨L, P, z⟩, wo, sp, l⟩ := V
  obtain ⟨p0, n, c0, xs0, pp0, m, cc0, q0, k, d0, rfl, hc, -⟩ := h
  dsimp only at hc ⊢
  have hm100 : m ≤ 100 := hc.bn.m100
  have hn100 : n ≤ 100 := hc.bn.n100
  have hk10 : k ≤ 10000 := hc.k10
  have HZN : Hid (L.length = n ∧ P.length = m ∧ l.length = k) := Lib.hid ⟨hc.bn.zn, hc.bn.zm, hc.ll⟩
  have HU32 : Hid (U32 l) := Lib.hid hc.u32
  have HSS := Lib.hid hS
  have HCP : Hid (∀ W, Below w.heap.size w W → Calls Try.prog 36 #[.agg #[.slice p0 n c0, .slice pp0 m cc0, .int .i64 z, .int .i64 wo, .int .i64 sp, .slice q0 k d0]] W fun e w' => ∃ p' c' ys pp' cc' q' d', e = .returned (.agg #[.slice p' n c', .slice pp' m cc', .int .i64 z, .int .i64 wo, .int .i64 sp, .slice q' k d']) ∧ OwnV W.heap.size w' p' n c' ys pp' m cc' q' k d' ⟨⟨L, P, z⟩, wo, sp, l⟩ ∧ Below W.heap.size W w') := Lib.hid (fun W hW => scopied_any p0 n c0 xs0 pp0 m cc0 q0 k d0 ⟨⟨L, P, z⟩, wo, sp, l⟩ W (hc.below hW))
  clear hS hc
  obtain ⟨w0, hw0⟩ : ∃ w0, w0 = ((w.alloc (.cells #[.slice p0 n c0, .slice pp0 m cc0, .int .i64 z, .int .i64 wo, .int .i64 sp, .slice q0 k d0] 28)).alloc (.cells #[.int .i64 t] 3)).alloc (.cells #[.slice none 0 0, .slice none 0 0, .int .i64 0, .int .i64 0, .int .i64 0, .slice none 0 0] 28) := ⟨_, rfl⟩
  have HB0 : Hid (Below w.heap.size w w0) := Lib.hid (by rw [hw0]; exact (((Below.refl _ _).alloc (Nat.le_refl _) _).alloc (by simp <;> omega) _).alloc (by simp <;> omega) _)
  have HBK : Hid (Blk w0 w.heap.size #[.slice p0 n c0, .slice pp0 m cc0, .int .i64 z, .int .i64 wo, .int .i64 sp, .slice q0 k d0] ∧ Blk w0 (w.heap.size + 1) #[.int .i64 t] ∧ Blk w0 (w.heap.size + 2) #[.slice none 0 0, .slice none 0 0, .int .i64 0, .int .i64 0, .int .i64 0, .slice none 0 0]) := Lib.hid (by
    have k0 := Blk.new w #[.slice p0 n c0, .slice pp0 m cc0, .int .i64 z, .int .i64 wo, .int .i64 sp, .slice q0 k d0] 28
    have k1 := Blk.new (w.alloc (.cells #[.slice p0 n c0, .slice pp0 m cc0, .int .i64 z, .int .i64 wo, .int .i64 sp, .slice q0 k d0] 28)) #[.int .i64 t] 3
    have k2 := Blk.new ((w.alloc (.cells #[.slice p0 n c0, .slice pp0 m cc0, .int .i64 z, .int .i64 wo, .int .i64 sp, .slice q0 k d0] 28)).alloc (.cells #[.int .i64 t] 3)) #[.slice none 0 0, .slice none 0 0, .int .i64 0, .int .i64 0, .int .i64 0, .slice none 0 0] 28
    simp only [World.size_alloc] at k1 k2
    rw [hw0]
    exact ⟨((k0.alloc _).alloc _), (k1.alloc _), k2⟩)
  have HSZ : Hid (w0.heap.size = w.heap.size + 3) := Lib.hid (by rw [hw0]; simp only [World.size_alloc])
  have HW0 := Lib.hid hw0
  clear hw0
  have HNO : Hid (okS ⟨⟨L, P, z⟩, wo, sp, l⟩ t = false → backV ⟨⟨L, P, z⟩, wo, sp, l⟩ t = ⟨⟨L, P, z⟩, wo, sp, l⟩ ∧ backVE ⟨⟨L, P, z⟩, wo, sp, l⟩ t = 1) := Lib.hid (fun e => by unfold backV backVE; rw [e]; exact ⟨rfl, rfl⟩)
  have HNL : Hid (okS ⟨⟨L, P, z⟩, wo, sp, l⟩ t = true → z ≠ 0 → backV ⟨⟨L, P, z⟩, wo, sp, l⟩ t = ⟨⟨L, P, z⟩, wo, sp, l⟩ ∧ backVE ⟨⟨L, P, z⟩, wo, sp, l⟩ t = 8) := Lib.hid (fun e h0 => by
    unfold backV backVE
    rw [e]
    show (if (true && decide (z = 0)) then _ else _) = _ ∧ (if true then (if z = 0 then _ else _) else _) = _
    rw [decide_eq_false h0, if_neg h0]
    exact ⟨rfl, rfl⟩)
  have HYES : Hid (okS ⟨⟨L, P, z⟩, wo, sp, l⟩ t = true → z = 0 → backV ⟨⟨L, P, z⟩, wo, sp, l⟩ t = ⟨undoB (Ud.fromL l t) ⟨L, P, z⟩, wo, t, keepF (gePr t) l⟩ ∧ backVE ⟨⟨L, P, z⟩, wo, sp, l⟩ t = 0) := Lib.hid (fun e h0 => by
    unfold backV backVE
    rw [e, keep_ge]
    show (if (true && decide (z = 0)) then _ else _) = _ ∧ (if true then (if z = 0 then _ else _) else _) = _
    rw [decide_eq_true h0, if_pos h0]
    exact ⟨rfl, rfl⟩)
  have HOK : Hid (okS ⟨⟨L, P, z⟩, wo, sp, l⟩ t = true → ∃ n0 : Nat, n0 ≤ 64 ∧ Rv ⟨⟨L, P, z⟩, wo, sp, l⟩ n0 n m) := Lib.hid (fun e => by
    unfold okS at e
    rw [Bool.and_eq_true, decide_eq_true_eq] at e
    obtain ⟨n0, hv⟩ := rv_of e.1
    have hn1 := hv.n1
    have hz : (⟨L, P, z⟩ : Bk).rows.length = n := HZN.out.1
    have hp : (⟨L, P, z⟩ : Bk).par.length = m := HZN.out.2.1
    rw [show (⟨⟨L, P, z⟩, wo, sp, l⟩ : Vt).B = ⟨L, P, z⟩ from rfl, hz, hp] at hv
    exact ⟨n0, hn1.2, hv⟩)
  refine (callsIn_wide (n := 5)).1 ?_
  refine callsIn_of_wp_marks Try.func11 rfl trivial ?_ rfl
  simp only [Try.ntmps11, List.size_toArray, List.length_cons, List.length_nil, Nat.reduceAdd, Nat.reduceSub, Array.replicate_succ, Array.replicate_zero, List.push_toArray, List.append_toArray, List.nil_append, List.cons_append]
  refine wpIn_wide.2 ?_
  have kA := HBK.out.1.c
  go_upto_region 1 with fail
  rw [← HW0.out]
  clear HW0
  go_wp2_with fail
  refine (HCP.out w0 HB0.out).mono ?_
  rintro e w1 ⟨p, c, ys, pp, cc, q, d, rfl, ho, hb⟩
  have HB1 : Hid (Below w.heap.size w w1) := Lib.hid (HB0.out.trans (hb.mono HB0.out.size))
  have HSM : Hid (SV w (w1.alloc (.cells #[.slice p n c, .slice pp m cc, .int .i64 z, .int .i64 wo, .int .i64 sp, .slice q k d] 28)) (w.heap.size + 2) (w.heap.size + 3) w1.heap.size p n c ys pp m cc q k d ⟨⟨L, P, z⟩, wo, sp, l⟩) := Lib.hid (SV.make (b0 := w.heap.size + 3) (by rw [HSZ.out] at ho; exact ho) HB1.out (HBK.out.2.2.below hb) (by omega) (by rw [← HSZ.out]; exact hb.size))
  have HX1 := Lib.hid ((HBK.out.2.1.below hb).alloc (.cells #[.slice p n c, .slice pp m cc, .int .i64 z, .int .i64 wo, .int .i64 sp, .slice q k d] 28))
  clear ho hb kA HCP HB0 HBK HB1
  go_upto_region 2 with fail
  obtain ⟨bo, hbo⟩ : ∃ b, b = w1.heap.size := ⟨_, rfl⟩
  obtain ⟨w2, hw2⟩ : ∃ W9, W9 = w1.alloc (.cells #[.slice p n c, .slice pp m cc, .int .i64 z, .int .i64 wo, .int .i64 sp, .slice q k d] 28) := ⟨_, rfl⟩
  rw [← hw2, ← hbo] at HSM
  rw [← hw2, ← hbo]
  rw [← hw2] at HX1
  clear hw2 hbo
  have HQ := Lib.hid (shad_any _ _ _ t w2 HSM.out.vo)
  obtain ⟨r, hr⟩ : ∃ r, r = okS ⟨⟨L, P, z⟩, wo, sp, l⟩ t := ⟨_, rfl⟩
  rw [← hr] at HQ HNO HNL HYES HOK
  clear hr
  have kK := HSM.out.hk.c
  have kX := HX1.out.c
  go_wp2_with fail
  refine HQ.out.mono ?_
  rintro e w3 ⟨rfl, hb⟩
  have HS3 := Lib.hid (HSM.out.below hb)
  have HX3 := Lib.hid (HX1.out.below hb)
  clear hb kK kX HSM HQ HX1
  cases r with
  | false =>
    have HN := Lib.hid (HNO.out (by first | rfl | trivial))
    clear HNO HNL HYES HOK
    have kK := HS3.out.hk.c
    have kT := HS3.out.ht.c
    have fT := HS3.out.ht.f
    have lT := HS3.out.ht.lt
    go_wp2_with fail
    exact Ud.retM_nil (v := .tuple #[.agg #[.slice p n c, .slice pp m cc, .int .i64 z, .int .i64 wo, .int .i64 sp, .slice q k d], .int .i64 1]) (by simp [results, Try.results11, go_sem, *]) rfl (HS3.out.out HSS.out 1 HN.out)
  | true =>
    by_cases hz0 : z = 0
    · have HZ0 := Lib.hid hz0
      have hzI : (z != 0) = false := by rw [hz0]; rfl
      have hzJ : ¬ z ≠ 0 := fun h => h hz0
      obtain ⟨n0, hn0, hrv⟩ := HOK.out (by first | rfl | trivial)
      have HRV := Lib.hid hrv
      have hn1 : 1 ≤ n := hrv.bm.1
      have hm1 : 1 ≤ m := hrv.bm.2.2.1
      have HN0 := Lib.hid (HYES.out (by first | rfl | trivial) hz0)
      have HSORT : Hid (l.Pairwise fun x y => x.span ≤ y.span) := Lib.hid hrv.rt.sort
      have HFIT : Hid (∀ u ∈ l, (0 ≤ u.at_ ∧ u.at_ < (n0 : Int)) ∧ 0 ≤ u.val ∧ u.val < 4294967296) := Lib.hid (fun u hu => by
        have h1 := hrv.rt.fit u hu
        rw [hrv.ml] at h1
        exact ⟨h1.2, HU32.out u hu⟩)
      have HCLE := Lib.hid (Ud.cut_le l t)
      obtain ⟨Rr, hRr⟩ : ∃ R, Ud.cutU l t + R = l.length := ⟨l.length - Ud.cutU l t, by have := HCLE.out; omega⟩
      have HRR := Lib.hid hRr
      have hRk : Rr ≤ k := by have := HZN.out.2.2; omega
      clear HNO HNL HYES HOK hrv hRr hz0
      have kK := HS3.out.hk.c
      have kX := HX3.out.c
      go_wp2_with fail
      refine (since_any q k d t w3).mono ?_
      rintro e w5 ⟨rfl, hw5⟩
      obtain ⟨Bs, hBs⟩ : ∃ b, b = w3.heap.size := ⟨_, rfl⟩
      rw [← hBs]
      have HB5 : Hid (Below w3.heap.size w3 w5) := Lib.hid (by rw [hw5]; exact ((Below.refl _ _).alloc (Nat.le_refl _) _).alloc (by simp) _)
      have HK5 : Hid (Blk w5 Bs #[.slice q k d] ∧ Blk w5 (Bs + 1) #[.int .i64 t]) := Lib.hid (by
        have k1 := Blk.new w3 #[.slice q k d] 26
        have k2 := Blk.new (w3.alloc (.cells #[.slice q k d] 26)) #[.int .i64 t] 3
        simp only [World.size_alloc] at k2
        rw [hw5, hBs]; exact ⟨k1.alloc _, k2⟩)
      have HBS : Hid (Bs = w3.heap.size ∧ w5.heap.size = Bs + 2) := Lib.hid (by rw [hw5, hBs]; exact ⟨rfl, by simp⟩)
      have HS5 := Lib.hid (HS3.out.below HB5.out)
      have HX5 := Lib.hid (HX3.out.below HB5.out)
      clear hw5 hBs kK kX HX3
      go_wp2_with fail
      have HBSL : Hid (Bs < w5.heap.size ∧ Bs + 1 < w5.heap.size) := Lib.hid (by have := HBS.out.2; omega)
      have HBON : Hid (bo ≠ Bs ∧ bo ≠ Bs + 1 ∧ bo < w5.heap.size) := Lib.hid (by have h1 := HS3.out.hk.lt; have h2 := HBS.out; omega)
      have HQB : Hid (∀ X, q = some X → 0 < k → X.block < w5.heap.size ∧ X.block ≠ bo) := Lib.hid (fun X e h0 => by
        have e2 : (Value.slice q k d).ownBlock = some X.block := by rw [e]; rfl
        exact ⟨(HS5.out.ho.lo.lt _ e2).2, HS5.out.nq _ e2⟩)
      have HWB : Hid (w.heap.size + 3 ≤ w5.heap.size) := Lib.hid (by have h1 := HS5.out.hk.lt; have h2 := HS5.out.ge; omega)
      have HSL : Hid (Sl w5 q k (Ud.unC l)) := Lib.hid HS5.out.ho.vc.ls
      clear HB5 HBS HS3
      refine (wpIn_wide (n := 5)).1 ?_
      refine wpIn_rangeFunc_ownH rfl (by decide) (gf := 85) (lb := #[.pointer (some ⟨Bs, 0, none⟩), .pointer (some ⟨Bs + 1, 0, none⟩)]) rfl trivial (enters_of Try.func85 (by kernel_rfl) rfl)
        (since_stops 4 (by decide) Bs (Bs + 1) q d t l HSORT.out (by rw [HZN.out.2.2]; exact hk10) Rr HRR.out w5 HBSL.out.1 HBSL.out.2 (by rw [HZN.out.2.2]; exact HK5.out.1.c 0) (HK5.out.2.c 0) (by rw [HZN.out.2.2]; exact HSL.out)) KpS.trans ?hKb (Below.refl _ _) (fun _ => rfl)
        (fun pre W => (∃ p' c' ys' pp' cc', SV w W (w.heap.size + 2) (w.heap.size + 3) bo p' n c' ys' pp' m cc' q k d ⟨bkB l pre ⟨L, P, z⟩, wo, sp, l⟩) ∧ w5.heap.size ≤ W.heap.size ∧ Blk W (w.heap.size + 1) #[.int .i64 t]) (fun _ _ _ => False)
        ?hI (fun _ _ _ _ _ hs _ _ => hs) ⟨⟨_, _, _, _, _, HS5.out⟩, Nat.le_refl _, HX5.out⟩
        (fun x a' W => ∃ Bx, w5.heap.size ≤ Bx ∧ Blk W Bx (Ud.unR (l.getD (l.length - 1 - x.val) Ud.zU)) ∧ a' = { tmps := #[Value.agg #[Value.slice p0 n c0, Value.slice pp0 m cc0, Value.int IntKind.i64 z, Value.int IntKind.i64 wo, Value.int IntKind.i64 sp, Value.slice q0 k d0], Value.int IntKind.i64 t, Value.pointer (some { block := w.heap.size, off := 0 }), Value.pointer (some { block := w.heap.size + 1, off := 0 }), Value.pointer (some { block := w.heap.size + 2, off := 0 }), Value.int IntKind.i64 0, Value.pointer (some { block := bo, off := 0 }), Value.pointer (some { block := Bx, off := 0 }), Value.agg #[Value.slice p0 n c0, Value.slice pp0 m cc0, Value.int IntKind.i64 z, Value.int IntKind.i64 wo, Value.int IntKind.i64 sp, Value.slice q0 k d0], Value.agg #[Value.slice p n c, Value.slice pp m cc, Value.int IntKind.i64 z, Value.int IntKind.i64 wo, Value.int IntKind.i64 sp, Value.slice q k d], Value.bool false, Value.agg #[Value.slice p n c, Value.slice pp m cc, Value.int IntKind.i64 z, Value.int IntKind.i64 wo, Value.int IntKind.i64 sp, Value.slice q k d], Value.int IntKind.i64 t, Value.bool true, Value.bool false, undef, Value.bool false, Value.pointer (some { block := bo, off := 0 }), Value.pointer (some { block := bo, off := 2 }), Value.int IntKind.i64 z, Value.bool false, undef, Value.pointer (some { block := bo, off := 5 }), Value.slice q k d, Value.int IntKind.i64 t, Value.func (Fn.func 85) #[] #[Value.pointer (some { block := Bs, off := 0 }), Value.pointer (some { block := Bs + 1, off := 0 })], Value.agg (Ud.unR (l.getD (l.length - 1 - x.val) Ud.zU)), undef, undef, undef, undef, undef, undef, undef, undef, undef, undef, undef, undef, undef, undef, undef, undef, undef, undef, undef], defers := [] }) ?hAx ?assign ?body ?done ?stop
      case hKb =>
        intro W y o o' hy _ _ _
        exact ⟨by simp, World.putObj_heap_other (by have := HBSL.out; omega), World.putObj_heap_other (by have := HBSL.out; omega), fun h0 X e => World.putObj_heap_other (by have := (HQB.out X e (by rw [← HZN.out.2.2]; exact h0)).1; omega)⟩
      case hI =>
        intro pre W W' row h hg hr
        obtain ⟨⟨p', c', ys', pp', cc', h1⟩, h2, h5⟩ := h
        obtain ⟨ox, x1, x2⟩ := Ud.blk_cells h5 (by simp)
        exact ⟨⟨p', c', ys', pp', cc', h1.grownNC hg (fun r e => ⟨by have h3 := (hr r e).1; have h4 := HWB.out; omega, (hr r e).2⟩)⟩, Nat.le_trans h2 hg.size, h5.grown hg (fun e => by
          obtain ⟨_, o', h6, h7⟩ := hr _ e
          rw [x1] at h6; injection h6 with h6; subst h6; rw [x2] at h7; cases h7)⟩
      case hAx =>
        intro x a' _ W W' row h hg hr
        obtain ⟨Bx, hBx, hk, he⟩ := h
        obtain ⟨o, h1, h2⟩ := Ud.blk_cells hk (by unfold Ud.unR; simp)
        refine ⟨Bx, hBx, hk.grown hg (fun e => ?_), he⟩
        obtain ⟨_, o', h3, h4⟩ := hr Bx e
        rw [h1] at h3; injection h3 with h3; subst h3; rw [h2] at h4; cases h4
      case assign =>
        rintro y pre x W K ⟨⟨p', c', ys', pp', cc', hi⟩, hsz, hxx⟩ hK
        have HI := Lib.hid hi
        have HXX := Lib.hid hxx
        have HZ := Lib.hid hsz
        have HKK := Lib.hid hK
        clear hi hK hxx
        unfold encS
        obtain ⟨u, hu⟩ : ∃ u, u = l.getD (l.length - 1 - x.val) Ud.zU := ⟨_, rfl⟩
        rw [← hu] at HKK ⊢
        obtain ⟨us, ua, uv⟩ := u
        unfold Ud.unR at HKK ⊢
        dsimp only at HKK ⊢
        clear hu
        gi_wp2
        refine HKK.out _ _ ((KeepsOthers.alloc _ _).from _) (KpS.of_below (M := W.heap.size) ((Below.refl _ W).alloc (Nat.le_refl _) _) (by have := HZ.out; have := HBSL.out; omega) (by have := HZ.out; have := HBSL.out; omega) (fun h0 X e => by have := (HQB.out X e (by rw [← HZN.out.2.2]; exact h0)).1; have := HZ.out; omega)) ⟨⟨p', c', ys', pp', cc', HI.out.below ((Below.refl _ W).alloc (Nat.le_refl _) _)⟩, by have := HZ.out; simp; omega, HXX.out.alloc _⟩ ⟨W.heap.size, HZ.out, Blk.new _ _ _, rfl⟩
      case body =>
        rintro y pre x a' W hyl hyr ⟨⟨p', c', ys', pp', cc', hI⟩, hsz, hxx⟩ ⟨Bx, hBx, hX, rfl⟩ hpre
        have HXX := Lib.hid hxx
        clear hxx
        have HZ := Lib.hid hsz
        have HI := Lib.hid hI
        have HX := Lib.hid hX
        have hx := x.isLt
        have HSN := Lib.hid (bkB_snoc l pre x ⟨L, P, z⟩)
        have hmem : l.getD (l.length - 1 - x.val) Ud.zU ∈ l := Ud.mem_getD _ _ _ (by have := HRR.out; omega)
        obtain ⟨⟨hf1, hf2⟩, hf3, hf4⟩ := HFIT.out _ hmem
        have hSD := sd_bkB (fun u hu => ⟨(HFIT.out u hu).1, (HFIT.out u hu).2.1⟩) (by have := HRR.out; omega) pre (HRV.out.sd HZ0.out)
        obtain ⟨u, hu⟩ : ∃ u, u = l.getD (l.length - 1 - x.val) Ud.zU := ⟨_, rfl⟩
        rw [← hu] at hf1 hf2 hf3 hf4 HX HSN ⊢
        obtain ⟨us, ua, uv⟩ := u
        dsimp only at hf1 hf2 hf3 hf4 HSN
        obtain ⟨a0, rfl⟩ : ∃ a0 : Nat, ua = (a0 : Int) := ⟨ua.toNat, by omega⟩
        obtain ⟨v0, rfl⟩ : ∃ v0 : Nat, uv = (v0 : Int) := ⟨uv.toNat, by omega⟩
        obtain ⟨B1, hB1⟩ : ∃ y, y = bkB l pre ⟨L, P, z⟩ := ⟨_, rfl⟩
        rw [← hB1] at HI HSN hSD
        have HEB : Hid (writeB B1 ((a0 % n : Nat) : Int) ((a0 / n : Nat) : Int) v0 = bkB l (pre ++ [x]) ⟨L, P, z⟩) := Lib.hid (by
          rw [HSN.out]
          unfold putA
          rw [Int.toNat_natCast, Int.toNat_natCast, hSD.good.zn])
        have HWR := Lib.hid (swrite_any p' n c' ys' pp' m cc' B1 a0 v0 W HI.out.ho.ob.bn hn1 (by omega) (by omega))
        obtain ⟨er, her⟩ : ∃ y, y = writeE B1 ((a0 % n : Nat) : Int) ((a0 / n : Nat) : Int) := ⟨_, rfl⟩
        rw [HEB.out, ← her] at HWR
        obtain ⟨B2, hB2⟩ : ∃ y, y = bkB l (pre ++ [x]) ⟨L, P, z⟩ := ⟨_, rfl⟩
        rw [← hB2] at HWR
        have HB2 := Lib.hid hB2
        have kK := HI.out.hk.c
        have kX := HX.out.c
        unfold Ud.unR at kX ⊢
        dsimp only at kX kK ⊢
        have HXW : Hid (∀ X, q = some X → 0 < k → X.block < W.heap.size) := Lib.hid (fun X e h0 => by have h1 := (HQB.out X e h0).1; have h2 := HZ.out; omega)
        clear hu hI hX hsz hyl hyr hpre hBx hf1 hf2 hf3 hf4 hB1 her hB2 hSD hmem HEB HSN
        have hge6 : w.heap.size + 3 ≤ W.heap.size ∧ bo < W.heap.size := by have h1 := HI.out.hk.lt; have h2 := HI.out.ge; omega
        have HG6 := Lib.hid hge6
        clear hge6
        gi_wp2_with (refine ⟨trivial, ?_⟩; gi_at_call 39; refine (CallsIn.inRound y (callsIn_wide.2 HWR.out)).mono ?_; rintro e w6 ⟨p2, c2, ys2, pp2, cc2, rfl, ho, hb⟩; have HI6 := Lib.hid (HI.out.below hb); have HO6 := Lib.hid ho; have HB6 := Lib.hid hb; have HS7 := Lib.hid (HI6.out.banks (HO6.out.mono HG6.out.1) (Ap.over HO6.out HG6.out.2) (fun g e => Ap.over HO6.out (HI.out.ho.lo.lt g e).2)); clear ho hb kX kK; have kK := HI6.out.hk.c; have fK := HI6.out.hk.f; have lK := HI6.out.hk.lt)
        refine ⟨((⟨HB6.out.size, fun k o hk _ => (HB6.out.block k (Array.getElem?_eq_some_iff.1 hk).1).trans hk⟩ : KeepsOthers W w6).trans ((KeepsOthers.setCell _ _ _).trans ((KeepsOthers.setCell _ _ _).trans (KeepsOthers.setCell _ _ _)))).from _, ⟨by simpa using HB6.out.size, ?_, ?_, ?_⟩, ?_⟩
        · rw [heap_setCell_other _ ⟨bo, 2, none⟩ Bs _ (fun e => HBON.out.1 e.symm), heap_setCell_other _ ⟨bo, 1, none⟩ Bs _ (fun e => HBON.out.1 e.symm), heap_setCell_other _ ⟨bo, 0, none⟩ Bs _ (fun e => HBON.out.1 e.symm)]
          exact HB6.out.block Bs (by have := HZ.out; have := HBSL.out; omega)
        · rw [heap_setCell_other _ ⟨bo, 2, none⟩ (Bs + 1) _ (fun e => HBON.out.2.1 e.symm), heap_setCell_other _ ⟨bo, 1, none⟩ (Bs + 1) _ (fun e => HBON.out.2.1 e.symm), heap_setCell_other _ ⟨bo, 0, none⟩ (Bs + 1) _ (fun e => HBON.out.2.1 e.symm)]
          exact HB6.out.block (Bs + 1) (by have := HZ.out; have := HBSL.out; omega)
        · intro h0 X e
          have h9 := (HQB.out X e (by rw [← HZN.out.2.2]; exact h0)).2
          rw [heap_setCell_other _ ⟨bo, 2, none⟩ X.block _ (fun e => h9 e), heap_setCell_other _ ⟨bo, 1, none⟩ X.block _ (fun e => h9 e), heap_setCell_other _ ⟨bo, 0, none⟩ X.block _ (fun e => h9 e)]
          exact HB6.out.block X.block (HXW.out X e (by rw [← HZN.out.2.2]; exact h0))
        · refine ⟨⟨p2, c2, ys2, pp2, cc2, ?_⟩, by have h1 := HZ.out; have h2 := HB6.out.size; simp; omega, (((HXX.out.below HB6.out).other _ (by have := HI.out.ge; omega)).other _ (by have := HI.out.ge; omega)).other _ (by have := HI.out.ge; omega)⟩
          rw [← HB2.out]
          exact HS7.out
      case done =>
        rintro D ys9 W hD rfl ⟨⟨p', c', ys', pp', cc', hI⟩, hsz, hxx⟩ hK
        rw [bkB_all l HSORT.out HRR.out] at hI
        have HN := HN0
        obtain ⟨⟨L2, P2, z2⟩, hB2⟩ : ∃ y, y = undoB (Ud.fromL l t) ⟨L, P, z⟩ := ⟨_, rfl⟩
        rw [← hB2] at hI HN
        have HI := Lib.hid hI
        have HK := Lib.hid hK
        have HDL := Lib.hid hD
        have hX1 : W.cell? ⟨w.heap.size + 1, 0, none⟩ = some (.int .i64 t) := hxx.c 0
        have HDE := Lib.hid (deleteGe_any (w.heap.size + 3) q k d t (w.heap.size + 1) l W HI.out.ho.lo HZN.out.2.2 hk10 hX1 hxx.lt (by omega))
        have HUU : Hid (U32 (keepF (gePr t) l)) := Lib.hid (HU32.out.filter _)
        have HKL : Hid ((keepF (gePr t) l).length ≤ 10000) := Lib.hid (by have h9 : (keepF (gePr t) l).length ≤ l.length := List.length_filter_le _ _; have h8 := HZN.out.2.2; omega)
        obtain ⟨l2, hl2⟩ : ∃ y, y = keepF (gePr t) l := ⟨_, rfl⟩
        rw [← hl2] at HN HDE HUU HKL
        have HXX := Lib.hid hxx
        clear hl2 hI hsz hK hD hxx hX1 hB2 HN0
        have kK := HI.out.hk.c
        dsimp only at kK
        go_upto_region 9 with fail
        go_wp2_with fail
        refine HDE.out.mono ?_
        rintro e w4 ⟨k2, rfl, hk2, ho, hg⟩
        have HS5 := Lib.hid (HI.out.list5 (by rw [← hk2]; exact HKL.out) ho hg (.inl (by cases q <;> rfl)) HUU.out)
        have HK4 := Lib.hid (HI.out.hk.grown hg (fun e => HI.out.nq bo e rfl))
        have HX4 := Lib.hid (HXX.out.grown hg (fun e => by have h1 := (HI.out.ho.lo.lt _ e).1; omega))
        have HD4 := Lib.hid (Ud.dk_grown HK.out hg (fun g' e => Ud.own_cells HI.out.ho.lo e))
        have HD5 := Lib.hid (Ud.dk_set (j := 5) (v := .slice q k2 d) HD4.out HK4.out (by simp))
        clear ho hg hk2 kK HI HDE HK HD4
        have kK := HK4.out.c
        have fK := HK4.out.f
        have lK := HK4.out.lt
        dsimp only at kK
        go_upto_region 10 with fail
        have HX5' := Lib.hid (HX4.out.other (B' := bo) (n := 5) (.slice q k2 d) (by have h1 := HS5.out.ge; omega))
        obtain ⟨w5', hw5⟩ : ∃ W9, W9 = w4.setCell ⟨bo, 5, none⟩ (.slice q k2 d) := ⟨_, rfl⟩
        rw [← hw5] at HS5 HD5 HX5' ⊢
        clear hw5 kK fK lK HK4 HX4
        have HS6 := Lib.hid (HS5.out.span t)
        have HD6 := Lib.hid (Ud.dk_set (j := 4) (v := .int .i64 t) HD5.out HS5.out.hk (by simp))
        have kK := HS5.out.hk.c
        have fK := HS5.out.hk.f
        have lK := HS5.out.hk.lt
        have kX := HX5'.out.c
        dsimp only at kK
        go_upto_region 11 with fail
        obtain ⟨w7, hw7⟩ : ∃ W9, W9 = w5'.setCell ⟨bo, 4, none⟩ (.int .i64 t) := ⟨_, rfl⟩
        rw [← hw7] at HS6 HD6 ⊢
        clear hw7 kK fK lK kX HS5 HD5 HX5'
        have kK := HS6.out.hk.c
        have kT := HS6.out.ht.c
        have fT := HS6.out.ht.f
        have lT := HS6.out.ht.lt
        dsimp only at kK
        go_wp2_with fail
        simp only [set6_eq]
        obtain ⟨Y, hY⟩ : ∃ Y, Y = (set6 w7 (w.heap.size + 2) (.slice p' n c') (.slice pp' m cc') (.int .i64 z2) (.int .i64 wo) (.int .i64 t) (.slice q k2 d)).putObj D (.deferred none) := ⟨_, rfl⟩
        obtain ⟨hout, hblk⟩ := HS6.out.outM HSS.out 0 HN.out (D := D) (by have := HWB.out; have := HDL.out; omega) HD6.out Y hY
        have hc := hblk.c
        have HOUT := Lib.hid hout
        clear hout
        refine Ud.retM_mark (D := D) (v := .tuple #[.agg #[.slice p' n c', .slice pp' m cc', .int .i64 z2, .int .i64 wo, .int .i64 t, .slice q k2 d], .int .i64 0]) rfl (dk_set6 HD6.out HS6.out.ht _ _ _ _ _ _) ?_ ?_
        · rw [← hY]
          simp [results, Try.results11, go_sem, hc]
        · rw [← hY]
          exact HOUT.out
      case stop =>
        rintro D cd pre W _ _ h _
        exact h.elim
    · have HN := Lib.hid (HNL.out (by first | rfl | trivial) hz0)
      have hzI : (z != 0) = true := by simp [hz0]
      clear HNO HNL HYES HOK
      have kK := HS3.out.hk.c
      have kT := HS3.out.ht.c
      have fT := HS3.out.ht.f
      have lT := HS3.out.ht.lt
      go_wp2_with fail
      exact Ud.retM_nil (v := .tuple #[.agg #[.slice p n c, .slice pp m cc, .int .i64 z, .int .i64 wo, .int .i64 sp, .slice q k d], .int .i64 8]) (by simp [results, Try.results11, go_sem, *]) rfl (HS3.out.out HSS.out 8 HN.out)
end Go.Proofs.Ytflakmabciokbaa
/- A new store, a word and all words of one, and whether two are the same, by the program and the document's own; no condition but that they read. -/
namespace Go.Proofs.Ytflakmabciokbaa
set_option linter.unusedVariables false
open Go.ChangeShapes Go.WideShapes Go.ChangeAt Go.RowKit

theorem may_need {n : Nat} {b : Nat} (h1 : 1 ≤ n) (h64 : n ≤ 64) (hb : 1 ≤ b) : mayN b (needN n b) = decide (b ≤ 8) := by
  have hm : (n - 1) / b ≤ n - 1 := Nat.div_le_self _ _
  unfold mayN
  rw [need_nat h1]
  generalize (n - 1) / b = y at hm ⊢
  by_cases h : b ≤ 8
  · rw [decide_eq_true h]; exact decide_eq_true (by omega)
  · rw [decide_eq_false h]; exact decide_eq_false (by omega)
theorem out_zero {S : Nat → Prop} {w W : World} (hS : ∀ R, S R → R < w.heap.size) (hb : Below w.heap.size w W) (X : Int) : OutV S w (set6 W w.heap.size (.slice none 0 0) (.slice none 0 0) (.int .i64 0) (.int .i64 0) (.int .i64 0) (.slice none 0 0)) (.returned (.tuple #[.agg #[.slice none 0 0, .slice none 0 0, .int .i64 0, .int .i64 0, .int .i64 0, .slice none 0 0], .int .i64 X])) ⟨⟨[], [], 0⟩, 0, 0, []⟩ X :=
  ⟨_, rfl, OwnV.vo (base := w.heap.size) (V := ⟨⟨[], [], 0⟩, 0, 0, []⟩) (p := none) (n := 0) (c := 0) (ys := []) (pp := none) (m := 0) (cc := 0) (q := none) (k := 0) (d := 0) ⟨OwnB.none _ _ 0, World.ownsRow_nil _ _ _ _, Nat.zero_le _, fun u hu => (by cases hu), fun g e => (by cases e)⟩ hS, set6_below hb (Nat.le_refl _) _ _ _ _ _ _⟩

set_option maxHeartbeats 4000000 in
theorem snew_any (S : Nat → Prop) (a b : Int) (w : World) (hS : ∀ R, S R → R < w.heap.size) :
    Calls Try.prog 15 #[.int .i64 a, .int .i64 b] w fun e w' => OutV S w w' e (newV a b) (newVE a b) := by
  have HSS := Lib.hid hS
  have HNO : Hid (sizeV a b = false → newV a b = ⟨⟨[], [], 0⟩, 0, 0, []⟩ ∧ newVE a b = 1) := Lib.hid (fun e => by unfold newV newVE; rw [e]; exact ⟨rfl, rfl⟩)
  have HYES : Hid (sizeV a b = true → newV a b = ⟨newB b (needN a b), a, 0, []⟩ ∧ newVE a b = 0) := Lib.hid (fun e => by unfold newV newVE; rw [e]; exact ⟨rfl, rfl⟩)
  have HSV : Hid (sizeV a b = (Ud.sizeB a && decide (1 ≤ b ∧ b ≤ 8)) ∧ (Ud.sizeB a = true → 1 ≤ a ∧ a ≤ 64)) := Lib.hid ⟨rfl, fun e => by unfold Ud.sizeB at e; exact of_decide_eq_true e⟩
  have HMB : Hid (∀ W, Calls Try.prog 52 #[.int .i64 a] W fun e w' => e = .returned (.bool (Ud.sizeB a)) ∧ W = w') := Lib.hid (fun W => smay_any _ W)
  obtain ⟨r, hr⟩ : ∃ y, y = Ud.sizeB a := ⟨_, rfl⟩
  rw [← hr] at HSV HMB
  clear hr hS
  obtain ⟨w0, hw0⟩ : ∃ w0, w0 = w.alloc (.cells #[.slice none 0 0, .slice none 0 0, .int .i64 0, .int .i64 0, .int .i64 0, .slice none 0 0] 28) := ⟨_, rfl⟩
  have HB0 : Hid (Below w.heap.size w w0) := Lib.hid (by rw [hw0]; exact (Below.refl _ _).alloc (Nat.le_refl _) _)
  have HK0 : Hid (Blk w0 w.heap.size #[.slice none 0 0, .slice none 0 0, .int .i64 0, .int .i64 0, .int .i64 0, .slice none 0 0]) := Lib.hid (by rw [hw0]; exact Blk.new _ _ _)
  have HSZ : Hid (w0.heap.size = w.heap.size + 1) := Lib.hid (by rw [hw0]; exact World.size_alloc _ _)
  have HW0 := Lib.hid hw0
  clear hw0
  go_enter Try.func15, Try.ntmps15
  go_upto_region 1 with fail
  rw [← HW0.out]
  clear HW0
  go_wp2_with fail
  refine (HMB.out _).mono ?_
  rintro e w' ⟨rfl, rfl⟩
  have kT := HK0.out.c
  have fT := HK0.out.f
  have lT := HK0.out.lt
  cases r with
  | false =>
    have HN := Lib.hid (HNO.out (by rw [HSV.out.1]; rfl))
    clear HNO HYES HSV
    go_wp2_with fail
    rw [HN.out.1, HN.out.2]
    exact bodyPost_ret (v := .tuple #[.agg #[.slice none 0 0, .slice none 0 0, .int .i64 0, .int .i64 0, .int .i64 0, .slice none 0 0], .int .i64 1]) (by simp [results, Try.results15, go_sem, *]) rfl (out_zero HSS.out HB0.out 1)
  | true =>
    have hsz := HSV.out.2 (by first | rfl | trivial)
    by_cases h1 : b < 1
    · have HN := Lib.hid (HNO.out (by rw [HSV.out.1, decide_eq_false (show ¬ (1 ≤ b ∧ b ≤ 8) by omega)]; rfl))
      have h1I : decide (b < 1) = true := decide_eq_true h1
      clear HNO HYES HSV
      go_wp2_with fail
      rw [HN.out.1, HN.out.2]
      exact bodyPost_ret (v := .tuple #[.agg #[.slice none 0 0, .slice none 0 0, .int .i64 0, .int .i64 0, .int .i64 0, .slice none 0 0], .int .i64 1]) (by simp [results, Try.results15, go_sem, *]) rfl (out_zero HSS.out HB0.out 1)
    · have h1I : decide (b < 1) = false := decide_eq_false h1
      obtain ⟨n, rfl⟩ : ∃ n : Nat, a = (n : Int) := ⟨a.toNat, by omega⟩
      obtain ⟨b, rfl⟩ : ∃ n : Nat, b = (n : Int) := ⟨b.toNat, by omega⟩
      have HND : Hid (∀ W, Calls Try.prog 54 #[.int .i64 n, .int .i64 b] W fun e w' => e = .returned (.int .i64 (needN n b)) ∧ W = w') := Lib.hid (fun W => need_any n b W (by omega) (by omega) (by omega))
      have HPN : Hid (∀ W, Calls Try.prog 53 #[.int .i64 b, .int .i64 (needN n b)] W fun e w' => Out W w' e (newB b (needN n b)) (newE b (needN n b))) := Lib.hid (fun W => new_any _ _ W)
      have HMN : Hid (newE b (needN n b) = (if b ≤ 8 then 0 else 1)) := Lib.hid (by
        unfold newE
        rw [may_need (by omega) (by omega) (by omega)]
        by_cases h8 : b ≤ 8
        · rw [decide_eq_true h8, if_pos h8]; rfl
        · rw [decide_eq_false h8, if_neg h8]; rfl)
      have HSV2 : Hid (sizeV n b = decide (b ≤ 8)) := Lib.hid (by
        rw [HSV.out.1]
        show decide _ = decide _
        exact decide_eq_decide.2 (by omega))
      obtain ⟨B2, hB2⟩ : ∃ y, y = newB b (needN n b) := ⟨_, rfl⟩
      obtain ⟨nd, hnd⟩ : ∃ y, y = needN n b := ⟨_, rfl⟩
      rw [← hnd] at HND HPN HMN HYES hB2
      rw [← hB2] at HPN HYES
      rw [HMN.out] at HPN
      clear HSV HMN hnd hB2 kT fT lT
      go_wp2_with fail
      refine (HND.out _).mono ?_
      rintro e w' ⟨rfl, rfl⟩
      go_wp2_with fail
      refine (HPN.out _).mono ?_
      rintro e w1 ⟨p, n1, c, ys, pp, m, cc, rfl, ho, hb⟩
      have HK1 := Lib.hid (HK0.out.below hb)
      have HB1 : Hid (Below w.heap.size w w1) := Lib.hid (HB0.out.trans (hb.mono HB0.out.size))
      have HO1 : Hid (OwnB (w.heap.size + 1) w1 p n1 c ys pp m cc B2) := Lib.hid (by rw [HSZ.out] at ho; exact ho)
      clear ho hb
      go_upto_region 4 with fail
      obtain ⟨w2, hw2⟩ : ∃ y, y = w1.alloc (.cells #[.slice p n1 c, .slice pp m cc, .int .i64 B2.lost] 25) := ⟨_, rfl⟩
      have HX2 : Hid (Blk w2 w1.heap.size #[.slice p n1 c, .slice pp m cc, .int .i64 B2.lost]) := Lib.hid (by rw [hw2]; exact Blk.new _ _ _)
      have hb2 : Below w1.heap.size w1 w2 := by rw [hw2]; exact (Below.refl _ _).alloc (Nat.le_refl _) _
      have HK2 := Lib.hid (HK1.out.below hb2)
      have HB2 : Hid (Below w.heap.size w w2) := Lib.hid (HB1.out.trans (hb2.mono HB1.out.size))
      have HO2 := Lib.hid (HO1.out.below hb2)
      obtain ⟨bv, hbv⟩ : ∃ y, y = w1.heap.size := ⟨_, rfl⟩
      rw [← hbv] at HX2
      rw [← hw2, ← hbv]
      clear hw2 hb2 hbv HK1 HB1 HO1
      have kT := HK2.out.c
      have fT := HK2.out.f
      have lT := HK2.out.lt
      have kX := HX2.out.c
      by_cases h8 : b ≤ 8
      · have HN := Lib.hid (HYES.out (by rw [HSV2.out]; exact decide_eq_true h8))
        rw [if_pos h8]
        clear HNO HYES HSV2
        go_wp2_with fail
        rw [HN.out.1, HN.out.2]
        refine bodyPost_ret (v := .tuple #[.agg #[.slice p n1 c, .slice pp m cc, .int .i64 B2.lost, .int .i64 n, .int .i64 0, .slice none 0 0], .int .i64 0]) (by simp [results, Try.results15, go_sem, *]) rfl ⟨_, rfl, ?_, set6_below HB2.out (Nat.le_refl _) _ _ _ _ _ _⟩
        have hov : OwnV (w.heap.size + 1) w2 p n1 c ys pp m cc none 0 0 ⟨B2, n, 0, []⟩ := ⟨HO2.out, World.ownsRow_nil _ _ _ _, Nat.zero_le _, fun u hu => (by cases hu), fun g e => (by cases e)⟩
        exact (hov.set6 (R := w.heap.size) (by omega) _ _ _ _ _ _).vo (fun R hR => by have := HSS.out R hR; omega)
      · have HN := Lib.hid (HNO.out (by rw [HSV2.out]; exact decide_eq_false h8))
        rw [if_neg h8]
        clear HNO HYES HSV2
        go_wp2_with fail
        rw [HN.out.1, HN.out.2]
        exact bodyPost_ret (v := .tuple #[.agg #[.slice none 0 0, .slice none 0 0, .int .i64 0, .int .i64 0, .int .i64 0, .slice none 0 0], .int .i64 1]) (by simp [results, Try.results15, go_sem, *]) rfl (out_zero HSS.out HB2.out 1)

set_option maxHeartbeats 4000000 in
theorem sreadV_any (S : Nat → Prop) (v : Value) (V : Vt) (a : Int) (w : World) (h : Vo S w v V) :
    Calls Try.prog 17 #[v, .int .i64 a] w fun e w' => e = .returned (.tuple #[.int .u32 (readVN V a : Nat), .int .i64 (readVE V a)]) ∧ Below w.heap.size w w' := by
  have HHW : Hid (∀ W, Below w.heap.size w W → Calls Try.prog 37 #[v, .int .i64 a] W fun e w' => e = .returned (.bool (okA V a)) ∧ Below W.heap.size W w') := Lib.hid (fun W hW => shas_any S v V a W (h.below hW))
  obtain ⟨p, n, c, xs, pp, m, cc, q, k, d, rfl, hc, -⟩ := h
  have HRD : Hid (okA V a = true → ∃ a0 : Nat, a = (a0 : Int) ∧ ∀ W, Below w.heap.size w W → Calls Try.prog 38 #[.agg #[.slice p n c, .slice pp m cc, .int .i64 V.B.lost], .int .i64 (a0 : Int)] W fun e w' => e = .returned (.tuple #[.int .u32 (readVN V a : Nat), .int .i64 (readVE V a)]) ∧ Below W.heap.size W w') := Lib.hid (fun e => by
    have e9 := e
    unfold okA at e
    rw [Bool.and_eq_true, decide_eq_true_eq] at e
    obtain ⟨n0, hv⟩ := rv_of e.1
    have hw := hv.w
    have hn1 := hv.n1
    have hb := hv.bm
    rw [hc.bn.zn] at hb
    refine ⟨a.toNat, by omega, fun W hW => ?_⟩
    have := sread_any p n c xs pp m cc V.B a.toNat W (hc.bn.below hW) hb.1 (by omega)
    unfold readVN readVE
    rw [e9, if_pos rfl, if_pos rfl, hc.bn.zn]
    exact this)
  have HNO : Hid (okA V a = false → readVN V a = 0 ∧ readVE V a = 1) := Lib.hid (fun e => by unfold readVN readVE; rw [e]; exact ⟨rfl, rfl⟩)
  obtain ⟨r, hr⟩ : ∃ y, y = okA V a := ⟨_, rfl⟩
  obtain ⟨rn, hrn⟩ : ∃ y, y = readVN V a := ⟨_, rfl⟩
  obtain ⟨re, hre⟩ : ∃ y, y = readVE V a := ⟨_, rfl⟩
  rw [← hr] at HHW HRD HNO
  rw [← hrn, ← hre] at HRD HNO
  rw [← hrn, ← hre]
  obtain ⟨z, hz⟩ : ∃ y, y = V.B.lost := ⟨_, rfl⟩
  obtain ⟨wo, hwo⟩ : ∃ y, y = V.words := ⟨_, rfl⟩
  obtain ⟨sp, hsp⟩ : ∃ y, y = V.span := ⟨_, rfl⟩
  rw [← hz, ← hwo, ← hsp] at HHW
  rw [← hz] at HRD
  rw [← hz, ← hwo, ← hsp]
  clear hr hrn hre hz hwo hsp hc
  obtain ⟨w0, hw0⟩ : ∃ w0, w0 = w.alloc (.cells #[.slice p n c, .slice pp m cc, .int .i64 z, .int .i64 wo, .int .i64 sp, .slice q k d] 28) := ⟨_, rfl⟩
  have HA0 : Hid (Blk w0 w.heap.size #[.slice p n c, .slice pp m cc, .int .i64 z, .int .i64 wo, .int .i64 sp, .slice q k d]) := Lib.hid (by rw [hw0]; exact Blk.new _ _ _)
  have HB0 : Hid (Below w.heap.size w w0) := Lib.hid (by rw [hw0]; exact (Below.refl _ _).alloc (Nat.le_refl _) _)
  have HW0 := Lib.hid hw0
  clear hw0
  go_enter Try.func17, Try.ntmps17
  have kA := HA0.out.c
  go_upto_region 1 with fail
  rw [← HW0.out]
  clear HW0
  go_wp2_with fail
  refine (HHW.out w0 HB0.out).mono ?_
  rintro e w1 ⟨rfl, hb⟩
  have HB1 : Hid (Below w.heap.size w w1) := Lib.hid (HB0.out.trans (hb.mono HB0.out.size))
  have kB := (HA0.out.below hb).c
  clear hb kA
  cases r with
  | false =>
    obtain ⟨rfl, rfl⟩ := HNO.out (by first | rfl | trivial)
    go_wp2_with fail
    go_ret2
    exact ⟨rfl, HB1.out⟩
  | true =>
    obtain ⟨a0, rfl, hcl⟩ := HRD.out (by first | rfl | trivial)
    have HCL := Lib.hid (hcl w1 HB1.out)
    clear hcl HRD HNO
    go_wp2_with fail
    refine HCL.out.mono ?_
    rintro e w2 ⟨rfl, hb⟩
    have HB2 : Hid (Below w.heap.size w w2) := Lib.hid (HB1.out.trans (hb.mono HB1.out.size))
    clear hb kB
    go_wp2_with fail
    go_ret2
    exact ⟨rfl, HB2.out⟩

theorem read_word {V : Vt} {n b m : Nat} (h : Rv V n b m) {a : Nat} (ha : a < n) : readN V.B ((a % b : Nat) : Int) ((a / b : Nat) : Int) = wdA V.B a := by
  obtain ⟨h1, h2⟩ := place_lt h.bm.1 h.mm ha
  unfold readN
  rw [hasW_of h.right (Int.natCast_nonneg _) (by rw [h.zn]; omega) (Int.natCast_nonneg _) (by rw [h.zm]; omega), if_pos rfl]
  unfold wdA wd wordB
  rw [h.zn, Int.toNat_natCast, Int.toNat_natCast]
  by_cases e : V.B.lost = ((a % b : Nat) : Int) + 1
  · rw [if_pos e]
    have hz := fine_zero h.right (by omega) (a / b)
    rw [show (V.B.lost - 1).toNat = a % b by omega] at hz
    exact hz.symm
  · rw [if_neg e]
theorem u32_wd {l : List Nat} {M : List Int} {N : Nat} (hl : l.length = N) (hM : M.length = N) (h : ∀ j, j < N → M.getD j 0 = ((l.getD j 0 : Nat) : Int)) : u32C l = Ud.wdC M := by
  refine List.ext_getElem? fun j => ?_
  by_cases hj : j < N
  · rw [u32C_at l j (by omega), Ud.wdC_at M j (by omega), h j hj]
  · rw [List.getElem?_eq_none (by rw [u32C_len]; omega), List.getElem?_eq_none (by rw [Ud.wdC_len]; omega)]

set_option maxHeartbeats 4000000 in
theorem swords_any (S : Nat → Prop) (v : Value) (V : Vt) (w : World) (h : Vo S w v V) :
    Calls Try.prog 22 #[v] w fun e w' => ∃ r, e = .returned r ∧ w'.ownsRow w.heap.size 29 1 r (wordsV V).length (Ud.wdC (wordsV V)) ∧ Below w.heap.size w w' := by
  have HRT : Hid (∀ W, Below w.heap.size w W → Calls Try.prog 20 #[v] W fun e w' => e = .returned (.bool (rightV V)) ∧ Below W.heap.size W w') := Lib.hid (fun W hW => sright_any S v V W (h.below hW))
  obtain ⟨p, n, c, xs, pp, m, cc, q, k, d, rfl, hc, -⟩ := h
  have HNO : Hid (rightV V = false → wordsV V = []) := Lib.hid (fun e => by unfold wordsV; rw [e]; rfl)
  have HYES : Hid (rightV V = true → ∃ n0 : Nat, V.words = (n0 : Int) ∧ n0 ≤ 64 ∧ 1 ≤ n ∧ wordsV V = memB V.B n0 ∧ ∀ a, a < n0 → readN V.B ((a % n : Nat) : Int) ((a / n : Nat) : Int) = wdA V.B a) := Lib.hid (fun e => by
    obtain ⟨n0, hv⟩ := rv_of e
    rw [hc.bn.zn] at hv
    refine ⟨n0, hv.w, hv.n1.2, hv.bm.1, ?_, fun a ha => read_word hv ha⟩
    unfold wordsV
    rw [e, if_pos rfl, hv.w, Int.toNat_natCast])
  have HRD : Hid (∀ (a : Nat) W, Below w.heap.size w W → 1 ≤ n → a ≤ 10000 → Calls Try.prog 38 #[.agg #[.slice p n c, .slice pp m cc, .int .i64 V.B.lost], .int .i64 (a : Int)] W fun e w' => e = .returned (.tuple #[.int .u32 (readN V.B ((a % n : Nat) : Int) ((a / n : Nat) : Int) : Nat), .int .i64 (readE V.B ((a % n : Nat) : Int) ((a / n : Nat) : Int))]) ∧ Below W.heap.size W w') := Lib.hid (fun a W hW hn ha => sread_any p n c xs pp m cc V.B a W (hc.bn.below hW) hn ha)
  have HLT : Hid (∀ a, wdA V.B a < 4294967296) := Lib.hid (fun a => hc.bn.rw_.word_lt _ _)
  obtain ⟨r, hr⟩ : ∃ y, y = rightV V := ⟨_, rfl⟩
  rw [← hr] at HRT HNO HYES
  obtain ⟨z, hz⟩ : ∃ y, y = V.B.lost := ⟨_, rfl⟩
  obtain ⟨wo, hwo⟩ : ∃ y, y = V.words := ⟨_, rfl⟩
  obtain ⟨sp, hsp⟩ : ∃ y, y = V.span := ⟨_, rfl⟩
  rw [← hz, ← hwo, ← hsp] at HRT
  rw [← hz] at HRD
  rw [← hwo] at HYES
  rw [← hz, ← hwo, ← hsp]
  clear hr hz hwo hsp hc
  obtain ⟨i0, hi, hz0, hz1, hz2⟩ := info_parts Ud.info26
  have HI := Lib.hid (And.intro hi (And.intro hz0 (And.intro hz1 hz2)))
  clear hi hz0 hz1 hz2
  obtain ⟨w0, hw0⟩ : ∃ w0, w0 = w.alloc (.cells #[.slice p n c, .slice pp m cc, .int .i64 z, .int .i64 wo, .int .i64 sp, .slice q k d] 28) := ⟨_, rfl⟩
  have HA0 : Hid (Blk w0 w.heap.size #[.slice p n c, .slice pp m cc, .int .i64 z, .int .i64 wo, .int .i64 sp, .slice q k d]) := Lib.hid (by rw [hw0]; exact Blk.new _ _ _)
  have HB0 : Hid (Below w.heap.size w w0) := Lib.hid (by rw [hw0]; exact (Below.refl _ _).alloc (Nat.le_refl _) _)
  have HW0 := Lib.hid hw0
  clear hw0
  go_enter Try.func22, Try.ntmps22
  have kA := HA0.out.c
  go_upto_region 1 with fail
  rw [← HW0.out]
  clear HW0
  go_wp2_with fail
  refine (HRT.out w0 HB0.out).mono ?_
  rintro e w1 ⟨rfl, hb⟩
  have HB1 : Hid (Below w.heap.size w w1) := Lib.hid (HB0.out.trans (hb.mono HB0.out.size))
  have HA1 := Lib.hid (HA0.out.below hb)
  clear hb kA HA0 HB0
  cases r with
  | false =>
    have HN := Lib.hid (HNO.out (by first | rfl | trivial))
    go_wp2_with fail
    go_ret
    exact ⟨_, rfl, by rw [HN.out]; exact World.ownsRow_nil _ _ _ _, HB1.out⟩
  | true =>
    obtain ⟨n0, rfl, hn0, hn1, hwv, hrd⟩ := HYES.out (by first | rfl | trivial)
    have HWV := Lib.hid hwv
    have HRW := Lib.hid hrd
    clear hwv hrd HYES HNO HRT
    have kA := HA1.out.c
    go_wp2_with (first | (refine wpList_make_full _ rfl _ _ 23 rfl w1.heap.size 29 i0 (.int .u32 0) 1 Try.underlying23 HI.out.1 HI.out.2.1 HI.out.2.2.1 .i64 .i64 n0 n0 n0 rfl rfl rfl rfl (by rw [HI.out.2.2.2]; omega) (by unfold maxLen; omega) (Nat.le_refl _) ?_))
    intro w2 g1 g2
    have HW2 := Lib.hid (Wd.made g1)
    have hb2 : Below w1.heap.size w1 w2 := (Below.refl _ _).grown g2 (Nat.le_refl _) (fun k hk => by cases hk)
    have HB2 : Hid (Below w.heap.size w w2) := Lib.hid (HB1.out.trans (hb2.mono HB1.out.size))
    have HA2 := Lib.hid (HA1.out.below hb2)
    have HGE : Hid (w.heap.size + 1 ≤ w1.heap.size) := Lib.hid (by have := HA1.out.lt; omega)
    obtain ⟨g, hg⟩ : ∃ y, y = w1.heap.size := ⟨_, rfl⟩
    rw [← hg] at HW2 HGE
    rw [← hg]
    clear g1 g2 hb2 hg kA HI HA1 HB1
    go_wp2_with fail
    go_loopw [13] (fun i wr => ∃ kk : Nat, kk ≤ n0 ∧ i = .int .i64 kk ∧ (∃ l, Wd g wr g n0 n0 l ∧ ∀ a, a < kk → l.getD a 0 = wdA V.B a) ∧ Blk wr w.heap.size #[.slice p n c, .slice pp m cc, .int .i64 z, .int .i64 n0, .int .i64 sp, .slice q k d] ∧ Below w.heap.size w wr) (fun i _ => n0 - (intOf i).toNat)
    case atStart => exact ⟨0, Nat.zero_le _, rfl, ⟨_, HW2.out, fun a ha => absurd ha (Nat.not_lt_zero _)⟩, HA2.out, HB2.out⟩
    case round =>
      obtain ⟨j, hj, rfl, ⟨l, hl, hpre⟩, ha, hb⟩ := hrel
      clear HW2 HA2 HB2
      have HL := Lib.hid hl
      have HP := Lib.hid hpre
      have HA := Lib.hid ha
      have HB := Lib.hid hb
      clear hl hpre ha hb
      by_cases hlt : j < n0
      · have hltI : decide ((j : Int) < (n0 : Int)) = true := decide_eq_true (by omega)
        have hjI : (j : Int) < (n0 : Int) := by omega
        have HCL := Lib.hid (HRD.out j wr HB.out hn1 (by omega))
        rw [HRW.out j hlt] at HCL
        obtain ⟨x, hx⟩ : ∃ y, y = wdA V.B j := ⟨_, rfl⟩
        obtain ⟨er, her⟩ : ∃ y, y = readE V.B ((j % n : Nat) : Int) ((j / n : Nat) : Int) := ⟨_, rfl⟩
        have HXL : Hid (x < 4294967296) := Lib.hid (by rw [hx]; exact HLT.out j)
        rw [← hx, ← her] at HCL
        have HX := Lib.hid hx
        clear hx her
        have kA := HA.out.c
        go_wp2_with fail
        refine HCL.out.mono ?_
        rintro e w3 ⟨rfl, hb3⟩
        have HL3 := Lib.hid (HL.out.below hb3)
        have HA3 := Lib.hid (HA.out.below hb3)
        have HB3 : Hid (Below w.heap.size w w3) := Lib.hid (HB.out.trans (hb3.mono HB.out.size))
        clear hb3 kA HL HA HB HCL
        have cJ := HL3.out.cell j hlt
        have fJ := HL3.out.frozen j
        have HL4 := Lib.hid (HL3.out.set j x HXL.out)
        have HP4 : Hid (∀ a, a < j + 1 → (l.set j x).getD a 0 = wdA V.B a) := Lib.hid (fun a ha => by
          rw [getD_set l 0 x j a (by rw [HL3.out.len]; exact hlt)]
          by_cases e : a = j
          · rw [if_pos e, HX.out, e]
          · rw [if_neg e]; exact HP.out a (by omega))
        go_wp2_with fail
        go_roundw
        case rel => exact ⟨j + 1, by omega, by go_num, ⟨_, HL4.out, HP4.out⟩, HA3.out.other _ (by have := HGE.out; omega), HB3.out.setCell (p := ⟨g, j, none⟩) (by show w.heap.size ≤ g; have := HGE.out; omega) _⟩
        case measure => simp [intOf]; omega
      · have hltI : decide ((j : Int) < (n0 : Int)) = false := decide_eq_false (by omega)
        have HE : Hid (u32C l = Ud.wdC (wordsV V) ∧ (wordsV V).length = n0) := Lib.hid (by
          rw [HWV.out]
          exact ⟨u32_wd HL.out.len (memB_len _ _) (fun i hi => by rw [memB_at _ _ _ hi, HP.out i (by omega)]), memB_len _ _⟩)
        go_wp2_with fail
        go_ret
        exact ⟨_, rfl, by rw [HE.out.2, ← HE.out.1]; exact own_base HL.out.row (by have := HGE.out; omega), HB.out⟩

set_option maxHeartbeats 4000000 in
theorem ssame_any (S T : Nat → Prop) (v u : Value) (V : Vt) (w : World) (h1 : Vo S w v V) (h2 : Vo T w u V) :
    Calls Try.prog 10 #[v, u] w fun e w' => e = .returned (.bool true) ∧ Below w.heap.size w w' := by
  obtain ⟨p, n, c, xs, pp, m, cc, q, k, d, rfl, hc, -⟩ := h1
  obtain ⟨p', n', c', xs', pp', m', cc', q', k', d', rfl, hc', -⟩ := h2
  have HS1 : Hid (∀ W, Below w.heap.size w W → Calls Try.prog 29 #[.agg #[.slice p n c, .slice pp m cc, .int .i64 V.B.lost], .agg #[.slice p' n' c', .slice pp' m' cc', .int .i64 V.B.lost]] W fun e w' => e = .returned (.bool true) ∧ Below W.heap.size W w') := Lib.hid (fun W hW => same_any p n c xs pp m cc p' n' c' xs' pp' m' cc' V.B W (hc.bn.below hW) (hc'.bn.below hW))
  have HS2 : Hid (∀ W, Below w.heap.size w W → Calls Try.prog 44 #[.agg #[.slice none 0 0, .int .i64 V.span, .slice q k d], .agg #[.slice none 0 0, .int .i64 V.span, .slice q' k' d']] W fun e w' => e = .returned (.bool true) ∧ Below W.heap.size W w') := Lib.hid (fun W hW => Ud.same_any (fun _ => False) (fun _ => False) _ _ ⟨[], V.span, V.list⟩ W ⟨none, 0, 0, q, k, d, rfl, ⟨rfl, hc.ll, Sl.empty _ _ _, (hc.below hW).ls, Nat.le_refl _, hc.kd, Nat.zero_le _, hc.k10⟩, fun _ h => h.elim⟩ ⟨none, 0, 0, q', k', d', rfl, ⟨rfl, hc'.ll, Sl.empty _ _ _, (hc'.below hW).ls, Nat.le_refl _, hc'.kd, Nat.zero_le _, hc'.k10⟩, fun _ h => h.elim⟩)
  obtain ⟨z, hz⟩ : ∃ y, y = V.B.lost := ⟨_, rfl⟩
  obtain ⟨wo, hwo⟩ : ∃ y, y = V.words := ⟨_, rfl⟩
  obtain ⟨sp, hsp⟩ : ∃ y, y = V.span := ⟨_, rfl⟩
  rw [← hz] at HS1
  rw [← hsp] at HS2
  rw [← hz, ← hwo, ← hsp]
  clear hz hwo hsp hc hc'
  obtain ⟨w0, hw0⟩ : ∃ w0, w0 = (w.alloc (.cells #[.slice p n c, .slice pp m cc, .int .i64 z, .int .i64 wo, .int .i64 sp, .slice q k d] 28)).alloc (.cells #[.slice p' n' c', .slice pp' m' cc', .int .i64 z, .int .i64 wo, .int .i64 sp, .slice q' k' d'] 28) := ⟨_, rfl⟩
  have HA0 : Hid (Blk w0 w.heap.size #[.slice p n c, .slice pp m cc, .int .i64 z, .int .i64 wo, .int .i64 sp, .slice q k d] ∧ Blk w0 (w.heap.size + 1) #[.slice p' n' c', .slice pp' m' cc', .int .i64 z, .int .i64 wo, .int .i64 sp, .slice q' k' d']) := Lib.hid (by
    have j2 := Blk.new (w.alloc (.cells #[.slice p n c, .slice pp m cc, .int .i64 z, .int .i64 wo, .int .i64 sp, .slice q k d] 28)) #[.slice p' n' c', .slice pp' m' cc', .int .i64 z, .int .i64 wo, .int .i64 sp, .slice q' k' d'] 28
    simp only [World.size_alloc] at j2
    rw [hw0]; exact ⟨(Blk.new _ _ _).alloc _, j2⟩)
  have HB0 : Hid (Below w.heap.size w w0) := Lib.hid (by rw [hw0]; exact ((Below.refl _ _).alloc (Nat.le_refl _) _).alloc (by simp) _)
  have HW0 := Lib.hid hw0
  clear hw0
  go_enter Try.func10, Try.ntmps10
  have kA := HA0.out.1.c
  have kB := HA0.out.2.c
  go_upto_region 1 with fail
  rw [← HW0.out]
  clear HW0
  go_wp2_with fail
  refine (HS1.out w0 HB0.out).mono ?_
  rintro e w1 ⟨rfl, hb⟩
  have HB1 : Hid (Below w.heap.size w w1) := Lib.hid (HB0.out.trans (hb.mono HB0.out.size))
  have kA1 := (HA0.out.1.below hb).c
  have kB1 := (HA0.out.2.below hb).c
  clear hb kA kB
  go_wp2_with fail
  refine (HS2.out w1 HB1.out).mono ?_
  rintro e w2 ⟨rfl, hb⟩
  have HB2 : Hid (Below w.heap.size w w2) := Lib.hid (HB1.out.trans (hb.mono HB1.out.size))
  clear hb kA1 kB1
  go_wp2_with fail
  go_ret
  exact ⟨rfl, HB2.out⟩
end Go.Proofs.Ytflakmabciokbaa
/- The statements' fixed answer, awake; no condition. -/
namespace Go.Proofs.Ytflakmabciokbaa
set_option linter.unusedVariables false
open Go.ChangeShapes Go.WideShapes Go.ChangeAt Go.RowKit

def sw0 : Vt := ⟨⟨[[0, 0], [0, 0]], [0, 0], 0⟩, 4, 0, []⟩
def sw1 : Vt := ⟨⟨[[0, 0], [0, 5]], [0, 5], 0⟩, 4, 0, [⟨0, 3, 0⟩]⟩
def sw2 : Vt := ⟨⟨[[0, 0], [0, 5]], [0, 5], 0⟩, 4, 1, [⟨0, 3, 0⟩]⟩
def sw3 : Vt := ⟨⟨[[0, 0], [0, 6]], [0, 6], 0⟩, 4, 1, [⟨0, 3, 0⟩, ⟨1, 3, 5⟩]⟩
def sw4 : Vt := ⟨⟨[[0, 0], [0, 0]], [0, 6], 2⟩, 4, 1, [⟨0, 3, 0⟩, ⟨1, 3, 5⟩]⟩
theorem sq_0 : newV 4 2 = sw0 ∧ newVE 4 2 = 0 := ⟨by kernel_rfl, by kernel_rfl⟩
theorem sq_1 : writeV sw0 3 (5 : Nat) = sw1 ∧ writeVE sw0 3 = 0 := ⟨by kernel_rfl, by kernel_rfl⟩
theorem sq_2 : nextV sw1 = sw2 ∧ nextVE sw1 = 0 := ⟨by kernel_rfl, by kernel_rfl⟩
theorem sq_3 : writeV sw2 3 (6 : Nat) = sw3 ∧ writeVE sw2 3 = 0 := ⟨by kernel_rfl, by kernel_rfl⟩
theorem sq_4 : loseV sw3 1 = sw4 ∧ loseVE sw3 1 = 0 := ⟨by kernel_rfl, by kernel_rfl⟩
theorem sq_5 : rebV sw4 = sw3 ∧ rebVE sw4 = 0 := ⟨by kernel_rfl, by kernel_rfl⟩
theorem sq_6 : backV sw3 1 = sw2 ∧ backVE sw3 1 = 0 := ⟨by kernel_rfl, by kernel_rfl⟩
theorem sq_7 : readVN sw2 3 = 5 ∧ readVE sw2 3 = 0 := ⟨by kernel_rfl, by kernel_rfl⟩
theorem sq_8 : (wordsV sw3).length = 4 := by kernel_rfl

set_option maxHeartbeats 4000000 in
set_option maxRecDepth 100000 in
theorem sawake_any (w : World) : Calls Try.prog 6 #[] w fun e w' => e = .returned (.bool true) ∧ Below w.heap.size w w' := by
  have h0 := snew_any (fun _ => False) 4 2 w (fun _ h => h.elim)
  rw [sq_0.1, sq_0.2] at h0
  have H0 := Lib.hid h0
  clear h0
  go_enter Try.func6, Try.ntmps6
  go_upto_region 1 with fail
  go_wp2_with fail
  refine H0.out.mono ?_
  clear H0
  rintro e w1 ⟨v, rfl, hlo, hb⟩
  have HB : Hid (Below w.heap.size w w1) := Lib.hid hb
  obtain ⟨p, n, c, xs, pp, m, cc, q, k, d, rfl, hcc, hoff⟩ := hlo
  have HC : Hid (Vo (fun _ => False) w1 (.agg #[.slice p n c, .slice pp m cc, .int .i64 sw0.B.lost, .int .i64 sw0.words, .int .i64 sw0.span, .slice q k d]) sw0) := Lib.hid ⟨p, n, c, xs, pp, m, cc, q, k, d, rfl, hcc, hoff⟩
  clear hoff hb hcc
  go_upto_region 2 with fail
  obtain ⟨b, hbe⟩ : ∃ b, b = w1.heap.size := ⟨_, rfl⟩
  obtain ⟨x0, hx0⟩ : ∃ x, x = w1.alloc (.cells #[.slice p n c, .slice pp m cc, .int .i64 sw0.B.lost, .int .i64 sw0.words, .int .i64 sw0.span, .slice q k d] 28) := ⟨_, rfl⟩
  have HV0 : Hid (VarV (fun R => R = b) x0 b sw0) := Lib.hid (by
    rw [hx0, hbe]
    exact VarV.new _ (HC.out.later (fun R hR => .inr (by rw [hR]; exact Nat.le_refl _))))
  have HW0 : Hid (Below w.heap.size w x0) := Lib.hid (by rw [hx0]; exact HB.out.alloc HB.out.size _)
  have HBG : Hid (w.heap.size ≤ b) := Lib.hid (by rw [hbe]; exact HB.out.size)
  rw [← hx0, ← hbe]
  clear hx0 hbe HC HB
  obtain ⟨p0, n0, c0, pp0, m0, cc0, q0, k0, d0, hk, hlo⟩ := HV0.out.vo
  have HK := Lib.hid hk
  have hq := swriteV_any (fun R => R = b) _ sw0 3 5 x0 hlo (fun R hR => by rw [hR]; exact hk.lt) (by decide)
  rw [sq_1.1, sq_1.2] at hq
  have HQ := Lib.hid hq
  clear hq hlo HV0
  have kc := HK.out.c
  clear hk
  go_wp2_with fail
  refine HQ.out.mono ?_
  clear HQ kc
  rintro e v0 ⟨v, rfl, hlo, hb⟩
  obtain ⟨p, n, c, xs, pp, m, cc, q, k, d, rfl, hcc, hoff⟩ := hlo
  have HKv := Lib.hid (HK.out.below hb)
  have HOv : Hid (Vo (fun R => R = b) v0 (.agg #[.slice p n c, .slice pp m cc, .int .i64 sw1.B.lost, .int .i64 sw1.words, .int .i64 sw1.span, .slice q k d]) sw1) := Lib.hid ⟨p, n, c, xs, pp, m, cc, q, k, d, rfl, hcc, hoff⟩
  have HWv : Hid (Below w.heap.size w v0) := Lib.hid (HW0.out.trans (hb.mono HW0.out.size))
  clear hb hcc hoff HK HW0
  have kc := HKv.out.c
  have kf := HKv.out.f
  have kl := HKv.out.lt
  go_upto_region 3 with fail
  rw [set6_eq]
  obtain ⟨x1, hx⟩ : ∃ x, x = set6 v0 b (.slice p n c) (.slice pp m cc) (.int .i64 sw1.B.lost) (.int .i64 sw1.words) (.int .i64 sw1.span) (.slice q k d) := ⟨_, rfl⟩
  have HV1 : Hid (VarV (fun R => R = b) x1 b sw1) := Lib.hid (by rw [hx]; exact VarV.put HKv.out HOv.out rfl)
  have HW1 : Hid (Below w.heap.size w x1) := Lib.hid (by rw [hx]; exact set6_below HWv.out HBG.out _ _ _ _ _ _)
  rw [← hx]
  clear hx kc kf kl HKv HOv HWv
  obtain ⟨p0, n0, c0, pp0, m0, cc0, q0, k0, d0, hk, hlo⟩ := HV1.out.vo
  have HK := Lib.hid hk
  have hq := snext_any (fun R => R = b) _ sw1 x1 hlo (fun R hR => by rw [hR]; exact hk.lt)
  rw [sq_2.1, sq_2.2] at hq
  have HQ := Lib.hid hq
  clear hq hlo HV1
  have kc := HK.out.c
  clear hk
  go_wp2_with fail
  refine HQ.out.mono ?_
  clear HQ kc
  rintro e v1 ⟨v, rfl, hlo, hb⟩
  obtain ⟨p, n, c, xs, pp, m, cc, q, k, d, rfl, hcc, hoff⟩ := hlo
  have HKv := Lib.hid (HK.out.below hb)
  have HOv : Hid (Vo (fun R => R = b) v1 (.agg #[.slice p n c, .slice pp m cc, .int .i64 sw2.B.lost, .int .i64 sw2.words, .int .i64 sw2.span, .slice q k d]) sw2) := Lib.hid ⟨p, n, c, xs, pp, m, cc, q, k, d, rfl, hcc, hoff⟩
  have HWv : Hid (Below w.heap.size w v1) := Lib.hid (HW1.out.trans (hb.mono HW1.out.size))
  clear hb hcc hoff HK HW1
  have kc := HKv.out.c
  have kf := HKv.out.f
  have kl := HKv.out.lt
  go_upto_region 4 with fail
  rw [set6_eq]
  obtain ⟨x2, hx⟩ : ∃ x, x = set6 v1 b (.slice p n c) (.slice pp m cc) (.int .i64 sw2.B.lost) (.int .i64 sw2.words) (.int .i64 sw2.span) (.slice q k d) := ⟨_, rfl⟩
  have HV2 : Hid (VarV (fun R => R = b) x2 b sw2) := Lib.hid (by rw [hx]; exact VarV.put HKv.out HOv.out rfl)
  have HW2 : Hid (Below w.heap.size w x2) := Lib.hid (by rw [hx]; exact set6_below HWv.out HBG.out _ _ _ _ _ _)
  rw [← hx]
  clear hx kc kf kl HKv HOv HWv
  obtain ⟨p0, n0, c0, pp0, m0, cc0, q0, k0, d0, hk, hlo⟩ := HV2.out.vo
  have HK := Lib.hid hk
  have hq := swriteV_any (fun R => R = b) _ sw2 3 6 x2 hlo (fun R hR => by rw [hR]; exact hk.lt) (by decide)
  rw [sq_3.1, sq_3.2] at hq
  have HQ := Lib.hid hq
  clear hq hlo HV2
  have kc := HK.out.c
  clear hk
  go_wp2_with fail
  refine HQ.out.mono ?_
  clear HQ kc
  rintro e v2 ⟨v, rfl, hlo, hb⟩
  obtain ⟨p, n, c, xs, pp, m, cc, q, k, d, rfl, hcc, hoff⟩ := hlo
  have HKv := Lib.hid (HK.out.below hb)
  have HOv : Hid (Vo (fun R => R = b) v2 (.agg #[.slice p n c, .slice pp m cc, .int .i64 sw3.B.lost, .int .i64 sw3.words, .int .i64 sw3.span, .slice q k d]) sw3) := Lib.hid ⟨p, n, c, xs, pp, m, cc, q, k, d, rfl, hcc, hoff⟩
  have HWv : Hid (Below w.heap.size w v2) := Lib.hid (HW2.out.trans (hb.mono HW2.out.size))
  clear hb hcc hoff HK HW2
  have kc := HKv.out.c
  have kf := HKv.out.f
  have kl := HKv.out.lt
  go_upto_region 5 with fail
  rw [set6_eq]
  obtain ⟨x3, hx⟩ : ∃ x, x = set6 v2 b (.slice p n c) (.slice pp m cc) (.int .i64 sw3.B.lost) (.int .i64 sw3.words) (.int .i64 sw3.span) (.slice q k d) := ⟨_, rfl⟩
  have HV3 : Hid (VarV (fun R => R = b) x3 b sw3) := Lib.hid (by rw [hx]; exact VarV.put HKv.out HOv.out rfl)
  have HW3 : Hid (Below w.heap.size w x3) := Lib.hid (by rw [hx]; exact set6_below HWv.out HBG.out _ _ _ _ _ _)
  rw [← hx]
  clear hx kc kf kl HKv HOv HWv
  obtain ⟨p0, n0, c0, pp0, m0, cc0, q0, k0, d0, hk, hlo⟩ := HV3.out.vo
  have hq := slose_any (fun _ => False) _ sw3 1 x3 hlo (fun _ h => h.elim)
  rw [sq_4.1, sq_4.2] at hq
  have HQ := Lib.hid hq
  have kc := hk.c
  clear hq hlo hk
  go_wp2_with fail
  refine HQ.out.mono ?_
  clear HQ kc
  rintro e v3 ⟨v, rfl, hlo, hb⟩
  obtain ⟨p, n, c, xs, pp, m, cc, q, k, d, rfl, hcc, hoff⟩ := hlo
  have HOv : Hid (Vo (fun _ => False) v3 (.agg #[.slice p n c, .slice pp m cc, .int .i64 sw4.B.lost, .int .i64 sw4.words, .int .i64 sw4.span, .slice q k d]) sw4) := Lib.hid ⟨p, n, c, xs, pp, m, cc, q, k, d, rfl, hcc, fun _ h => h.elim⟩
  have HBv := Lib.hid hb
  have HWv : Hid (Below w.heap.size w v3) := Lib.hid (HW3.out.trans (hb.mono HW3.out.size))
  clear hb hcc hoff
  go_upto_region 6 with fail
  obtain ⟨bl, hbe⟩ : ∃ y, y = v3.heap.size := ⟨_, rfl⟩
  obtain ⟨x4, hx⟩ : ∃ x, x = v3.alloc (.cells #[.slice p n c, .slice pp m cc, .int .i64 sw4.B.lost, .int .i64 sw4.words, .int .i64 sw4.span, .slice q k d] 28) := ⟨_, rfl⟩
  have HF4 : Hid (VarV (fun _ => False) x4 bl sw4) := Lib.hid (by rw [hx, hbe]; exact VarV.new _ HOv.out)
  have HW4 : Hid (Below w.heap.size w x4) := Lib.hid (by rw [hx]; exact HWv.out.alloc HWv.out.size _)
  have HV4 : Hid (VarV (fun R => R = b) x4 b sw3) := Lib.hid (by rw [hx]; exact HV3.out.below (HBv.out.alloc HBv.out.size _))
  rw [← hx, ← hbe]
  clear hx hbe HOv HBv HWv HW3 HV3
  obtain ⟨p0, n0, c0, pp0, m0, cc0, q0, k0, d0, hk, hlo⟩ := HF4.out.vo
  have hq := sreb_any (fun _ => False) _ sw4 x4 hlo (fun _ h => h.elim)
  rw [sq_5.1, sq_5.2] at hq
  have HQ := Lib.hid hq
  have kc := hk.c
  clear hq hlo hk
  go_wp2_with fail
  refine HQ.out.mono ?_
  clear HQ kc
  rintro e v4 ⟨v, rfl, hlo, hb⟩
  obtain ⟨p, n, c, xs, pp, m, cc, q, k, d, rfl, hcc, hoff⟩ := hlo
  have HOv : Hid (Vo (fun _ => False) v4 (.agg #[.slice p n c, .slice pp m cc, .int .i64 sw3.B.lost, .int .i64 sw3.words, .int .i64 sw3.span, .slice q k d]) sw3) := Lib.hid ⟨p, n, c, xs, pp, m, cc, q, k, d, rfl, hcc, fun _ h => h.elim⟩
  have HBv := Lib.hid hb
  have HWv : Hid (Below w.heap.size w v4) := Lib.hid (HW4.out.trans (hb.mono HW4.out.size))
  clear hb hcc hoff
  go_upto_region 7 with fail
  obtain ⟨br, hbe⟩ : ∃ y, y = v4.heap.size := ⟨_, rfl⟩
  obtain ⟨x5, hx⟩ : ∃ x, x = v4.alloc (.cells #[.slice p n c, .slice pp m cc, .int .i64 sw3.B.lost, .int .i64 sw3.words, .int .i64 sw3.span, .slice q k d] 28) := ⟨_, rfl⟩
  have HF5 : Hid (VarV (fun _ => False) x5 br sw3) := Lib.hid (by rw [hx, hbe]; exact VarV.new _ HOv.out)
  have HW5 : Hid (Below w.heap.size w x5) := Lib.hid (by rw [hx]; exact HWv.out.alloc HWv.out.size _)
  have HV5 : Hid (VarV (fun R => R = b) x5 b sw3) := Lib.hid (by rw [hx]; exact HV4.out.below (HBv.out.alloc HBv.out.size _))
  rw [← hx, ← hbe]
  clear hx hbe HOv HBv HWv HW4 HV4 HF4
  obtain ⟨p0, n0, c0, pp0, m0, cc0, q0, k0, d0, hk, hlo⟩ := HF5.out.vo
  have hq := sback_any (fun _ => False) _ sw3 1 x5 hlo (fun _ h => h.elim)
  rw [sq_6.1, sq_6.2] at hq
  have HQ := Lib.hid hq
  have kc := hk.c
  clear hq hlo hk
  go_wp2_with fail
  refine HQ.out.mono ?_
  clear HQ kc
  rintro e v5 ⟨v, rfl, hlo, hb⟩
  obtain ⟨p, n, c, xs, pp, m, cc, q, k, d, rfl, hcc, hoff⟩ := hlo
  have HOv : Hid (Vo (fun _ => False) v5 (.agg #[.slice p n c, .slice pp m cc, .int .i64 sw2.B.lost, .int .i64 sw2.words, .int .i64 sw2.span, .slice q k d]) sw2) := Lib.hid ⟨p, n, c, xs, pp, m, cc, q, k, d, rfl, hcc, fun _ h => h.elim⟩
  have HBv := Lib.hid hb
  have HWv : Hid (Below w.heap.size w v5) := Lib.hid (HW5.out.trans (hb.mono HW5.out.size))
  clear hb hcc hoff
  go_upto_region 8 with fail
  obtain ⟨bb, hbe⟩ : ∃ y, y = v5.heap.size := ⟨_, rfl⟩
  obtain ⟨x6, hx⟩ : ∃ x, x = v5.alloc (.cells #[.slice p n c, .slice pp m cc, .int .i64 sw2.B.lost, .int .i64 sw2.words, .int .i64 sw2.span, .slice q k d] 28) := ⟨_, rfl⟩
  have HF6 : Hid (VarV (fun _ => False) x6 bb sw2) := Lib.hid (by rw [hx, hbe]; exact VarV.new _ HOv.out)
  have HW6 : Hid (Below w.heap.size w x6) := Lib.hid (by rw [hx]; exact HWv.out.alloc HWv.out.size _)
  have HV6 : Hid (VarV (fun R => R = b) x6 b sw3) := Lib.hid (by rw [hx]; exact HV5.out.below (HBv.out.alloc HBv.out.size _))
  rw [← hx, ← hbe]
  clear hx hbe HOv HBv HWv HW5 HV5 HF5
  obtain ⟨p0, n0, c0, pp0, m0, cc0, q0, k0, d0, hk, hlo⟩ := HF6.out.vo
  have hq := sreadV_any _ _ sw2 3 x6 hlo
  rw [sq_7.1, sq_7.2] at hq
  have HQ := Lib.hid hq
  have kc := hk.c
  clear hq hlo hk HF6
  go_wp2_with fail
  refine HQ.out.mono ?_
  clear HQ kc
  rintro e x7 ⟨rfl, hb⟩
  have HV7 := Lib.hid (HV6.out.below hb)
  have HW7 : Hid (Below w.heap.size w x7) := Lib.hid (HW6.out.trans (hb.mono HW6.out.size))
  clear hb HV6 HW6
  obtain ⟨p, n, c, xs, pp, m, cc, q, k, d, hk, hvc, -⟩ := HV7.out
  have HQ := Lib.hid (swords_any (fun _ => False) _ sw3 x7 ⟨p, n, c, xs, pp, m, cc, q, k, d, rfl, hvc, fun _ h => h.elim⟩)
  have HK := Lib.hid hk
  have HVC := Lib.hid hvc
  have kc := hk.c
  clear hk hvc HV7
  go_wp2_with fail
  refine HQ.out.mono ?_
  rintro e x8 ⟨r, rfl, hr, hb⟩
  rw [sq_8] at hr
  obtain ⟨pw, cw, rfl, -⟩ := own_cap hr
  have HW8 : Hid (Below w.heap.size w x8) := Lib.hid (HW7.out.trans (hb.mono HW7.out.size))
  have kc2 := (HK.out.below hb).c
  have hrow := (HVC.out.bn.rw_.below hb)
  obtain ⟨bq, off, qr, xr, c2, rfl, hra⟩ := hrow.rowAt 1 (by decide)
  obtain ⟨b3, off3, hb3, rfl, hc3⟩ := hra.nm.cellAt 1 (by decide)
  have hxr : xr = 2 := hra.len.symm
  subst hxr
  have hc1 := hra.cell
  have hn2 : n = 2 := HVC.out.bn.zn.symm
  subst hn2
  have hc4 : x8.cell? ⟨b3, off3 + 1, none⟩ = some (.int .u32 6) := hc3
  clear hb hr HQ HK HVC kc hrow hra hc3 HW7
  go_wp2_with fail
  go_ret
  exact ⟨rfl, HW8.out⟩
end Go.Proofs.Ytflakmabciokbaa
/- StoreSurvives: what its walk carries along; no condition. -/
namespace Go.Proofs.Ytflakmabciokbaa
set_option linter.unusedVariables false
open Go.ChangeShapes Go.WideShapes Go.ChangeAt Go.RowKit

structure InvS (n bn mm : Nat) (V : Vt) (f sp : Nat) (Ws : List (List Int)) (k : Nat) : Prop where
  rv : Rv V n bn mm
  l0 : V.B.lost = 0
  inv : Ud.Inv n (lgV V) f sp Ws k
theorem rv_words {V : Vt} {n b m : Nat} (h : Rv V n b m) : wordsV V = (lgV V).mem := by
  unfold wordsV
  rw [h.ok, if_pos rfl]
  rfl
theorem InvS.wl {n bn mm : Nat} {V : Vt} {f sp : Nat} {Ws : List (List Int)} {k : Nat} (h : InvS n bn mm V f sp Ws k) : (wordsV V).length = n := by rw [rv_words h.rv, h.rv.ml]
theorem InvS.spv {n bn mm : Nat} {V : Vt} {f sp : Nat} {Ws : List (List Int)} {k : Nat} (h : InvS n bn mm V f sp Ws k) : V.span = (sp : Int) := h.inv.sp_
theorem InvS.new {n b : Nat} (hn : 1 ≤ n ∧ n ≤ 64) (hb : 1 ≤ b ∧ b ≤ 8) : newVE n b = 0 ∧ InvS n b ((n - 1) / b + 1) (newV n b) 0 0 [wordsV (newV n b)] 0 := by
  obtain ⟨h1, h2, h3, h4, h5, h6, h7⟩ := new_rv hn hb
  refine ⟨h2, h4, h5, ?_⟩
  have h8 := Ud.Inv.new hn.1 hn.2
  rw [rv_words h4, h1, (Ud.rt_new hn.1 hn.2).1]
  exact h8
theorem InvS.more {n bn mm : Nat} {V : Vt} {f sp : Nat} {Ws : List (List Int)} {k : Nat} (h : InvS n bn mm V f sp Ws k) : InvS n bn mm V f sp Ws (k + 1) := by
  have h1 := h.inv.spk
  have h2 := h.inv.lk
  exact ⟨h.rv, h.l0, ⟨h.inv.rt, h.inv.ml, h.inv.sp_, by omega, h.inv.fsp, by omega, h.inv.wl, h.inv.was⟩⟩
theorem InvS.write {n bn mm : Nat} {V : Vt} {f sp : Nat} {Ws : List (List Int)} {k : Nat} (h : InvS n bn mm V f sp Ws k) (hk : k < 100) {a : Nat} (ha : a < n) (v : Nat) : writeVE V a = 0 ∧ InvS n bn mm (writeV V a v) f sp Ws (k + 1) := by
  obtain ⟨h1, h2, h3, h4⟩ := h.rv.write h.l0 ha (v := (v : Int)) (by omega)
  obtain ⟨g1, g2, g3⟩ := h.inv.write hk ha (v : Int)
  refine ⟨by rw [h2, g1], h3, h4, ?_⟩
  rw [h1]; exact g3
theorem InvS.next {n bn mm : Nat} {V : Vt} {f sp : Nat} {Ws : List (List Int)} {k : Nat} (h : InvS n bn mm V f sp Ws k) (hk : k < 100) : nextVE V = 0 ∧ wordsV (nextV V) = wordsV V ∧ InvS n bn mm (nextV V) f (sp + 1) (Ws.take (sp + 1) ++ [wordsV V]) (k + 1) := by
  obtain ⟨h1, h2, h3, h4⟩ := h.rv.next
  obtain ⟨g1, g2, g3⟩ := h.inv.next hk
  refine ⟨by rw [h2, g1], ?_, h3, by rw [h4]; exact h.l0, ?_⟩
  · rw [rv_words h3, rv_words h.rv, h1, g2]
  · rw [h1, rv_words h.rv]; exact g3
theorem InvS.back {n bn mm : Nat} {V : Vt} {f sp : Nat} {Ws : List (List Int)} {k : Nat} (h : InvS n bn mm V f sp Ws k) (hu : U32 V.list) {t : Nat} (h1 : f ≤ t) (h2 : t ≤ sp) : backVE V t = 0 ∧ (backV V t).span = (t : Int) ∧ wordsV (backV V t) = Ws.getD t [] ∧ InvS n bn mm (backV V t) f t Ws (k + 1) := by
  obtain ⟨a1, a2, a3, a4⟩ := h.rv.back h.l0 hu (t : Int)
  obtain ⟨g1, g2, g3, g4⟩ := h.inv.back h1 h2
  refine ⟨by rw [a2, g1], ?_, ?_, a3, a4, ?_⟩
  · have : (lgV (backV V t)).span = (t : Int) := by rw [a1]; exact g2
    exact this
  · rw [rv_words a3, a1]; exact g3
  · rw [a1]; exact g4
theorem InvS.trim {n bn mm : Nat} {V : Vt} {f sp : Nat} {Ws : List (List Int)} {k : Nat} (h : InvS n bn mm V f sp Ws k) {t : Nat} (h1 : f ≤ t) (h2 : t ≤ sp) : trimVE V t = 0 ∧ wordsV (trimV V t) = wordsV V ∧ InvS n bn mm (trimV V t) t sp Ws (k + 1) := by
  obtain ⟨a1, a2, a3, a4⟩ := h.rv.trim (t : Int)
  obtain ⟨g1, g2, g3, g4⟩ := h.inv.trim h1 h2
  refine ⟨by rw [a2, g1], ?_, a3, by rw [a4]; exact h.l0, ?_⟩
  · rw [rv_words a3, rv_words h.rv, a1]; exact g2
  · rw [a1]; exact g4
theorem InvS.lose {n bn mm : Nat} {V : Vt} {f sp : Nat} {Ws : List (List Int)} {k : Nat} (h : InvS n bn mm V f sp Ws k) {j : Nat} (hj : j < bn) : loseVE V j = 0 ∧ writeVE (loseV V j) 0 = 8 ∧ backVE (loseV V j) f = 8 ∧ rebV (loseV V j) = V ∧ rebVE (loseV V j) = 0 := by
  obtain ⟨h1, h2, h3, h4, h5, h6⟩ := h.rv.gone h.l0 hj
  have hn := h.rv.n1
  have hw : (loseV V j).words = (n : Int) := by rw [h1]; exact h.rv.w
  have hs : (loseV V j).span = (sp : Int) := by rw [h1]; exact h.spv
  have hf := h.inv.fsp
  refine ⟨h2, ?_, ?_, h5, h6⟩
  · unfold writeVE okA
    rw [h3, hw, decide_eq_true (show (0 : Int) ≤ 0 ∧ (0 : Int) < (n : Int) by omega), if_neg h4]
    rfl
  · unfold backVE okS
    rw [h3, hs, decide_eq_true (show (0 : Int) ≤ (f : Int) ∧ (f : Int) ≤ (sp : Int) by omega), if_neg h4]
    rfl
/-- The walk's state. -/
structure UBV (w W : World) (b : Nat) (V : Vt) (q : Option Addr) (n N c : Nat) (xs : List Value) (Ws : List (List Int)) : Prop where
  var : VarV (fun R => R = b) W b V
  was : Ud.Was b W q n N c xs Ws
  hb : Below w.heap.size w W
  ge : w.heap.size ≤ b
theorem UBV.below {w W W' : World} {b : Nat} {V : Vt} {q : Option Addr} {n N c : Nat} {xs : List Value} {Ws : List (List Int)} (h : UBV w W b V q n N c xs Ws) (hb : Below W.heap.size W W') : UBV w W' b V q n N c xs Ws :=
  ⟨h.var.below hb, h.was.below hb, h.hb.trans (hb.mono h.hb.size), h.ge⟩
theorem was_set6 {W : World} {b : Nat} {q : Option Addr} {n N c : Nat} {xs : List Value} {Ws : List (List Int)} (h : Ud.Was b W q n N c xs Ws) (u0 u1 u2 u3 u4 u5 : Value) : Ud.Was b (set6 W b u0 u1 u2 u3 u4 u5) q n N c xs Ws := (((((h.set 0 u0).set 1 u1).set 2 u2).set 3 u3).set 4 u4).set 5 u5
theorem UBV.put {w W : World} {b : Nat} {V V' : Vt} {q : Option Addr} {n N c : Nat} {xs : List Value} {Ws : List (List Int)} (h : UBV w W b V q n N c xs Ws) {u0 u1 u2 u3 u4 u5 : Value} (hl : Vo (fun R => R = b) W (.agg #[u0, u1, u2, u3, u4, u5]) V') :
    UBV w (set6 W b u0 u1 u2 u3 u4 u5) b V' q n N c xs Ws := by
  obtain ⟨p, n', c', xs', pp, m, cc, q', k, d, hk, _⟩ := h.var
  exact ⟨VarV.put hk hl rfl, was_set6 h.was _ _ _ _ _ _, set6_below h.hb h.ge _ _ _ _ _ _, h.ge⟩
theorem UBV.u32 {w W : World} {b : Nat} {V : Vt} {q : Option Addr} {n N c : Nat} {xs : List Value} {Ws : List (List Int)} (h : UBV w W b V q n N c xs Ws) : U32 V.list := by
  obtain ⟨p, n', c', xs', pp, m, cc, q', k, d, hk, hv, _⟩ := h.var
  exact hv.u32
theorem sl_holdsV {w : World} {q : Option Addr} {n : Nat} {xs : List Value} (h : Sl w q n xs) (h0 : 0 < n) : ∀ g, q = some g → ∀ j u, xs[j]? = some u → w.cell? (g.add j) = some u := fun g e j u hj => by
  obtain ⟨b, off, _, h2, h3⟩ := h h0
  rw [h2] at e
  injection e with e
  subst e
  have hl : j < xs.length := by
    rcases Nat.lt_or_ge j xs.length with h | h
    · exact h
    · rw [List.getElem?_eq_none h] at hj; cases hj
  have := h3 j hl
  rw [hj] at this
  rw [show (⟨b, off, none⟩ : Addr).add j = ⟨b, off + j, none⟩ by simp [Addr.add]]
  exact this
theorem wrap_succ (sp : Nat) (h : sp ≤ 1000) : IntKind.i64.wrap ((sp : Int) + 1) = ((sp + 1 : Nat) : Int) ∧ wrap64 ((sp : Int) + 1) = ((sp + 1 : Nat) : Int) :=
  ⟨by rw [IntKind.wrap_i64]; omega, by unfold wrap64; omega⟩
theorem kn_le {sp a N : Nat} (h1 : sp + 1 ≤ a) (h2 : a = N) : sp + 1 ≤ N := h2 ▸ h1
/-- t's variable: the store that a call answered, behind the round's begin. -/
def TV (b : Nat) (w0 w : World) (bt : Nat) (V : Vt) : Prop := VarV (fun R => R = b) w bt V ∧ w0.heap.size ≤ bt ∧ Below w0.heap.size w0 w
theorem TV.put {b : Nat} {w0 w5 w6 : World} {bt : Nat} {V : Vt} {a0 a1 a2 a3 a4 a5 u0 u1 u2 u3 u4 u5 : Value} (hk : Blk w5 bt #[a0, a1, a2, a3, a4, a5]) (h05 : Below w0.heap.size w0 w5) (hge : w0.heap.size ≤ bt) (hb : Below w5.heap.size w5 w6) (hl : Vo (fun R => R < w5.heap.size) w6 (.agg #[u0, u1, u2, u3, u4, u5]) V) (hbl : b < w5.heap.size) :
    TV b w0 (set6 w6 bt u0 u1 u2 u3 u4 u5) bt V :=
  ⟨(VarV.put (hk.below hb) hl hk.lt).later (fun R hR => .inl (by rw [hR]; exact hbl)), hge, set6_below (h05.trans (hb.mono h05.size)) hge _ _ _ _ _ _⟩
theorem TV.below {b : Nat} {w0 w W : World} {bt : Nat} {V : Vt} (h : TV b w0 w bt V) (hb : Below w.heap.size w W) : TV b w0 W bt V := ⟨h.1.below hb, h.2.1, h.2.2.trans (hb.mono h.2.2.size)⟩
end Go.Proofs.Ytflakmabciokbaa
