/- Laid together, in this order: PgEd, PgEe, PgEf, PgEg, PgOpen. -/
import Derived.Test.YtmeomdfmljanhaaGreatZj
import Derived.OpenShut
import Derived.ProofKit
import Derived.Deep.Slices
/- New. -/
namespace Go.Proofs.YtmeomdfmljanhaaGreat.Pg
set_option linter.unusedVariables false
open Go.ChangeShapes Go.WideShapes Go.ChangeAt Go.RowKit

/-- New's act within its region. -/
def nAct (c l R : Nat) (X : Nat → Value) : Act := { tmps := #[Value.int .i64 c, Value.int .i64 l, undef, undef, Value.pointer (some ⟨R, 0, none⟩), Value.int .i64 0, X 6, undef, Value.int .i64 c, Value.int .i64 l, Value.bool true, Value.bool false, undef, Value.int .i64 c, Value.int .i64 l, X 0, Value.int .i64 c, Value.int .i64 l, X 1, Value.int .i64 c, X 2, Value.int .i64 l, X 3, Value.int .i64 l, X 4, Value.int .i64 l, X 5, X 7, undef, undef, undef, undef, undef, undef, undef, undef, undef, undef, undef, undef, undef, undef, undef, undef, undef], defers := [] }

theorem NS.sv {wr W : World} {c l m R : Nat} {lo hi : Nat → Nat} {p0 p1 p2 p3 p4 p5 : Pa} {y0 y1 : List Value} {A : Tg → Pa} (h : NS wr c l l m lo hi (.slice (some ⟨p0.b, p0.o, none⟩) c p0.c) (.slice (some ⟨p1.b, p1.o, none⟩) c p1.c) (.slice (some ⟨p2.b, p2.o, none⟩) c p2.c) (.slice (some ⟨p3.b, p3.o, none⟩) l p3.c) (.slice (some ⟨p4.b, p4.o, none⟩) l p4.c) (.slice (some ⟨p5.b, p5.o, none⟩) l p5.c) y0 y1 A) (hc1 : 1 ≤ c) (hc4 : c ≤ 4) (hl1 : 1 ≤ l) (hl16 : l ≤ 16) (hR : ∀ q, q < 6 → R < lo q) (hm : R < m)
    (hw : W = ((((((wr.setCell ⟨R, 0, none⟩ (.slice (some ⟨p0.b, p0.o, none⟩) c p0.c)).setCell ⟨R, 1, none⟩ (.slice (some ⟨p1.b, p1.o, none⟩) c p1.c)).setCell ⟨R, 2, none⟩ (.slice (some ⟨p2.b, p2.o, none⟩) c p2.c)).setCell ⟨R, 3, none⟩ (.slice (some ⟨p3.b, p3.o, none⟩) l p3.c)).setCell ⟨R, 4, none⟩ (.slice (some ⟨p4.b, p4.o, none⟩) l p4.c)).setCell ⟨R, 5, none⟩ (.slice (some ⟨p5.b, p5.o, none⟩) l p5.c)).setCell ⟨R, 6, none⟩ (.slice none 0 0)) : Sv W (.agg #[.slice (some ⟨p0.b, p0.o, none⟩) c p0.c, .slice (some ⟨p1.b, p1.o, none⟩) c p1.c, .slice (some ⟨p2.b, p2.o, none⟩) c p2.c, .slice (some ⟨p3.b, p3.o, none⟩) l p3.c, .slice (some ⟨p4.b, p4.o, none⟩) l p4.c, .slice (some ⟨p5.b, p5.o, none⟩) l p5.c, .slice none 0 0]) c l ⟨fun _ _ => 0, fun _ _ => 0, fun _ => Pr.Wt.none, fun _ => 0, fun _ => 0, fun _ _ => false, fun _ => 0⟩ [] := by
  have hq : ∀ q, q < 6 → R < lo q ∨ hi q ≤ R := fun q hq => .inl (hR q hq)
  have h7 : NS W c l l m lo hi (.slice (some ⟨p0.b, p0.o, none⟩) c p0.c) (.slice (some ⟨p1.b, p1.o, none⟩) c p1.c) (.slice (some ⟨p2.b, p2.o, none⟩) c p2.c) (.slice (some ⟨p3.b, p3.o, none⟩) l p3.c) (.slice (some ⟨p4.b, p4.o, none⟩) l p4.c) (.slice (some ⟨p5.b, p5.o, none⟩) l p5.c) y0 y1 A := by
    rw [hw]
    exact ((((((h.set hq hm 0 _).set hq hm 1 _).set hq hm 2 _).set hq hm 3 _).set hq hm 4 _).set hq hm 5 _).set hq hm 6 _
  exact ⟨_, none, 0, [], rfl, (h7.mem hc1 hc4 hl1 hl16).1, Pl.nil _ _⟩

set_option maxHeartbeats 4000000 in
set_option maxRecDepth 100000 in
theorem new_ok (c l : Nat) (w : World) (hc1 : 1 ≤ c) (hc4 : c ≤ 4) (hl1 : 1 ≤ l) (hl4 : l ≤ 4) :
    Calls Tryz.prog 23 #[.int .i64 c, .int .i64 l] w fun e w' => ∃ Y : Pr.Sy, (∀ k, (Y.li k).last = 0) ∧ OutZ w w' e c l ⟨⟨fun _ _ => 0, fun _ _ => 0, fun _ => Pr.Wt.none, fun _ => 0, fun _ => 0, fun _ _ => false, fun _ => 0⟩, [], Y⟩ 0 := by
  have HM := Lib.hid (fun W => mayBe_t c l W hc1 hc4 hl1 (by omega))
  have HN := Lib.hid (fun W => Di.new_any c W)
  have HNC : Hid (Di.newC c = ⟨0, List.replicate c false⟩ ∧ Di.newX c = 0) := Lib.hid (by
    have e : Di.mayN (c : Int) = true := Di.mayN_iff.2 ⟨by omega, by omega⟩
    constructor
    · unfold Di.newC; rw [e, if_pos rfl, Int.toNat_natCast]
    · unfold Di.newX; rw [e, if_pos rfl])
  obtain ⟨R, hR⟩ : ∃ R, R = w.heap.size := ⟨_, rfl⟩
  obtain ⟨w1, hw1⟩ : ∃ w1, w1 = w.alloc (.cells #[.slice none 0 0, .slice none 0 0, .slice none 0 0, .slice none 0 0, .slice none 0 0, .slice none 0 0, .slice none 0 0] 32) := ⟨_, rfl⟩
  have HB1 : Hid (Below w.heap.size w w1) := Lib.hid (by rw [hw1]; exact (Below.refl _ _).alloc (Nat.le_refl _) _)
  have HKR : Hid (Blk w1 R #[.slice none 0 0, .slice none 0 0, .slice none 0 0, .slice none 0 0, .slice none 0 0, .slice none 0 0, .slice none 0 0]) := Lib.hid (by rw [hw1, hR]; exact Blk.new _ _ _)
  have HKR1 := Lib.hid HKR.out
  have HB0 := Lib.hid HB1.out
  have HW1 := Lib.hid hw1
  have HRR := Lib.hid hR
  clear hw1 hR
  go_enter Tryz.func23, Tryz.ntmps23
  go_upto_region 1 with fail
  rw [← HRR.out, ← HW1.out]
  go_wp2_with fail
  refine (HM.out w1).mono ?_
  rintro e w2 ⟨rfl, e2⟩
  rw [e2]
  clear e2
  go_upto_region 3 with fail
  refine region_free (fun _ => True) (fun bs a v => ∃ X : Nat → Value, a = nAct c l R X ∧ NI w1 c l bs X v) (fun j bs => if j = 7 then (List.range 6).all (fun k => bs[k]? == some true) else true) [0, 1, 3, 4, 6, 8, 10, 12] [2, 5, 7, 9, 11, 13, 15, 14] (.one 16 .stop) (by kernel_rfl) (by kernel_rfl) trivial ?hop ?hdone ?hreads
  case hreads =>
    iterate 8
      refine reads_step (v := ?_) rfl (by rfl) ?_ ?_
      rotate_left
      · intro w' hS
        go_simp
        try with_reducible rfl
      try simp only [Act.put, List.setIfInBounds_toArray, List.set_cons_zero, List.set_cons_succ, List.getElem_toArray, List.getElem_cons_zero, List.getElem_cons_succ]
    exact ⟨trivial, fun _ => undef, rfl, NI.begin w1 c l _⟩
  case hop =>
    intro j i bs a v hj hl hb hok _ hI
    obtain ⟨X, ea, hni⟩ := hI
    subst ea
    have hj8 : j < 8 := (List.getElem?_eq_some_iff.1 hj).1
    rcases (by omega : j = 0 ∨ j = 1 ∨ j = 2 ∨ j = 3 ∨ j = 4 ∨ j = 5 ∨ j = 6 ∨ j = 7) with x | x | x | x | x | x | x | x
    · subst x
      have e : 2 = i := by injection hj
      subst e
      refine op_call (F := 58) (args := #[.int .i64 c, .int .i64 l]) rfl (by rfl) (by unfold nAct; go_simp) ?_
      refine (rows_int c l v hc1 (by omega) hl1 (by omega)).mono ?_
      rintro e v2 ⟨u, ys, rfl, ho, hb2⟩
      exact ⟨u, rfl, trivial, updV X 0 u, rfl, hni.step hb (by omega) hb2 ⟨ys, fun W hW => (GR.of ho).below hW⟩⟩
    · subst x
      have e : 5 = i := by injection hj
      subst e
      refine op_call (F := 59) (args := #[.int .i64 c, .int .i64 l]) rfl (by rfl) (by unfold nAct; go_simp) ?_
      refine (rows_u32 c l v hc1 (by omega) hl1 (by omega)).mono ?_
      rintro e v2 ⟨u, ys, rfl, ho, hb2⟩
      exact ⟨u, rfl, trivial, updV X 1 u, rfl, hni.step hb (by omega) hb2 ⟨ys, fun W hW => (GR.of ho).below hW⟩⟩
    · subst x
      have e : 7 = i := by injection hj
      subst e
      obtain ⟨ii, hi0, hi1, hi2, hi3⟩ := info_parts infoWt
      refine op_make (v := .slice (some ⟨v.heap.size, 0, none⟩) c c) (w1 := v.alloc (.cells (madeCells #[.int .i64 0, .bool false, .bool false, .bool false, .bool false, .bool false, .int .i64 0, .int .i64 0, .int .u32 0] (c * 9)) 86)) rfl (by rfl) (mk_run (T := 24) (E := 86) (i := ii) Tryz.underlying24 hi0 hi1 hi2 hi3 (by omega) c (by omega) v rfl rfl rfl) ?_
      have hb2 : Below v.heap.size v (v.alloc (.cells (madeCells #[.int .i64 0, .bool false, .bool false, .bool false, .bool false, .bool false, .int .i64 0, .int .i64 0, .int .u32 0] (c * 9)) 86)) := (Below.refl _ _).alloc (Nat.le_refl _) _
      refine ⟨trivial, updV X 2 _, rfl, hni.step hb (by omega) hb2 ?_⟩
      exact fun W hW => (GO.of (World.ownsRow_lit v _ c (Nat.le_refl _) (by unfold maxLen; omega) (size_madeCells _ _))).below hW
    · subst x
      have e : 9 = i := by injection hj
      subst e
      obtain ⟨ii, hi0, hi1, hi2, hi3⟩ := info_parts zinfo_rows_u322
      refine op_make (v := .slice (some ⟨v.heap.size, 0, none⟩) l l) (w1 := v.alloc (.cells (madeCells #[.int .u32 0] (l * 1)) 33)) rfl (by rfl) (mk_run (T := 25) (E := 33) (i := ii) Tryz.underlying25 hi0 hi1 hi2 hi3 (by omega) l (by omega) v rfl rfl rfl) ?_
      have hb2 : Below v.heap.size v (v.alloc (.cells (madeCells #[.int .u32 0] (l * 1)) 33)) := (Below.refl _ _).alloc (Nat.le_refl _) _
      refine ⟨trivial, updV X 3 _, rfl, hni.step hb (by omega) hb2 ?_⟩
      exact fun W hW => (GO.of (World.ownsRow_lit v _ l (Nat.le_refl _) (by unfold maxLen; omega) (size_madeCells _ _))).below hW
    · subst x
      have e : 11 = i := by injection hj
      subst e
      obtain ⟨ii, hi0, hi1, hi2, hi3⟩ := info_parts infoEn
      refine op_make (v := .slice (some ⟨v.heap.size, 0, none⟩) l l) (w1 := v.alloc (.cells (madeCells #[.int .i64 0, .slice none 0 0] (l * 2)) 65)) rfl (by rfl) (mk_run (T := 26) (E := 65) (i := ii) Tryz.underlying26 hi0 hi1 hi2 hi3 (by omega) l (by omega) v rfl rfl rfl) ?_
      have hb2 : Below v.heap.size v (v.alloc (.cells (madeCells #[.int .i64 0, .slice none 0 0] (l * 2)) 65)) := (Below.refl _ _).alloc (Nat.le_refl _) _
      refine ⟨trivial, updV X 4 _, rfl, hni.step hb (by omega) hb2 ?_⟩
      exact fun W hW => (GO.of (World.ownsRow_lit v _ l (Nat.le_refl _) (by unfold maxLen; omega) (size_madeCells _ _))).below hW
    · subst x
      have e : 13 = i := by injection hj
      subst e
      obtain ⟨ii, hi0, hi1, hi2, hi3⟩ := info_parts zinfo_rows_int2
      refine op_make (v := .slice (some ⟨v.heap.size, 0, none⟩) l l) (w1 := v.alloc (.cells (madeCells #[.int .i64 0] (l * 1)) 3)) rfl (by rfl) (mk_run (T := 27) (E := 3) (i := ii) Tryz.underlying27 hi0 hi1 hi2 hi3 (by omega) l (by omega) v rfl rfl rfl) ?_
      have hb2 : Below v.heap.size v (v.alloc (.cells (madeCells #[.int .i64 0] (l * 1)) 3)) := (Below.refl _ _).alloc (Nat.le_refl _) _
      refine ⟨trivial, updV X 5 _, rfl, hni.step hb (by omega) hb2 ?_⟩
      exact fun W hW => (GO.of (World.ownsRow_lit v _ l (Nat.le_refl _) (by unfold maxLen; omega) (size_madeCells _ _))).below hW
    · subst x
      have e : 15 = i := by injection hj
      subst e
      refine op_make (v := .pointer (some ⟨v.heap.size, 0, none⟩)) (w1 := v.alloc (.cells #[.slice none 0 0, .slice none 0 0, .slice none 0 0, .slice none 0 0, .slice none 0 0, .slice none 0 0, .slice none 0 0] 32)) rfl (by rfl) (by unfold nAct; go_simp) ?_
      have hb2 : Below v.heap.size v (v.alloc (.cells #[.slice none 0 0, .slice none 0 0, .slice none 0 0, .slice none 0 0, .slice none 0 0, .slice none 0 0, .slice none 0 0] 32)) := (Below.refl _ _).alloc (Nat.le_refl _) _
      exact ⟨trivial, updV X 6 _, rfl, hni.step hb (by omega) hb2 ⟨v.heap.size, rfl, Nat.le_refl _, by simp, fun W hW => (Blk.new v _ _).below hW⟩⟩
    · subst x
      have e : 14 = i := by injection hj
      subst e
      have ha : ∀ j, j < 6 → bs[j]? = some true := fun j hj => by
        rw [if_pos rfl, List.all_eq_true] at hok
        have := hok j (List.mem_range.2 hj)
        simpa using this
      obtain ⟨p0, p1, p2, p3, p4, p5, e0, e1, e2, e3, e4, e5⟩ := hni.forms ha hc1 hl1
      refine op_make (v := .agg #[X 0, X 1, X 2, X 3, X 4, X 5, .slice none 0 0]) (w1 := v) rfl (by rfl) (by unfold nAct; rw [e0, e1, e2, e3, e4, e5]; unfold Pa.sl; go_simp) ?_
      exact ⟨trivial, updV X 7 _, rfl, hni.built hb ha⟩
  case hdone =>
    intro a v _ hI
    obtain ⟨X, ea, hni⟩ := hI
    subst ea
    have hb1 := hni.hb
    obtain ⟨lo, hi, y0, y1, B, hlh, e6, e7, hB1, hB2, hBq, ⟨p0, p1, p2, p3, p4, p5, e0, e1, e2, e3, e4, e5⟩, hK⟩ := hni.done hc1 hl1
    unfold nAct
    rw [e7, e6, e0, e1, e2, e3, e4, e5]
    rw [e0, e1, e2, e3, e4, e5] at hK
    simp only [Pa.sl] at hK ⊢
    have HK := Lib.hid hK
    have HLH := Lib.hid hlh
    have HBQ := Lib.hid hBq
    have HKR2 := Lib.hid (HKR.out.below hb1)
    have HBV : Hid (Below w.heap.size w v) := Lib.hid (HB1.out.trans (hb1.mono HB1.out.size))
    have hv := hK v (Below.refl _ _)
    have kB := hv.2.c
    have fB := hv.2.f
    have lB := hv.2.lt
    have HBB := Lib.hid (And.intro hB1 hB2)
    have HSZ := Lib.hid hb1.size
    clear hni hb1 e0 e1 e2 e3 e4 e5 e6 e7 hK hlh hBq hv hB1 hB2 HKR HB1 X
    obtain ⟨w3, hw3⟩ : ∃ w3, w3 = (((((((v.setCell ⟨B, 0, none⟩ (.slice (some ⟨p0.b, p0.o, none⟩) c p0.c)).setCell ⟨B, 1, none⟩ (.slice (some ⟨p1.b, p1.o, none⟩) c p1.c)).setCell ⟨B, 2, none⟩ (.slice (some ⟨p2.b, p2.o, none⟩) c p2.c)).setCell ⟨B, 3, none⟩ (.slice (some ⟨p3.b, p3.o, none⟩) l p3.c)).setCell ⟨B, 4, none⟩ (.slice (some ⟨p4.b, p4.o, none⟩) l p4.c)).setCell ⟨B, 5, none⟩ (.slice (some ⟨p5.b, p5.o, none⟩) l p5.c)).setCell ⟨B, 6, none⟩ (.slice none 0 0)) := ⟨_, rfl⟩
    refine planT_one ?_
    refine op_store (w1 := w3) rfl (by rfl) ?_ ?_
    · rw [hw3]
      go_simp
    refine ⟨trivial, ?_⟩
    try simp only [Act.put, List.setIfInBounds_toArray, List.set_cons_zero, List.set_cons_succ, List.getElem_toArray, List.getElem_cons_zero, List.getElem_cons_succ]
    refine planT_stop ?_
    refine NoPanic.normal ?_
    have HBQ2 := Lib.hid HBQ.out
    have hBR : B ≠ R := by have := HBB.out.1; have := (HLH.out 6 (by omega)).1; have := HSZ.out; have := HKR2.out.lt; have h2 := HKR1.out.lt; omega
    have HBR := Lib.hid hBR
    have hwB : w.heap.size ≤ B := by have := HBB.out.1; have := (HLH.out 6 (by omega)).1; have := HB0.out.size; omega
    have hle : ∀ j, w.heap.size ≤ (⟨B, j, none⟩ : Addr).block := fun j => hwB
    obtain ⟨m, hm⟩ : ∃ m, m = v.heap.size := ⟨_, rfl⟩
    have HNS : Hid (NS w3 c l 0 m lo hi (.slice (some ⟨p0.b, p0.o, none⟩) c p0.c) (.slice (some ⟨p1.b, p1.o, none⟩) c p1.c) (.slice (some ⟨p2.b, p2.o, none⟩) c p2.c) (.slice (some ⟨p3.b, p3.o, none⟩) l p3.c) (.slice (some ⟨p4.b, p4.o, none⟩) l p4.c) (.slice (some ⟨p5.b, p5.o, none⟩) l p5.c) y0 y1 (fun _ => ⟨0, 0, 0⟩)) := Lib.hid (by rw [hw3, hm]; exact (((((((HK.out v (Below.refl _ _)).1.set HBQ.out lB 0 _).set HBQ.out lB 1 _).set HBQ.out lB 2 _).set HBQ.out lB 3 _).set HBQ.out lB 4 _).set HBQ.out lB 5 _).set HBQ.out lB 6 _)
    have HKB3 : Hid (Blk w3 B #[.slice (some ⟨p0.b, p0.o, none⟩) c p0.c, .slice (some ⟨p1.b, p1.o, none⟩) c p1.c, .slice (some ⟨p2.b, p2.o, none⟩) c p2.c, .slice (some ⟨p3.b, p3.o, none⟩) l p3.c, .slice (some ⟨p4.b, p4.o, none⟩) l p4.c, .slice (some ⟨p5.b, p5.o, none⟩) l p5.c, .slice none 0 0]) := Lib.hid (by
      rw [hw3]
      exact (((((((((HK.out v (Below.refl _ _)).2.set (n := 0) _ (by decide)).set (n := 1) _ (by simp)).set (n := 2) _ (by simp)).set (n := 3) _ (by simp)).set (n := 4) _ (by simp)).set (n := 5) _ (by simp)).set (n := 6) _ (by simp)).cast rfl))
    have HKR3 : Hid (Blk w3 R #[.slice none 0 0, .slice none 0 0, .slice none 0 0, .slice none 0 0, .slice none 0 0, .slice none 0 0, .slice none 0 0]) := Lib.hid (by
      rw [hw3]
      exact ((((((HKR2.out.other _ hBR).other _ hBR).other _ hBR).other _ hBR).other _ hBR).other _ hBR).other _ hBR)
    have HB3 : Hid (Below w.heap.size w w3) := Lib.hid (by
      rw [hw3]
      exact ((((((HBV.out.setCell (hle 0) _).setCell (hle 1) _).setCell (hle 2) _).setCell (hle 3) _).setCell (hle 4) _).setCell (hle 5) _).setCell (hle 6) _)
    have HM3 : Hid (m ≤ w3.heap.size) := Lib.hid (by rw [hw3, hm]; simp)
    clear hw3 hm hle kB fB lB HK HBQ HBB HSZ HKR2 HBV
    have kB := HKB3.out.c
    have lB := HKB3.out.lt
    go_wp2_with fail
    clear kB lB
    go_loopw [31] (fun i wr => ∃ k : Nat, k ≤ l ∧ i = .int .i64 k ∧ (∃ A, NS wr c l k m lo hi (.slice (some ⟨p0.b, p0.o, none⟩) c p0.c) (.slice (some ⟨p1.b, p1.o, none⟩) c p1.c) (.slice (some ⟨p2.b, p2.o, none⟩) c p2.c) (.slice (some ⟨p3.b, p3.o, none⟩) l p3.c) (.slice (some ⟨p4.b, p4.o, none⟩) l p4.c) (.slice (some ⟨p5.b, p5.o, none⟩) l p5.c) y0 y1 A) ∧ Blk wr B #[.slice (some ⟨p0.b, p0.o, none⟩) c p0.c, .slice (some ⟨p1.b, p1.o, none⟩) c p1.c, .slice (some ⟨p2.b, p2.o, none⟩) c p2.c, .slice (some ⟨p3.b, p3.o, none⟩) l p3.c, .slice (some ⟨p4.b, p4.o, none⟩) l p4.c, .slice (some ⟨p5.b, p5.o, none⟩) l p5.c, .slice none 0 0] ∧ Blk wr R #[.slice none 0 0, .slice none 0 0, .slice none 0 0, .slice none 0 0, .slice none 0 0, .slice none 0 0, .slice none 0 0] ∧ Below w.heap.size w wr ∧ m ≤ wr.heap.size) (fun i _ => l - (intOf i).toNat)
    case atStart => exact ⟨0, Nat.zero_le _, rfl, ⟨_, HNS.out⟩, HKB3.out, HKR3.out, HB3.out, HM3.out⟩
    case round =>
      obtain ⟨k, hk, rfl, ⟨A, hns⟩, hkb, hkr, hb, hmm⟩ := hrel
      clear HNS HKB3 HKR3 HB3 HM3
      have HNS := Lib.hid hns
      have HKB := Lib.hid hkb
      have HKR := Lib.hid hkr
      have HB := Lib.hid hb
      have HMM := Lib.hid hmm
      clear hns hkb hkr hb hmm
      have kB := HKB.out.c
      have lB := HKB.out.lt
      by_cases hlt : k < l
      · have hkl : (k : Int) < l := by omega
        go_upto_region 7 with fail
        refine region_planF (fun V : World => V.cell? ⟨B, 4, none⟩ = some (.slice (some ⟨p4.b, p4.o, none⟩) l p4.c)) (.read 0 (.read 1 (.read 2 (.read 3 (.one 4 (.read 5 (.read 6 (.read 7 (.read 8 (.one 9 .stop)))))))))) (by kernel_rfl) (by kernel_rfl) (HKB.out.drew.c 4) ?_
        iterate 4
          refine planT_read (v := ?_) rfl (by rfl) ?_ ?_
          rotate_left
          · intro w' hS
            try dsimp only at hS
            go_simp
            try with_reducible rfl
          try simp only [Act.put, List.setIfInBounds_toArray, List.set_cons_zero, List.set_cons_succ, List.getElem_toArray, List.getElem_cons_zero, List.getElem_cons_succ]
        refine planT_one ?_
        refine op_call (F := 60) (args := #[.int .i64 c]) rfl (by rfl) (by go_simp) ?_
        refine (HN.out _).mono ?_
        rintro e w4 ⟨u, rfl, heo, hb4⟩
        rw [HNC.out.1] at heo
        rw [HNC.out.2]
        obtain ⟨p, n, cc, rfl, hec, hoff⟩ := heo
        have hn : n = c := by rw [← hec.len]; exact List.length_replicate
        rw [hn] at hec hoff ⊢
        obtain ⟨b, o, hb1, hp, hcs⟩ := hec.sl (by omega)
        rw [hp] at hoff ⊢
        have hcc := hec.cn
        have hbw : Below wr.heap.size wr w4 := (Below.refl _ _).drew.trans hb4
        have hmb : m ≤ b := by
          refine Nat.le_of_not_lt fun hn => ?_
          exact hoff b (Nat.lt_of_lt_of_le hn HMM.out) (by omega) _ rfl rfl
        have hcell : ∀ j, j < c → w4.cell? ⟨b, o + j, none⟩ = some (.bool false) := fun j hj => by
          have e : (Di.boC (List.replicate c false)).length = c := by unfold Di.boC; rw [List.length_map, List.length_replicate]
          rw [hcs j (by rw [e]; exact hj)]
          unfold Di.boC
          rw [List.getElem?_map, List.getElem?_replicate, if_pos hj]
          rfl
        have h4 := HNS.out.below hbw
        have hs := h4.step hlt hb1 hcell hcc hmb
        have q1 : w4.cell? ⟨p4.b, p4.o + k * 2, none⟩ = some _ := h4.d.c (k * 2) (by omega)
        have q2 : w4.cell? ⟨p4.b, p4.o + k * 2 + 1, none⟩ = some _ := h4.d.c (k * 2 + 1) (by omega)
        have q3 : ∀ j, w4.frozen? ⟨p4.b, j, none⟩ = false := h4.d.f
        have q4 : p4.b < w4.heap.size := h4.d.lt
        have hd1 : lo 4 ≤ p4.b := h4.d.lo
        have hd2 : p4.b < hi 4 := h4.d.hi
        have hd3 := h4.hm 4 (by omega)
        have hbq := HBQ2.out 4 (by omega)
        have hdB : p4.b ≠ B := by omega
        have hdR : p4.b ≠ R := by have := (HLH.out 4 (by omega)).1; have h2 := HKR1.out.lt; omega
        have hdw : w.heap.size ≤ p4.b := by have := (HLH.out 4 (by omega)).1; have := HB0.out.size; omega
        obtain ⟨w5, hw5⟩ : ∃ w5, w5 = (w4.setCell ⟨p4.b, p4.o + k * 2, none⟩ (.int .i64 0)).setCell ⟨p4.b, p4.o + k * 2 + 1, none⟩ (.slice (some ⟨b, o, none⟩) c cc) := ⟨_, rfl⟩
        have HS5 : Hid (NS w5 c l (k + 1) m lo hi (.slice (some ⟨p0.b, p0.o, none⟩) c p0.c) (.slice (some ⟨p1.b, p1.o, none⟩) c p1.c) (.slice (some ⟨p2.b, p2.o, none⟩) c p2.c) (.slice (some ⟨p3.b, p3.o, none⟩) l p3.c) (.slice (some ⟨p4.b, p4.o, none⟩) l p4.c) (.slice (some ⟨p5.b, p5.o, none⟩) l p5.c) y0 y1 _) := Lib.hid (by rw [hw5]; exact hs)
        have HKB5 : Hid (Blk w5 B #[.slice (some ⟨p0.b, p0.o, none⟩) c p0.c, .slice (some ⟨p1.b, p1.o, none⟩) c p1.c, .slice (some ⟨p2.b, p2.o, none⟩) c p2.c, .slice (some ⟨p3.b, p3.o, none⟩) l p3.c, .slice (some ⟨p4.b, p4.o, none⟩) l p4.c, .slice (some ⟨p5.b, p5.o, none⟩) l p5.c, .slice none 0 0]) := Lib.hid (by rw [hw5]; exact ((HKB.out.below hbw).other _ hdB).other _ hdB)
        have HKR5 : Hid (Blk w5 R #[.slice none 0 0, .slice none 0 0, .slice none 0 0, .slice none 0 0, .slice none 0 0, .slice none 0 0, .slice none 0 0]) := Lib.hid (by rw [hw5]; exact ((HKR.out.below hbw).other _ hdR).other _ hdR)
        have HB5 : Hid (Below w.heap.size w w5) := Lib.hid (by
          rw [hw5]
          exact ((HB.out.trans (hbw.mono HB.out.size)).setCell (p := ⟨p4.b, p4.o + k * 2, none⟩) hdw _).setCell (p := ⟨p4.b, p4.o + k * 2 + 1, none⟩) hdw _)
        have HM5 : Hid (m ≤ w5.heap.size) := Lib.hid (by rw [hw5]; have := hbw.size; have := HMM.out; simp; omega)
        have kB4 := (HKB.out.below hbw).c
        clear hs h4 hbw hcell hoff hec hcs hb4 hbq hd1 hd2 hd3 hmb HNS HKB HKR HB HMM kB lB hp hn
        refine ⟨_, rfl, kB4 4, ?_⟩
        try simp only [Act.put, List.setIfInBounds_toArray, List.set_cons_zero, List.set_cons_succ, List.getElem_toArray, List.getElem_cons_zero, List.getElem_cons_succ]
        iterate 4
          refine planT_read (v := ?_) rfl (by rfl) ?_ ?_
          rotate_left
          · intro w' hS
            try dsimp only at hS
            go_simp
            try with_reducible rfl
          try simp only [Act.put, List.setIfInBounds_toArray, List.set_cons_zero, List.set_cons_succ, List.getElem_toArray, List.getElem_cons_zero, List.getElem_cons_succ]
        refine planT_one ?_
        refine op_store (w1 := w5) rfl (by rfl) ?_ ?_
        · rw [hw5]
          go_simp
        refine ⟨HKB5.out.c 4, ?_⟩
        try simp only [Act.put, List.setIfInBounds_toArray, List.set_cons_zero, List.set_cons_succ, List.getElem_toArray, List.getElem_cons_zero, List.getElem_cons_succ]
        refine planT_stop ?_
        refine NoPanic.normal ?_
        clear q1 q2 q3 q4 hw5 kB4
        go_wp2_with fail
        go_roundw
        case rel => exact ⟨k + 1, by omega, by go_num, ⟨_, HS5.out⟩, HKB5.out, HKR5.out, HB5.out, HM5.out⟩
        case measure => simp [intOf]; omega
      · have hkl : k = l := by omega
        have HNL : Hid (NS wr c l l m lo hi (.slice (some ⟨p0.b, p0.o, none⟩) c p0.c) (.slice (some ⟨p1.b, p1.o, none⟩) c p1.c) (.slice (some ⟨p2.b, p2.o, none⟩) c p2.c) (.slice (some ⟨p3.b, p3.o, none⟩) l p3.c) (.slice (some ⟨p4.b, p4.o, none⟩) l p4.c) (.slice (some ⟨p5.b, p5.o, none⟩) l p5.c) y0 y1 A) := Lib.hid (hkl ▸ HNS.out)
        have kR := HKR.out.c
        have fR := HKR.out.f
        have lR := HKR.out.lt
        have hBR : B ≠ R := HBR.out
        have hRB : R ≠ B := fun e => hBR e.symm
        clear HNS
        go_wp2_with fail
        obtain ⟨Y, hok, hla⟩ := Pr.Zz.new c l hc1 hc4 hl1 hl4
        have hle : ∀ j, w.heap.size ≤ (⟨R, j, none⟩ : Addr).block := fun j => by show w.heap.size ≤ R; rw [HRR.out]; exact Nat.le_refl _
        have hRl : ∀ q, q < 6 → R < lo q := fun q hq => by have := (HLH.out q (by omega)).1; have h2 := HKR1.out.lt; omega
        have hRm : R < m := by
          have := HNL.out.hm 0 (by omega)
          have h2 := hRl 0 (by omega)
          have h3 : lo 0 ≤ p0.b := (HNL.out.g0.o.row.lt _ rfl).1
          have h4 : p0.b < hi 0 := HNL.out.g0.h0 _ rfl
          omega
        have hn0 : w.heap.size ≤ p0.b := by have h3 : lo 0 ≤ p0.b := (HNL.out.g0.o.row.lt _ rfl).1; have := hRl 0 (by omega); have := HRR.out; omega
        have hn1 : w.heap.size ≤ p1.b := by have h3 : lo 1 ≤ p1.b := (HNL.out.g1.o.row.lt _ rfl).1; have := hRl 1 (by omega); have := HRR.out; omega
        exact bodyPost_ret (v := .tuple #[.agg #[.slice (some ⟨p0.b, p0.o, none⟩) c p0.c, .slice (some ⟨p1.b, p1.o, none⟩) c p1.c, .slice (some ⟨p2.b, p2.o, none⟩) c p2.c, .slice (some ⟨p3.b, p3.o, none⟩) l p3.c, .slice (some ⟨p4.b, p4.o, none⟩) l p4.c, .slice (some ⟨p5.b, p5.o, none⟩) l p5.c, .slice none 0 0], .int .i64 0]) (by simp [results, Tryz.results23, go_sem, *]) rfl ⟨Y, hla, OutZ.of (F := ⟨fun _ _ => 0, fun _ _ => 0, fun _ => Pr.Wt.none, fun _ => 0, fun _ => 0, fun _ _ => false, fun _ => 0⟩) (L := []) ⟨_, rfl, HNL.out.sv hc1 hc4 hl1 (by omega) hRl hRm rfl, ⟨_, _, _, _, _, _, _, _, _, _, _, _, _, rfl, hn0, hn1⟩, ((((((HB.out.setCell (hle 0) _).setCell (hle 1) _).setCell (hle 2) _).setCell (hle 3) _).setCell (hle 4) _).setCell (hle 5) _).setCell (hle 6) _⟩ rfl rfl hok⟩
end Go.Proofs.YtmeomdfmljanhaaGreat.Pg
/- calm: all that is under way comes. -/
namespace Go.Proofs.YtmeomdfmljanhaaGreat.Pg
set_option linter.unusedVariables false
open Go.ChangeShapes Go.WideShapes Go.ChangeAt Go.RowKit

/-- Memory that reads alike. -/
structure Like (w w' : World) : Prop where
  c : ∀ p, w'.cell? p = w.cell? p
  f : ∀ p, w'.frozen? p = w.frozen? p
  s : w'.heap.size = w.heap.size
theorem Like.set {w w' : World} {p : Addr} {u : Value} (h : Like w w') (hp : w.cell? p = some u) : Like w (w'.setCell p u) := by
  refine ⟨fun q => ?_, fun q => by simpa using h.f q, by simpa using h.s⟩
  by_cases e : q = p
  · subst e
    rw [World.cell?_setCell_same _ _ _ ((h.c _).trans hp), hp]
  · rw [World.cell?_setCell_other _ _ _ _ (fun e2 => e e2.symm)]
    exact h.c q
theorem Like.sl {w w' : World} (h : Like w w') {p : Option Addr} {n : Nat} {cs : List Value} (hs : Sl w p n cs) : Sl w' p n cs := fun h0 => by
  obtain ⟨b, off, h1, h2, h3⟩ := hs h0
  exact ⟨b, off, by rw [h.s]; exact h1, h2, fun j hj => by rw [h.c]; exact h3 j hj⟩
theorem Like.mem {w w' : World} (h : Like w w') {bs c l : Nat} {A : Tg → Pa} {F : Pr.Fs} {pv f : Value} (hm : Mem w bs c l A F pv f) : Mem w' bs c l A F pv f :=
  ⟨fun t h0 => by rw [h.s]; exact hm.lt t h0, fun t j hj => by rw [h.c]; exact hm.cell t j hj, fun t ht h0 j => by rw [h.f]; exact hm.fz t ht h0 j, hm.inj, hm.cap, hm.c1, hm.c4, hm.l1, hm.l16⟩
theorem Like.pl {w w' : World} (h : Like w w') {p : Option Addr} {xs : List Value} {L : List (List Nat)} (hp : Pl w p xs L) : Pl w' p xs L :=
  ⟨hp.len, h.sl hp.sl, fun k hk => by
    obtain ⟨q, d, e, hc, hb⟩ := hp.fs k hk
    exact ⟨q, d, e, hc, hb.lt, fun h0 => by
      obtain ⟨b, off, h1, h2, h3⟩ := hb.c h0
      exact ⟨b, off, by rw [h.s]; exact h1, h2, fun k hk => by rw [h.c]; exact h3 k hk⟩⟩, hp.n100, hp.l100⟩
theorem Like.sys {w w' : World} (h : Like w w') {v : Value} {c l : Nat} {Z : Pr.Zz} (hs : Sys w v c l Z) : Sys w' v c l Z := by
  obtain ⟨A, p, cp, xs, e, hm, hp⟩ := hs.sv
  exact ⟨⟨A, p, cp, xs, e, h.mem hm, h.pl hp⟩, hs.ok⟩
/-- A system stored over itself. -/
theorem sys_again {w w' : World} {v : Value} {c l : Nat} {Z : Pr.Zz} (h : Sys w v c l Z) {E : Nat} {u0 u1 u2 u3 u4 u5 u6 : Value} (hE : Blk w E #[u0, u1, u2, u3, u4, u5, u6]) (hw : w' = (((((((w.setCell ⟨E, 0, none⟩ (u0)).setCell ⟨E, 1, none⟩ (u1)).setCell ⟨E, 2, none⟩ (u2)).setCell ⟨E, 3, none⟩ (u3)).setCell ⟨E, 4, none⟩ (u4)).setCell ⟨E, 5, none⟩ (u5)).setCell ⟨E, 6, none⟩ (u6))) : Sys w' v c l Z := by
  have e0 := hE.c 0
  have e1 := hE.c 1
  have e2 := hE.c 2
  have e3 := hE.c 3
  have e4 := hE.c 4
  have e5 := hE.c 5
  have e6 := hE.c 6
  rw [hw]
  refine Like.sys ((((((((⟨fun _ => rfl, fun _ => rfl, rfl⟩ : Like w w).set (u := u0) e0).set (u := u1) e1).set (u := u2) e2).set (u := u3) e3).set (u := u4) e4).set (u := u5) e5).set (u := u6) e6) h
theorem sys_put {w : World} {v : Value} {c l base : Nat} {Z Zo : Pr.Zz} (h : Sys w v c l Z) {x0 x1 x2 x3 x4 x5 : Addr} {k0 k1 k2 k3 k4 k5 no co : Nat} {po : Option Addr} (ho : Sys w (.agg #[.slice (some x0) c k0, .slice (some x1) c k1, .slice (some x2) c k2, .slice (some x3) l k3, .slice (some x4) l k4, .slice (some x5) l k5, .slice po no co]) c l Zo) {E : Nat} (hE : Blk w E #[.slice (some x0) c k0, .slice (some x1) c k1, .slice (some x2) c k2, .slice (some x3) l k3, .slice (some x4) l k4, .slice (some x5) l k5, .slice po no co]) (hn : Nw base v) (hlt : E < base) {u0 u1 u2 u3 u4 u5 u6 : Value} (hv : v = .agg #[u0, u1, u2, u3, u4, u5, u6]) : ∀ w', w' = (((((((w.setCell ⟨E, 0, none⟩ (u0)).setCell ⟨E, 1, none⟩ (u1)).setCell ⟨E, 2, none⟩ (u2)).setCell ⟨E, 3, none⟩ (u3)).setCell ⟨E, 4, none⟩ (u4)).setCell ⟨E, 5, none⟩ (u5)).setCell ⟨E, 6, none⟩ (u6)) → Sys w' v c l Z := by
  obtain ⟨A, p, cp, e, H⟩ := sys_over h ho hE hn hlt
  have e2 := hv.symm.trans e
  simp only [Value.agg.injEq, Array.mk.injEq, List.cons.injEq, and_true] at e2
  obtain ⟨rfl, rfl, rfl, rfl, rfl, rfl, rfl⟩ := e2
  exact H
theorem sys_lay {w : World} {v : Value} {c l : Nat} {Z : Pr.Zz} (h : Sys w v c l Z) {E : Nat} (hE : Blk w E #[.slice none 0 0, .slice none 0 0, .slice none 0 0, .slice none 0 0, .slice none 0 0, .slice none 0 0, .slice none 0 0]) {u0 u1 u2 u3 u4 u5 u6 : Value} (hv : v = .agg #[u0, u1, u2, u3, u4, u5, u6]) : ∀ w', w' = (((((((w.setCell ⟨E, 0, none⟩ (u0)).setCell ⟨E, 1, none⟩ (u1)).setCell ⟨E, 2, none⟩ (u2)).setCell ⟨E, 3, none⟩ (u3)).setCell ⟨E, 4, none⟩ (u4)).setCell ⟨E, 5, none⟩ (u5)).setCell ⟨E, 6, none⟩ (u6)) → Sys w' v c l Z := by
  obtain ⟨A, p, cp, e, H⟩ := sys_out h hE
  have e2 := hv.symm.trans e
  simp only [Value.agg.injEq, Array.mk.injEq, List.cons.injEq, and_true] at e2
  obtain ⟨rfl, rfl, rfl, rfl, rfl, rfl, rfl⟩ := e2
  exact H
/-- What calm answers. -/
def CalmO (w w' : World) (e : Ending) (v : Value) (c l : Nat) (Z : Pr.Zz) : Prop := ∃ v', e = .returned (.tuple #[v', .bool true]) ∧ Sys w' v' c l Z ∧ (v' = v ∨ Nw w.heap.size v') ∧ Below w.heap.size w w'

set_option maxHeartbeats 4000000 in
set_option maxRecDepth 100000 in
theorem calm_any (v : Value) (c l : Nat) (Z : Pr.Zz) (N : Nat) (w : World) (h : Sys w v c l Z) (hN : N ≤ 1008) (h0 : (Pr.calmZ c N Z).ms = []) (hne : ∀ j, j < N → (Pr.calmZ c j Z).ms ≠ []) :
    Calls Tryz.prog 27 #[v] w fun e w' => CalmO w w' e v c l (Pr.calmZ c N Z) := by
  have hc1 := h.ok.c1
  have hc4 := h.ok.c4
  have hl1 := h.ok.l1
  have hl4 := h.ok.l4
  obtain ⟨A, p, cp, xs, e, hm, hp⟩ := h.sv
  rw [List.length_map] at e
  simp only [Pa.sl] at e
  obtain ⟨x0, hx0⟩ : ∃ x : Addr, x = ⟨(A .st).b, (A .st).o, none⟩ := ⟨_, rfl⟩
  obtain ⟨x1, hx1⟩ : ∃ x : Addr, x = ⟨(A .va).b, (A .va).o, none⟩ := ⟨_, rfl⟩
  obtain ⟨x2, hx2⟩ : ∃ x : Addr, x = ⟨(A .wt).b, (A .wt).o, none⟩ := ⟨_, rfl⟩
  obtain ⟨x3, hx3⟩ : ∃ x : Addr, x = ⟨(A .ho).b, (A .ho).o, none⟩ := ⟨_, rfl⟩
  obtain ⟨x4, hx4⟩ : ∃ x : Addr, x = ⟨(A .di).b, (A .di).o, none⟩ := ⟨_, rfl⟩
  obtain ⟨x5, hx5⟩ : ∃ x : Addr, x = ⟨(A .bu).b, (A .bu).o, none⟩ := ⟨_, rfl⟩
  obtain ⟨k0, hk0⟩ : ∃ x, x = (A .st).c := ⟨_, rfl⟩
  obtain ⟨k1, hk1⟩ : ∃ x, x = (A .va).c := ⟨_, rfl⟩
  obtain ⟨k2, hk2⟩ : ∃ x, x = (A .wt).c := ⟨_, rfl⟩
  obtain ⟨k3, hk3⟩ : ∃ x, x = (A .ho).c := ⟨_, rfl⟩
  obtain ⟨k4, hk4⟩ : ∃ x, x = (A .di).c := ⟨_, rfl⟩
  obtain ⟨k5, hk5⟩ : ∃ x, x = (A .bu).c := ⟨_, rfl⟩
  rw [← hx0, ← hx1, ← hx2, ← hx3, ← hx4, ← hx5, ← hk0, ← hk1, ← hk2, ← hk3, ← hk4, ← hk5] at e
  clear hx0 hx1 hx2 hx3 hx4 hx5 hk0 hk1 hk2 hk3 hk4 hk5 hm hp A xs
  subst e
  obtain ⟨n, hn⟩ : ∃ x, x = Z.ms.length := ⟨_, rfl⟩
  rw [← hn] at h ⊢
  have HNE := Lib.hid hne
  have HN0 := Lib.hid h0
  obtain ⟨E, hE⟩ : ∃ E, E = w.heap.size := ⟨_, rfl⟩
  obtain ⟨R, hR⟩ : ∃ R, R = w.heap.size + 1 := ⟨_, rfl⟩
  obtain ⟨w1, hw1⟩ : ∃ w1, w1 = (w.alloc (.cells #[.slice (some x0) c k0, .slice (some x1) c k1, .slice (some x2) c k2, .slice (some x3) l k3, .slice (some x4) l k4, .slice (some x5) l k5, .slice p n cp] 32)).alloc (.cells #[.slice none 0 0, .slice none 0 0, .slice none 0 0, .slice none 0 0, .slice none 0 0, .slice none 0 0, .slice none 0 0] 32) := ⟨_, rfl⟩
  have hb1 : Below w.heap.size w w1 := by rw [hw1]; exact ((Below.refl _ _).alloc (Nat.le_refl _) _).alloc (by simp) _
  have HKE : Hid (Blk w1 E #[.slice (some x0) c k0, .slice (some x1) c k1, .slice (some x2) c k2, .slice (some x3) l k3, .slice (some x4) l k4, .slice (some x5) l k5, .slice p n cp]) := Lib.hid (by rw [hw1, hE]; exact (Blk.new _ _ _).alloc _)
  have HKR : Hid (Blk w1 R #[.slice none 0 0, .slice none 0 0, .slice none 0 0, .slice none 0 0, .slice none 0 0, .slice none 0 0, .slice none 0 0]) := Lib.hid (by rw [hw1, hR]; have := Blk.new (w.alloc (.cells #[.slice (some x0) c k0, .slice (some x1) c k1, .slice (some x2) c k2, .slice (some x3) l k3, .slice (some x4) l k4, .slice (some x5) l k5, .slice p n cp] 32)) #[.slice none 0 0, .slice none 0 0, .slice none 0 0, .slice none 0 0, .slice none 0 0, .slice none 0 0, .slice none 0 0] 32; rw [World.size_alloc] at this; exact this)
  have HB1 := Lib.hid hb1
  have HS1 := Lib.hid (h.below hb1)
  have HW1 := Lib.hid hw1
  have HEE := Lib.hid hE
  have HRR := Lib.hid hR
  have HNN := Lib.hid hn
  clear h h0 hne hw1 hb1 hE hR hn
  obtain ⟨v0, hv0⟩ : ∃ v0, v0 = Value.agg #[.slice (some x0) c k0, .slice (some x1) c k1, .slice (some x2) c k2, .slice (some x3) l k3, .slice (some x4) l k4, .slice (some x5) l k5, .slice p n cp] := ⟨_, rfl⟩
  rw [← hv0]
  have HV0 := Lib.hid hv0
  have HINV : Hid (∃ (y0 y1 y2 y3 y4 y5 : Addr) (q0 q1 q2 q3 q4 q5 qo : Nat) (qp : Option Addr), Blk w1 E #[.slice (some y0) c q0, .slice (some y1) c q1, .slice (some y2) c q2, .slice (some y3) l q3, .slice (some y4) l q4, .slice (some y5) l q5, .slice qp (Pr.calmZ c 0 Z).ms.length qo] ∧ Sys w1 (.agg #[.slice (some y0) c q0, .slice (some y1) c q1, .slice (some y2) c q2, .slice (some y3) l q3, .slice (some y4) l q4, .slice (some y5) l q5, .slice qp (Pr.calmZ c 0 Z).ms.length qo]) c l (Pr.calmZ c 0 Z) ∧ (Value.agg #[.slice (some y0) c q0, .slice (some y1) c q1, .slice (some y2) c q2, .slice (some y3) l q3, .slice (some y4) l q4, .slice (some y5) l q5, .slice qp (Pr.calmZ c 0 Z).ms.length qo] = v0 ∨ Nw w.heap.size (.agg #[.slice (some y0) c q0, .slice (some y1) c q1, .slice (some y2) c q2, .slice (some y3) l q3, .slice (some y4) l q4, .slice (some y5) l q5, .slice qp (Pr.calmZ c 0 Z).ms.length qo]))) := Lib.hid ⟨x0, x1, x2, x3, x4, x5, k0, k1, k2, k3, k4, k5, cp, p, by rw [show (Pr.calmZ c 0 Z).ms.length = n from HNN.out.symm]; exact HKE.out, by rw [show (Pr.calmZ c 0 Z).ms.length = n from HNN.out.symm]; exact HS1.out, .inl (by rw [show (Pr.calmZ c 0 Z).ms.length = n from HNN.out.symm]; exact hv0.symm)⟩
  go_enter Tryz.func27, Tryz.ntmps27
  rw [hv0]
  clear hv0 HS1 HKE
  go_upto_region 1 with fail
  rw [← HRR.out, ← HEE.out, ← HW1.out]
  have HSZ : Hid (w1.heap.size = w.heap.size + 2) := Lib.hid (by rw [HW1.out, World.size_alloc, World.size_alloc])
  clear HW1
  go_wp2_with fail
  go_loopw [4] (fun i wr => ∃ j : Nat, j ≤ N ∧ i = .int .i64 j ∧ (∃ (y0 y1 y2 y3 y4 y5 : Addr) (q0 q1 q2 q3 q4 q5 qo : Nat) (qp : Option Addr), Blk wr E #[.slice (some y0) c q0, .slice (some y1) c q1, .slice (some y2) c q2, .slice (some y3) l q3, .slice (some y4) l q4, .slice (some y5) l q5, .slice qp (Pr.calmZ c j Z).ms.length qo] ∧ Sys wr (.agg #[.slice (some y0) c q0, .slice (some y1) c q1, .slice (some y2) c q2, .slice (some y3) l q3, .slice (some y4) l q4, .slice (some y5) l q5, .slice qp (Pr.calmZ c j Z).ms.length qo]) c l (Pr.calmZ c j Z) ∧ (Value.agg #[.slice (some y0) c q0, .slice (some y1) c q1, .slice (some y2) c q2, .slice (some y3) l q3, .slice (some y4) l q4, .slice (some y5) l q5, .slice qp (Pr.calmZ c j Z).ms.length qo] = v0 ∨ Nw w.heap.size (.agg #[.slice (some y0) c q0, .slice (some y1) c q1, .slice (some y2) c q2, .slice (some y3) l q3, .slice (some y4) l q4, .slice (some y5) l q5, .slice qp (Pr.calmZ c j Z).ms.length qo]))) ∧ Blk wr R #[.slice none 0 0, .slice none 0 0, .slice none 0 0, .slice none 0 0, .slice none 0 0, .slice none 0 0, .slice none 0 0] ∧ Below w.heap.size w wr ∧ w1.heap.size ≤ wr.heap.size) (fun i _ => N - (intOf i).toNat)
  case atStart => exact ⟨0, Nat.zero_le _, rfl, HINV.out, HKR.out, HB1.out, Nat.le_refl _⟩
  case round =>
    obtain ⟨j, hj, rfl, ⟨y0, y1, y2, y3, y4, y5, q0, q1, q2, q3, q4, q5, qo, qp, hkb, hsy, hvn⟩, hkr, hb, hsz⟩ := hrel
    clear HINV HKR HB1
    obtain ⟨nj, hnj⟩ : ∃ x, x = (Pr.calmZ c j Z).ms.length := ⟨_, rfl⟩
    rw [← hnj] at hkb hsy hvn
    have HKB := Lib.hid hkb
    have HSY := Lib.hid hsy
    have HVN := Lib.hid hvn
    have HKR := Lib.hid hkr
    have HB := Lib.hid hb
    have HSZR := Lib.hid hsz
    have HNJ := Lib.hid hnj
    clear hkb hsy hvn hkr hb hsz
    have kB := HKB.out.c
    have lB := HKB.out.lt
    have hj2 : (j : Int) < 2000 := by omega
    by_cases hlt : j < N
    · have hpos : 0 < nj := by
        rw [hnj]
        exact List.length_pos_iff.2 (HNE.out j hlt)
      have hposI : (0 : Int) < nj := by omega
      clear hnj
      have HDL : Hid (∀ W, Below wr.heap.size wr W → Calls Tryz.prog 9 #[.agg #[.slice (some y0) c q0, .slice (some y1) c q1, .slice (some y2) c q2, .slice (some y3) l q3, .slice (some y4) l q4, .slice (some y5) l q5, .slice qp nj qo], .int .i64 0] W fun e w' => OutZ W w' e c l (Pr.calmZ c (j + 1) Z) 0) := Lib.hid (fun W hW => deliv_ok _ c l (Pr.calmZ c j Z) 0 W (HSY.out.below hW) (by rw [← HNJ.out]; exact hpos))
      go_wp2_with fail
      refine (HDL.out wr (Below.refl _ _)).mono ?_
      rintro e w2 ⟨v2, rfl, hs2, hnw2, hb2⟩
      obtain ⟨A2, p2, cp2, xs2, rfl, hm2, hp2⟩ := id hs2.sv
      simp only [Pa.sl, List.length_map] at hs2 hnw2 ⊢
      clear hm2 hp2 xs2 HDL hpos hposI
      obtain ⟨n2, hn2⟩ : ∃ x, x = (Pr.calmZ c (j + 1) Z).ms.length := ⟨_, rfl⟩
      rw [← hn2] at hs2 hnw2 ⊢
      obtain ⟨w3, hw3⟩ : ∃ x, x = w2.alloc (.cells #[.slice (some ⟨(A2 .st).b, (A2 .st).o, none⟩) c (A2 .st).c, .slice (some ⟨(A2 .va).b, (A2 .va).o, none⟩) c (A2 .va).c, .slice (some ⟨(A2 .wt).b, (A2 .wt).o, none⟩) c (A2 .wt).c, .slice (some ⟨(A2 .ho).b, (A2 .ho).o, none⟩) l (A2 .ho).c, .slice (some ⟨(A2 .di).b, (A2 .di).o, none⟩) l (A2 .di).c, .slice (some ⟨(A2 .bu).b, (A2 .bu).o, none⟩) l (A2 .bu).c, .slice p2 n2 cp2] 32) := ⟨_, rfl⟩
      obtain ⟨q, hq⟩ : ∃ x, x = w2.heap.size := ⟨_, rfl⟩
      have hb3 : Below w2.heap.size w2 w3 := by rw [hw3]; exact (Below.refl _ _).alloc (Nat.le_refl _) _
      have HKQ : Hid (Blk w3 q #[.slice (some ⟨(A2 .st).b, (A2 .st).o, none⟩) c (A2 .st).c, .slice (some ⟨(A2 .va).b, (A2 .va).o, none⟩) c (A2 .va).c, .slice (some ⟨(A2 .wt).b, (A2 .wt).o, none⟩) c (A2 .wt).c, .slice (some ⟨(A2 .ho).b, (A2 .ho).o, none⟩) l (A2 .ho).c, .slice (some ⟨(A2 .di).b, (A2 .di).o, none⟩) l (A2 .di).c, .slice (some ⟨(A2 .bu).b, (A2 .bu).o, none⟩) l (A2 .bu).c, .slice p2 n2 cp2]) := Lib.hid (by rw [hw3, hq]; exact Blk.new _ _ _)
      have HS3 := Lib.hid (hs2.below hb3)
      have HNW3 := Lib.hid hnw2
      have hbr : Below wr.heap.size wr w3 := hb2.trans (hb3.mono hb2.size)
      have HKB3 := Lib.hid (HKB.out.below hbr)
      have HKR3 := Lib.hid (HKR.out.below hbr)
      have HSO3 := Lib.hid (HSY.out.below hbr)
      have HB3 : Hid (Below w.heap.size w w3) := Lib.hid (HB.out.trans (hbr.mono HB.out.size))
      have HZ3 : Hid (w1.heap.size ≤ w3.heap.size) := Lib.hid (Nat.le_trans HSZR.out hbr.size)
      have HLE : Hid (E < wr.heap.size) := Lib.hid lB
      have HBW : Hid (w.heap.size ≤ wr.heap.size) := Lib.hid HB.out.size
      have hEq : q ≠ E := by have := hb2.size; omega
      have HW3 := Lib.hid hw3
      have HQ := Lib.hid hq
      have HN2 := Lib.hid hn2
      clear hw3 hq hb3 hbr hs2 hnw2 hb2 kB lB HKB HKR HSY HB HSZR hn2
      go_upto_region 5 with fail
      rw [← HQ.out]
      first | rw [← HW3.out] | fail "W3"
      clear HW3
      have kQ := HKQ.out.c
      have kB := HKB3.out.c
      have lB := HKB3.out.lt
      have fB := HKB3.out.f
      go_wp2_with fail
      obtain ⟨w4, hw4⟩ : ∃ x, x = (((((((w3.setCell ⟨E, 0, none⟩ (.slice (some ⟨(A2 .st).b, (A2 .st).o, none⟩) c (A2 .st).c)).setCell ⟨E, 1, none⟩ (.slice (some ⟨(A2 .va).b, (A2 .va).o, none⟩) c (A2 .va).c)).setCell ⟨E, 2, none⟩ (.slice (some ⟨(A2 .wt).b, (A2 .wt).o, none⟩) c (A2 .wt).c)).setCell ⟨E, 3, none⟩ (.slice (some ⟨(A2 .ho).b, (A2 .ho).o, none⟩) l (A2 .ho).c)).setCell ⟨E, 4, none⟩ (.slice (some ⟨(A2 .di).b, (A2 .di).o, none⟩) l (A2 .di).c)).setCell ⟨E, 5, none⟩ (.slice (some ⟨(A2 .bu).b, (A2 .bu).o, none⟩) l (A2 .bu).c)).setCell ⟨E, 6, none⟩ (.slice p2 n2 cp2)) := ⟨_, rfl⟩
      have hEw : ∀ k, w.heap.size ≤ (⟨E, k, none⟩ : Addr).block := fun k => by show w.heap.size ≤ E; rw [HEE.out]; exact Nat.le_refl _
      have hER : E ≠ R := by have h1 := HEE.out; have h2 := HRR.out; omega
      have hs4 : Sys w4 (.agg #[.slice (some ⟨(A2 .st).b, (A2 .st).o, none⟩) c (A2 .st).c, .slice (some ⟨(A2 .va).b, (A2 .va).o, none⟩) c (A2 .va).c, .slice (some ⟨(A2 .wt).b, (A2 .wt).o, none⟩) c (A2 .wt).c, .slice (some ⟨(A2 .ho).b, (A2 .ho).o, none⟩) l (A2 .ho).c, .slice (some ⟨(A2 .di).b, (A2 .di).o, none⟩) l (A2 .di).c, .slice (some ⟨(A2 .bu).b, (A2 .bu).o, none⟩) l (A2 .bu).c, .slice p2 n2 cp2]) c l (Pr.calmZ c (j + 1) Z) := sys_put HS3.out HSO3.out HKB3.out HNW3.out HLE.out rfl w4 hw4
      have hk4 : Blk w4 E #[.slice (some ⟨(A2 .st).b, (A2 .st).o, none⟩) c (A2 .st).c, .slice (some ⟨(A2 .va).b, (A2 .va).o, none⟩) c (A2 .va).c, .slice (some ⟨(A2 .wt).b, (A2 .wt).o, none⟩) c (A2 .wt).c, .slice (some ⟨(A2 .ho).b, (A2 .ho).o, none⟩) l (A2 .ho).c, .slice (some ⟨(A2 .di).b, (A2 .di).o, none⟩) l (A2 .di).c, .slice (some ⟨(A2 .bu).b, (A2 .bu).o, none⟩) l (A2 .bu).c, .slice p2 n2 cp2] := by rw [hw4]; exact (((((((HKB3.out.set (n := 0) _ (by simp)).set (n := 1) _ (by simp)).set (n := 2) _ (by simp)).set (n := 3) _ (by simp)).set (n := 4) _ (by simp)).set (n := 5) _ (by simp)).set (n := 6) _ (by simp)).cast rfl
      have hr4 : Blk w4 R #[.slice none 0 0, .slice none 0 0, .slice none 0 0, .slice none 0 0, .slice none 0 0, .slice none 0 0, .slice none 0 0] := by rw [hw4]; exact ((((((HKR3.out.other _ hER).other _ hER).other _ hER).other _ hER).other _ hER).other _ hER).other _ hER
      have hb4 : Below w.heap.size w w4 := by rw [hw4]; exact ((((((HB3.out.setCell (hEw 0) _).setCell (hEw 1) _).setCell (hEw 2) _).setCell (hEw 3) _).setCell (hEw 4) _).setCell (hEw 5) _).setCell (hEw 6) _
      have hz4 : w1.heap.size ≤ w4.heap.size := by rw [hw4]; simpa using HZ3.out
      have HNW4 : Hid (Nw w.heap.size (.agg #[.slice (some ⟨(A2 .st).b, (A2 .st).o, none⟩) c (A2 .st).c, .slice (some ⟨(A2 .va).b, (A2 .va).o, none⟩) c (A2 .va).c, .slice (some ⟨(A2 .wt).b, (A2 .wt).o, none⟩) c (A2 .wt).c, .slice (some ⟨(A2 .ho).b, (A2 .ho).o, none⟩) l (A2 .ho).c, .slice (some ⟨(A2 .di).b, (A2 .di).o, none⟩) l (A2 .di).c, .slice (some ⟨(A2 .bu).b, (A2 .bu).o, none⟩) l (A2 .bu).c, .slice p2 n2 cp2])) := Lib.hid (HNW3.out.mono HBW.out)
      rw [← hw4]
      clear hw4 kQ kB lB fB
      rw [HN2.out] at hs4 hk4 HNW4
      go_roundw
      case rel => exact ⟨j + 1, by omega, by go_num, ⟨_, _, _, _, _, _, _, _, _, _, _, _, _, _, hk4, hs4, .inr HNW4.out⟩, hr4, hb4, hz4⟩
      case measure => simp [intOf]; omega
    · have hjN : j = N := by omega
      subst hjN
      have hn0 : nj = 0 := by rw [hnj, HN0.out]; rfl
      have hposI : ¬ (0 : Int) < nj := by omega
      obtain ⟨hbusy, hline⟩ := Pr.quiet_z HSY.out.ok HN0.out
      have HBZ := Lib.hid hbusy
      have HLN := Lib.hid hline
      clear hbusy hline
      have e5 := HSY.out.sv
      obtain ⟨A5, p5, cp5, xs5, e5, hm5, hp5⟩ := e5
      have HM5 := Lib.hid hm5
      clear hm5 hp5
      simp only [Pa.sl, Value.agg.injEq, Array.mk.injEq, List.cons.injEq, Value.slice.injEq, Option.some.injEq, true_and, and_true] at e5
      obtain ⟨⟨rfl, rfl⟩, ⟨rfl, rfl⟩, ⟨rfl, rfl⟩, ⟨rfl, rfl⟩, ⟨rfl, rfl⟩, ⟨rfl, rfl⟩, rfl, -, rfl⟩ := e5
      have hzI : (nj : Int) = 0 := by omega
      clear hnj hlt
      go_wp2_with fail
      clear kB lB
      go_loopw [7] (fun i wx => ∃ n : Nat, n ≤ c ∧ i = .int .i64 n ∧ wx = wr) (fun i _ => c - (intOf i).toNat)
      case atStart => exact ⟨0, Nat.zero_le _, rfl, rfl⟩
      case round =>
        obtain ⟨n, hn, rfl, hwx⟩ := hrel
        subst hwx
        have kB := HKB.out.c
        have lB := HKB.out.lt
        by_cases hlt : n < c
        · have hltI : (n : Int) < c := by omega
          have q1 : wr.cell? ⟨(A5 .wt).b, (A5 .wt).o + n * 9, none⟩ = some (.int .i64 0) := by
            have e := HM5.out.wt_ hlt 0 (by omega)
            rw [Nat.add_zero] at e
            rw [e]
            show some (Value.int .i64 (((Pr.calmZ c j Z).F.wt n).line : Nat)) = _
            rw [HLN.out n]
            rfl
          go_wp2_with fail
          go_roundw
          case rel => exact ⟨n + 1, by omega, by go_num, by first | trivial | rfl⟩
          case measure => simp [intOf]; omega
        · have hltI : ¬ (n : Int) < c := by omega
          go_wp2_with fail
          clear kB lB
          go_loopw [8] (fun i wx => ∃ n : Nat, n ≤ l ∧ i = .int .i64 n ∧ wx = wr) (fun i _ => l - (intOf i).toNat)
          case atStart => exact ⟨0, Nat.zero_le _, rfl, rfl⟩
          case round =>
            clear hltI hlt hn
            obtain ⟨m, hm, rfl, hwx⟩ := hrel
            subst hwx
            have kB := HKB.out.c
            have lB := HKB.out.lt
            by_cases hlt : m < l
            · have hltI : (m : Int) < l := by omega
              have q1 : wr.cell? ⟨(A5 .bu).b, (A5 .bu).o + m, none⟩ = some (.int .i64 0) := by
                have e : wr.cell? ⟨(A5 .bu).b, (A5 .bu).o + m, none⟩ = some (.int .i64 ((Pr.calmZ c j Z).F.busy m : Nat)) := HM5.out.cell .bu m hlt
                rw [e, HBZ.out m hlt]
                rfl
              go_wp2_with fail
              go_roundw
              case rel => exact ⟨m + 1, by omega, by go_num, by first | trivial | rfl⟩
              case measure => simp [intOf]; omega
            · have hltI : ¬ (m : Int) < l := by omega
              have kR := HKR.out.c
              have fR := HKR.out.f
              have lR := HKR.out.lt
              have hER : E ≠ R := by have h1 := HEE.out; have h2 := HRR.out; omega
              have hRE : R ≠ E := fun e => hER e.symm
              go_upto_region 18 with fail
              have hn0' : nj = 0 := by omega
              clear hposI hzI hn0
              subst hn0'
              refine region_planF (fun V : World => ∀ k : Nat, V.cell? ⟨E, k, none⟩ = (#[.slice (some ⟨(A5 .st).b, (A5 .st).o, none⟩) c (A5 .st).c, .slice (some ⟨(A5 .va).b, (A5 .va).o, none⟩) c (A5 .va).c, .slice (some ⟨(A5 .wt).b, (A5 .wt).o, none⟩) c (A5 .wt).c, .slice (some ⟨(A5 .ho).b, (A5 .ho).o, none⟩) l (A5 .ho).c, .slice (some ⟨(A5 .di).b, (A5 .di).o, none⟩) l (A5 .di).c, .slice (some ⟨(A5 .bu).b, (A5 .bu).o, none⟩) l (A5 .bu).c, .slice qp 0 qo] : Array Value)[k]?) (.read 0 (.read 1 (.read 2 (.read 3 (.read 4 (.read 5 (.one 6 (.one 7 .stop)))))))) (by kernel_rfl) (by kernel_rfl) (HKB.out.drew.c) ?_
              iterate 6
                refine planT_read (v := ?_) rfl (by rfl) ?_ ?_
                rotate_left
                · intro w' hS
                  try dsimp only at hS
                  go_simp
                  try with_reducible rfl
                try simp only [Act.put, List.setIfInBounds_toArray, List.set_cons_zero, List.set_cons_succ, List.getElem_toArray, List.getElem_cons_zero, List.getElem_cons_succ]
              obtain ⟨w6, hw6⟩ : ∃ x, x = (((((((wr.drew.setCell ⟨R, 0, none⟩ (.slice (some ⟨(A5 .st).b, (A5 .st).o, none⟩) c (A5 .st).c)).setCell ⟨R, 1, none⟩ (.slice (some ⟨(A5 .va).b, (A5 .va).o, none⟩) c (A5 .va).c)).setCell ⟨R, 2, none⟩ (.slice (some ⟨(A5 .wt).b, (A5 .wt).o, none⟩) c (A5 .wt).c)).setCell ⟨R, 3, none⟩ (.slice (some ⟨(A5 .ho).b, (A5 .ho).o, none⟩) l (A5 .ho).c)).setCell ⟨R, 4, none⟩ (.slice (some ⟨(A5 .di).b, (A5 .di).o, none⟩) l (A5 .di).c)).setCell ⟨R, 5, none⟩ (.slice (some ⟨(A5 .bu).b, (A5 .bu).o, none⟩) l (A5 .bu).c)).setCell ⟨R, 6, none⟩ (.slice qp 0 qo)) := ⟨_, rfl⟩
              have HK6 : Hid (Blk w6 E #[.slice (some ⟨(A5 .st).b, (A5 .st).o, none⟩) c (A5 .st).c, .slice (some ⟨(A5 .va).b, (A5 .va).o, none⟩) c (A5 .va).c, .slice (some ⟨(A5 .wt).b, (A5 .wt).o, none⟩) c (A5 .wt).c, .slice (some ⟨(A5 .ho).b, (A5 .ho).o, none⟩) l (A5 .ho).c, .slice (some ⟨(A5 .di).b, (A5 .di).o, none⟩) l (A5 .di).c, .slice (some ⟨(A5 .bu).b, (A5 .bu).o, none⟩) l (A5 .bu).c, .slice qp 0 qo]) := Lib.hid (by rw [hw6]; exact ((((((HKB.out.drew.other _ hRE).other _ hRE).other _ hRE).other _ hRE).other _ hRE).other _ hRE).other _ hRE)
              refine planT_one ?_
              refine op_store (w1 := w6) rfl (by rfl) ?_ ?_
              · rw [hw6]
                go_simp
              refine ⟨HK6.out.c, ?_⟩
              try simp only [Act.put, List.setIfInBounds_toArray, List.set_cons_zero, List.set_cons_succ, List.getElem_toArray, List.getElem_cons_zero, List.getElem_cons_succ]
              refine planT_one ?_
              refine op_keep (v := .bool true) rfl (by rfl) ?_ ?_
              · go_simp
              refine ⟨HK6.out.c, ?_⟩
              try simp only [Act.put, List.setIfInBounds_toArray, List.set_cons_zero, List.set_cons_succ, List.getElem_toArray, List.getElem_cons_zero, List.getElem_cons_succ]
              refine planT_stop ?_
              refine NoPanic.normal ?_
              have hs6 : Sys w6 (.agg #[.slice (some ⟨(A5 .st).b, (A5 .st).o, none⟩) c (A5 .st).c, .slice (some ⟨(A5 .va).b, (A5 .va).o, none⟩) c (A5 .va).c, .slice (some ⟨(A5 .wt).b, (A5 .wt).o, none⟩) c (A5 .wt).c, .slice (some ⟨(A5 .ho).b, (A5 .ho).o, none⟩) l (A5 .ho).c, .slice (some ⟨(A5 .di).b, (A5 .di).o, none⟩) l (A5 .di).c, .slice (some ⟨(A5 .bu).b, (A5 .bu).o, none⟩) l (A5 .bu).c, .slice qp 0 qo]) c l (Pr.calmZ c j Z) := sys_lay (HSY.out.below (Below.refl _ _).drew) HKR.out.drew rfl w6 hw6
              have hle : ∀ k, w.heap.size ≤ (⟨R, k, none⟩ : Addr).block := fun k => by show w.heap.size ≤ R; rw [HRR.out]; omega
              have hb6 : Below w.heap.size w w6 := by rw [hw6]; exact ((((((HB.out.drew.setCell (hle 0) _).setCell (hle 1) _).setCell (hle 2) _).setCell (hle 3) _).setCell (hle 4) _).setCell (hle 5) _).setCell (hle 6) _
              have HVN6 := HVN.out
              rw [HV0.out] at HVN6
              have kR6 : ∀ k : Nat, w6.cell? ⟨R, k, none⟩ = (#[.slice (some ⟨(A5 .st).b, (A5 .st).o, none⟩) c (A5 .st).c, .slice (some ⟨(A5 .va).b, (A5 .va).o, none⟩) c (A5 .va).c, .slice (some ⟨(A5 .wt).b, (A5 .wt).o, none⟩) c (A5 .wt).c, .slice (some ⟨(A5 .ho).b, (A5 .ho).o, none⟩) l (A5 .ho).c, .slice (some ⟨(A5 .di).b, (A5 .di).o, none⟩) l (A5 .di).c, .slice (some ⟨(A5 .bu).b, (A5 .bu).o, none⟩) l (A5 .bu).c, .slice qp 0 qo] : Array Value)[k]? := by
                have hk6 : Blk w6 R #[.slice (some ⟨(A5 .st).b, (A5 .st).o, none⟩) c (A5 .st).c, .slice (some ⟨(A5 .va).b, (A5 .va).o, none⟩) c (A5 .va).c, .slice (some ⟨(A5 .wt).b, (A5 .wt).o, none⟩) c (A5 .wt).c, .slice (some ⟨(A5 .ho).b, (A5 .ho).o, none⟩) l (A5 .ho).c, .slice (some ⟨(A5 .di).b, (A5 .di).o, none⟩) l (A5 .di).c, .slice (some ⟨(A5 .bu).b, (A5 .bu).o, none⟩) l (A5 .bu).c, .slice qp 0 qo] := by rw [hw6]; exact (((((((HKR.out.drew.set (n := 0) _ (by simp)).set (n := 1) _ (by simp)).set (n := 2) _ (by simp)).set (n := 3) _ (by simp)).set (n := 4) _ (by simp)).set (n := 5) _ (by simp)).set (n := 6) _ (by simp)).cast rfl
                exact hk6.c
              clear hw6 kR fR lR kB lB
              go_wp2_with fail
              exact bodyPost_ret (v := .tuple #[.agg #[.slice (some ⟨(A5 .st).b, (A5 .st).o, none⟩) c (A5 .st).c, .slice (some ⟨(A5 .va).b, (A5 .va).o, none⟩) c (A5 .va).c, .slice (some ⟨(A5 .wt).b, (A5 .wt).o, none⟩) c (A5 .wt).c, .slice (some ⟨(A5 .ho).b, (A5 .ho).o, none⟩) l (A5 .ho).c, .slice (some ⟨(A5 .di).b, (A5 .di).o, none⟩) l (A5 .di).c, .slice (some ⟨(A5 .bu).b, (A5 .bu).o, none⟩) l (A5 .bu).c, .slice qp 0 qo], .bool true]) (by simp [results, Tryz.results27, go_sem, *]) rfl ⟨_, rfl, hs6, HVN6, hb6⟩
end Go.Proofs.YtmeomdfmljanhaaGreat.Pg
/- The program's own Right of a system; awake. -/
namespace Go.Proofs.YtmeomdfmljanhaaGreat.Pg
set_option linter.unusedVariables false
open Go.ChangeShapes Go.WideShapes Go.ChangeAt Go.RowKit

theorem right_ok (v : Value) (c l : Nat) (Z : Pr.Zz) (w : World) (h : Sys w v c l Z) : Calls Tryz.prog 21 #[v] w fun e w' => e = .returned (.bool true) ∧ Below w.heap.size w w' := by
  obtain ⟨A, p, cp, xs, rfl, hm, hp⟩ := h.sv
  exact right_t hm (ok_rg h.ok) p cp xs _ hp (ok_right h.ok)
theorem sys_bu {w : World} {c l : Nat} {Z : Pr.Zz} {v0 v1 v2 v3 v4 v6 : Value} {b o k : Nat} (h : Sys w (.agg #[v0, v1, v2, v3, v4, .slice (some ⟨b, o, none⟩) l k, v6]) c l Z) {j : Nat} (hj : j < l) : w.cell? ⟨b, o + j, none⟩ = some (.int .i64 (Z.F.busy j : Nat)) := by
  obtain ⟨A, p, cp, xs, e, hm, hp⟩ := h.sv
  simp only [Pa.sl, Value.agg.injEq, Array.mk.injEq, List.cons.injEq, Value.slice.injEq, Option.some.injEq, Addr.mk.injEq, true_and, and_true] at e
  obtain ⟨_, _, _, _, _, ⟨⟨rfl, rfl⟩, rfl⟩, _⟩ := e
  exact hm.cell .bu j hj
theorem awake_facts (Y : Pr.Sy) : ∃ Z1 Z2 Z3 Z4 : Pr.Zz, Z1 = Pr.wantZ ⟨⟨fun _ _ => 0, fun _ _ => 0, fun _ => Pr.Wt.none, fun _ => 0, fun _ => 0, fun _ _ => false, fun _ => 0⟩, [], Y⟩ 0 1 true ∧ Z2 = Pr.delivZ 2 Z1 0 ∧ Z3 = Pr.delivZ 2 Z2 0 ∧ Z4 = Pr.setZ Z3 0 1 7 ∧
    Pr.wantX ⟨⟨fun _ _ => 0, fun _ _ => 0, fun _ => Pr.Wt.none, fun _ => 0, fun _ => 0, fun _ _ => false, fun _ => 0⟩, [], Y⟩ 0 1 true = 0 ∧ 0 < Z1.ms.length ∧ 0 < Z2.ms.length ∧ Pr.setX Z3 0 1 = 0 ∧ hasB Z4.F 0 1 false = true ∧ Z4.F.va 0 1 = 7 ∧ hasB Z4.F 0 1 true = true ∧ hasB Z4.F 1 1 false = false ∧ Z4.F.busy 1 = 1 :=
  ⟨_, _, _, _, rfl, rfl, rfl, rfl, by kernel_rfl, Nat.le_of_ble_eq_true (by kernel_rfl), Nat.le_of_ble_eq_true (by kernel_rfl), by kernel_rfl, by kernel_rfl, by kernel_rfl, by kernel_rfl, by kernel_rfl, by kernel_rfl⟩
set_option maxHeartbeats 4000000 in
set_option maxRecDepth 100000 in
theorem awake_ok (w : World) : Calls Tryz.prog 7 #[] w fun e w' => e = .returned (.bool true) ∧ Below w.heap.size w w' := by
  have HNEW : Hid (Calls Tryz.prog 23 #[.int .i64 2, .int .i64 2] w fun e w' => ∃ Y : Pr.Sy, (∀ k, (Y.li k).last = 0) ∧ OutZ w w' e 2 2 ⟨⟨fun _ _ => 0, fun _ _ => 0, fun _ => Pr.Wt.none, fun _ => 0, fun _ => 0, fun _ _ => false, fun _ => 0⟩, [], Y⟩ 0) := Lib.hid (new_ok 2 2 w (by omega) (by omega) (by omega) (by omega))
  go_enter Tryz.func7, Tryz.ntmps7
  go_upto_region 1 with fail
  go_wp2_with fail
  refine HNEW.out.mono ?_
  rintro e v1w ⟨Y, _, hout⟩
  have HB0 : Hid (Below w.heap.size w w) := Lib.hid (Below.refl _ _)
  clear HNEW
  obtain ⟨Z1, Z2, Z3, Z4, hZ1, hZ2, hZ3, hZ4, hX1, hM1, hM2, hX4, hA1, hA2, hA3, hA4, hA5⟩ := awake_facts Y
  obtain ⟨Z0, hZ0⟩ : ∃ Z0 : Pr.Zz, Z0 = ⟨⟨fun _ _ => 0, fun _ _ => 0, fun _ => Pr.Wt.none, fun _ => 0, fun _ => 0, fun _ _ => false, fun _ => 0⟩, [], Y⟩ := ⟨_, rfl⟩
  rw [← hZ0] at hout hZ1 hX1
  clear hZ0
  have HM1 := Lib.hid hM1
  have HM2 := Lib.hid hM2
  have HA := Lib.hid (And.intro hA1 (And.intro hA2 (And.intro hA3 (And.intro hA4 hA5))))
  have HWANT : Hid (∀ v W, Sys W v 2 2 Z0 → Calls Tryz.prog 12 #[v, .int .i64 0, .int .i64 1, .bool true] W fun e w' => OutZ W w' e 2 2 Z1 0) := Lib.hid (fun v W hS => by
    have := want_ok v 2 2 Z0 0 1 true W hS (by omega) (by omega)
    rw [← hZ1, hX1] at this
    exact this)
  have HDEL1 : Hid (∀ v W, Sys W v 2 2 Z1 → Calls Tryz.prog 9 #[v, .int .i64 0] W fun e w' => OutZ W w' e 2 2 Z2 0) := Lib.hid (fun v W hS => by
    have := deliv_ok v 2 2 Z1 0 W hS HM1.out
    rw [← hZ2] at this
    exact this)
  have HDEL2 : Hid (∀ v W, Sys W v 2 2 Z2 → Calls Tryz.prog 9 #[v, .int .i64 0] W fun e w' => OutZ W w' e 2 2 Z3 0) := Lib.hid (fun v W hS => by
    have := deliv_ok v 2 2 Z2 0 W hS HM2.out
    rw [← hZ3] at this
    exact this)
  have HSET : Hid (∀ v W, Sys W v 2 2 Z3 → Calls Tryz.prog 16 #[v, .int .i64 0, .int .i64 1, .int .u32 7] W fun e w' => OutZ W w' e 2 2 Z4 0) := Lib.hid (fun v W hS => by
    have := set_ok v 2 2 Z3 0 1 7 W hS (by omega) (by omega) (by omega)
    rw [← hZ4, hX4] at this
    exact this)
  have HGET : Hid (∀ v W, Sys W v 2 2 Z4 → Calls Tryz.prog 18 #[v, .int .i64 0, .int .i64 1] W fun e w' => e = .returned (.tuple #[.int .u32 7, .int .i64 0]) ∧ Below W.heap.size W w') := Lib.hid (fun v W hS => by
    have := get_ok v 2 2 Z4 0 1 W hS (by omega) (by omega)
    rw [HA.out.1, if_pos rfl, if_pos rfl, HA.out.2.1] at this
    exact this)
  have HHAS1 : Hid (∀ v W, Sys W v 2 2 Z4 → Calls Tryz.prog 20 #[v, .int .i64 0, .int .i64 1, .bool true] W fun e w' => e = .returned (.bool true) ∧ Below W.heap.size W w') := Lib.hid (fun v W hS => by
    have := has_ok v 2 2 Z4 0 1 true W hS (by omega) (by omega)
    rw [HA.out.2.2.1] at this
    exact this)
  have HHAS2 : Hid (∀ v W, Sys W v 2 2 Z4 → Calls Tryz.prog 20 #[v, .int .i64 1, .int .i64 1, .bool false] W fun e w' => e = .returned (.bool false) ∧ Below W.heap.size W w') := Lib.hid (fun v W hS => by
    have := has_ok v 2 2 Z4 1 1 false W hS (by omega) (by omega)
    rw [HA.out.2.2.2.1] at this
    exact this)
  clear hZ1 hZ2 hZ3 hZ4 hX1 hM1 hM2 hX4 hA1 hA2 hA3 hA4 hA5 HM1 HM2
  obtain ⟨v1, rfl, hs1, hnw1, hb1⟩ := hout
  obtain ⟨A1, p1, cp1, xs1, rfl, hm1, hp1⟩ := id hs1.sv
  simp only [Pa.sl, List.length_map] at hs1 hnw1 ⊢
  clear hm1 hp1 xs1
  obtain ⟨n1, hn1⟩ : ∃ x, x = (Z0).ms.length := ⟨_, rfl⟩
  rw [← hn1] at hs1 hnw1 ⊢
  obtain ⟨w1, hw1⟩ : ∃ x, x = v1w.alloc (.cells #[.slice (some ⟨(A1 .st).b, (A1 .st).o, none⟩) 2 (A1 .st).c, .slice (some ⟨(A1 .va).b, (A1 .va).o, none⟩) 2 (A1 .va).c, .slice (some ⟨(A1 .wt).b, (A1 .wt).o, none⟩) 2 (A1 .wt).c, .slice (some ⟨(A1 .ho).b, (A1 .ho).o, none⟩) 2 (A1 .ho).c, .slice (some ⟨(A1 .di).b, (A1 .di).o, none⟩) 2 (A1 .di).c, .slice (some ⟨(A1 .bu).b, (A1 .bu).o, none⟩) 2 (A1 .bu).c, .slice p1 n1 cp1] 32) := ⟨_, rfl⟩
  obtain ⟨E, hE1⟩ : ∃ x, x = v1w.heap.size := ⟨_, rfl⟩
  have ha1 : Below v1w.heap.size v1w w1 := by rw [hw1]; exact (Below.refl _ _).alloc (Nat.le_refl _) _
  have HBW1 : Hid (Below w.heap.size w w1) := Lib.hid (hb1.trans (ha1.mono hb1.size))
  have HB1 : Hid (Below w.heap.size w w1) := Lib.hid (HB0.out.trans (HBW1.out.mono HB0.out.size))
  have HK1 : Hid (Blk w1 E #[.slice (some ⟨(A1 .st).b, (A1 .st).o, none⟩) 2 (A1 .st).c, .slice (some ⟨(A1 .va).b, (A1 .va).o, none⟩) 2 (A1 .va).c, .slice (some ⟨(A1 .wt).b, (A1 .wt).o, none⟩) 2 (A1 .wt).c, .slice (some ⟨(A1 .ho).b, (A1 .ho).o, none⟩) 2 (A1 .ho).c, .slice (some ⟨(A1 .di).b, (A1 .di).o, none⟩) 2 (A1 .di).c, .slice (some ⟨(A1 .bu).b, (A1 .bu).o, none⟩) 2 (A1 .bu).c, .slice p1 n1 cp1]) := Lib.hid (by rw [hw1, hE1]; exact Blk.new _ _ _)
  have HS1 := Lib.hid (hs1.below ha1)
  have HEBE : Hid (w.heap.size ≤ E) := Lib.hid (by rw [hE1]; exact Nat.le_trans HB0.out.size hb1.size)
  have HW1 := Lib.hid hw1
  have HE1 := Lib.hid hE1
  have HN1 := Lib.hid hn1
  clear hw1 hE1 ha1 hb1 hs1 hnw1 hn1
  go_upto_region 2 with fail
  rw [← HE1.out]
  first | rw [← HW1.out] | fail "W1"
  clear HW1
  have kB := HK1.out.c
  have lB := HK1.out.lt
  go_wp2_with fail
  refine (HWANT.out _ _ HS1.out).mono ?_
  rintro e v2w ⟨v2, rfl, hs2, hnw2, hb2⟩
  obtain ⟨A2, p2, cp2, xs2, rfl, hm2, hp2⟩ := id hs2.sv
  simp only [Pa.sl, List.length_map] at hs2 hnw2 ⊢
  clear hm2 hp2 xs2
  obtain ⟨n2, hn2⟩ : ∃ x, x = (Z1).ms.length := ⟨_, rfl⟩
  rw [← hn2] at hs2 hnw2 ⊢
  have HSI2 := Lib.hid hs2
  have HNW2 := Lib.hid hnw2
  have HKE2 := Lib.hid (HK1.out.below hb2)
  have HSO2 := Lib.hid (HS1.out.below hb2)
  have HLE2 : Hid (E < w1.heap.size) := Lib.hid HK1.out.lt
  have HBW2 := Lib.hid hb2
  have HN2 := Lib.hid hn2
  clear hb2 hs2 hnw2 hn2 kB lB
  have kB := HKE2.out.c
  have lB := HKE2.out.lt
  have fB := HKE2.out.f
  go_upto_region 3 with fail
  obtain ⟨w2, hw2⟩ : ∃ x, x = (((((((v2w.setCell ⟨E, 0, none⟩ (.slice (some ⟨(A2 .st).b, (A2 .st).o, none⟩) 2 (A2 .st).c)).setCell ⟨E, 1, none⟩ (.slice (some ⟨(A2 .va).b, (A2 .va).o, none⟩) 2 (A2 .va).c)).setCell ⟨E, 2, none⟩ (.slice (some ⟨(A2 .wt).b, (A2 .wt).o, none⟩) 2 (A2 .wt).c)).setCell ⟨E, 3, none⟩ (.slice (some ⟨(A2 .ho).b, (A2 .ho).o, none⟩) 2 (A2 .ho).c)).setCell ⟨E, 4, none⟩ (.slice (some ⟨(A2 .di).b, (A2 .di).o, none⟩) 2 (A2 .di).c)).setCell ⟨E, 5, none⟩ (.slice (some ⟨(A2 .bu).b, (A2 .bu).o, none⟩) 2 (A2 .bu).c)).setCell ⟨E, 6, none⟩ (.slice p2 n2 cp2)) := ⟨_, rfl⟩
  first | rw [← hw2] | fail "W2"
  have HS2 : Hid (Sys w2 (.agg #[.slice (some ⟨(A2 .st).b, (A2 .st).o, none⟩) 2 (A2 .st).c, .slice (some ⟨(A2 .va).b, (A2 .va).o, none⟩) 2 (A2 .va).c, .slice (some ⟨(A2 .wt).b, (A2 .wt).o, none⟩) 2 (A2 .wt).c, .slice (some ⟨(A2 .ho).b, (A2 .ho).o, none⟩) 2 (A2 .ho).c, .slice (some ⟨(A2 .di).b, (A2 .di).o, none⟩) 2 (A2 .di).c, .slice (some ⟨(A2 .bu).b, (A2 .bu).o, none⟩) 2 (A2 .bu).c, .slice p2 n2 cp2]) 2 2 (Z1)) := Lib.hid (sys_put HSI2.out HSO2.out HKE2.out HNW2.out HLE2.out rfl w2 hw2)
  have HK2 : Hid (Blk w2 E #[.slice (some ⟨(A2 .st).b, (A2 .st).o, none⟩) 2 (A2 .st).c, .slice (some ⟨(A2 .va).b, (A2 .va).o, none⟩) 2 (A2 .va).c, .slice (some ⟨(A2 .wt).b, (A2 .wt).o, none⟩) 2 (A2 .wt).c, .slice (some ⟨(A2 .ho).b, (A2 .ho).o, none⟩) 2 (A2 .ho).c, .slice (some ⟨(A2 .di).b, (A2 .di).o, none⟩) 2 (A2 .di).c, .slice (some ⟨(A2 .bu).b, (A2 .bu).o, none⟩) 2 (A2 .bu).c, .slice p2 n2 cp2]) := Lib.hid (by rw [hw2]; exact (((((((HKE2.out.set (n := 0) _ (by simp)).set (n := 1) _ (by simp)).set (n := 2) _ (by simp)).set (n := 3) _ (by simp)).set (n := 4) _ (by simp)).set (n := 5) _ (by simp)).set (n := 6) _ (by simp)).cast rfl)
  have hle2 : ∀ k, w.heap.size ≤ (⟨E, k, none⟩ : Addr).block := fun k => HEBE.out
  have HB2 : Hid (Below w.heap.size w w2) := Lib.hid (by rw [hw2]; exact (((((((HB1.out.trans (HBW2.out.mono HB1.out.size)).setCell (hle2 0) _).setCell (hle2 1) _).setCell (hle2 2) _).setCell (hle2 3) _).setCell (hle2 4) _).setCell (hle2 5) _).setCell (hle2 6) _)
  clear hle2
  clear hw2 kB lB fB HSI2 HSO2 HKE2
  have kB := HK2.out.c
  have lB := HK2.out.lt
  go_wp2_with fail
  refine (HDEL1.out _ _ HS2.out).mono ?_
  rintro e v3w ⟨v3, rfl, hs3, hnw3, hb3⟩
  obtain ⟨A3, p3, cp3, xs3, rfl, hm3, hp3⟩ := id hs3.sv
  simp only [Pa.sl, List.length_map] at hs3 hnw3 ⊢
  clear hm3 hp3 xs3
  obtain ⟨n3, hn3⟩ : ∃ x, x = (Z2).ms.length := ⟨_, rfl⟩
  rw [← hn3] at hs3 hnw3 ⊢
  have HSI3 := Lib.hid hs3
  have HNW3 := Lib.hid hnw3
  have HKE3 := Lib.hid (HK2.out.below hb3)
  have HSO3 := Lib.hid (HS2.out.below hb3)
  have HLE3 : Hid (E < w2.heap.size) := Lib.hid HK2.out.lt
  have HBW3 := Lib.hid hb3
  have HN3 := Lib.hid hn3
  clear hb3 hs3 hnw3 hn3 kB lB
  have kB := HKE3.out.c
  have lB := HKE3.out.lt
  have fB := HKE3.out.f
  go_upto_region 4 with fail
  obtain ⟨w3, hw3⟩ : ∃ x, x = (((((((v3w.setCell ⟨E, 0, none⟩ (.slice (some ⟨(A3 .st).b, (A3 .st).o, none⟩) 2 (A3 .st).c)).setCell ⟨E, 1, none⟩ (.slice (some ⟨(A3 .va).b, (A3 .va).o, none⟩) 2 (A3 .va).c)).setCell ⟨E, 2, none⟩ (.slice (some ⟨(A3 .wt).b, (A3 .wt).o, none⟩) 2 (A3 .wt).c)).setCell ⟨E, 3, none⟩ (.slice (some ⟨(A3 .ho).b, (A3 .ho).o, none⟩) 2 (A3 .ho).c)).setCell ⟨E, 4, none⟩ (.slice (some ⟨(A3 .di).b, (A3 .di).o, none⟩) 2 (A3 .di).c)).setCell ⟨E, 5, none⟩ (.slice (some ⟨(A3 .bu).b, (A3 .bu).o, none⟩) 2 (A3 .bu).c)).setCell ⟨E, 6, none⟩ (.slice p3 n3 cp3)) := ⟨_, rfl⟩
  first | rw [← hw3] | fail "W3"
  have HS3 : Hid (Sys w3 (.agg #[.slice (some ⟨(A3 .st).b, (A3 .st).o, none⟩) 2 (A3 .st).c, .slice (some ⟨(A3 .va).b, (A3 .va).o, none⟩) 2 (A3 .va).c, .slice (some ⟨(A3 .wt).b, (A3 .wt).o, none⟩) 2 (A3 .wt).c, .slice (some ⟨(A3 .ho).b, (A3 .ho).o, none⟩) 2 (A3 .ho).c, .slice (some ⟨(A3 .di).b, (A3 .di).o, none⟩) 2 (A3 .di).c, .slice (some ⟨(A3 .bu).b, (A3 .bu).o, none⟩) 2 (A3 .bu).c, .slice p3 n3 cp3]) 2 2 (Z2)) := Lib.hid (sys_put HSI3.out HSO3.out HKE3.out HNW3.out HLE3.out rfl w3 hw3)
  have HK3 : Hid (Blk w3 E #[.slice (some ⟨(A3 .st).b, (A3 .st).o, none⟩) 2 (A3 .st).c, .slice (some ⟨(A3 .va).b, (A3 .va).o, none⟩) 2 (A3 .va).c, .slice (some ⟨(A3 .wt).b, (A3 .wt).o, none⟩) 2 (A3 .wt).c, .slice (some ⟨(A3 .ho).b, (A3 .ho).o, none⟩) 2 (A3 .ho).c, .slice (some ⟨(A3 .di).b, (A3 .di).o, none⟩) 2 (A3 .di).c, .slice (some ⟨(A3 .bu).b, (A3 .bu).o, none⟩) 2 (A3 .bu).c, .slice p3 n3 cp3]) := Lib.hid (by rw [hw3]; exact (((((((HKE3.out.set (n := 0) _ (by simp)).set (n := 1) _ (by simp)).set (n := 2) _ (by simp)).set (n := 3) _ (by simp)).set (n := 4) _ (by simp)).set (n := 5) _ (by simp)).set (n := 6) _ (by simp)).cast rfl)
  have hle3 : ∀ k, w.heap.size ≤ (⟨E, k, none⟩ : Addr).block := fun k => HEBE.out
  have HB3 : Hid (Below w.heap.size w w3) := Lib.hid (by rw [hw3]; exact (((((((HB2.out.trans (HBW3.out.mono HB2.out.size)).setCell (hle3 0) _).setCell (hle3 1) _).setCell (hle3 2) _).setCell (hle3 3) _).setCell (hle3 4) _).setCell (hle3 5) _).setCell (hle3 6) _)
  clear hle3
  clear hw3 kB lB fB HSI3 HSO3 HKE3
  have kB := HK3.out.c
  have lB := HK3.out.lt
  go_wp2_with fail
  refine (HDEL2.out _ _ HS3.out).mono ?_
  rintro e v4w ⟨v4, rfl, hs4, hnw4, hb4⟩
  obtain ⟨A4, p4, cp4, xs4, rfl, hm4, hp4⟩ := id hs4.sv
  simp only [Pa.sl, List.length_map] at hs4 hnw4 ⊢
  clear hm4 hp4 xs4
  obtain ⟨n4, hn4⟩ : ∃ x, x = (Z3).ms.length := ⟨_, rfl⟩
  rw [← hn4] at hs4 hnw4 ⊢
  have HSI4 := Lib.hid hs4
  have HNW4 := Lib.hid hnw4
  have HKE4 := Lib.hid (HK3.out.below hb4)
  have HSO4 := Lib.hid (HS3.out.below hb4)
  have HLE4 : Hid (E < w3.heap.size) := Lib.hid HK3.out.lt
  have HBW4 := Lib.hid hb4
  have HN4 := Lib.hid hn4
  clear hb4 hs4 hnw4 hn4 kB lB
  have kB := HKE4.out.c
  have lB := HKE4.out.lt
  have fB := HKE4.out.f
  go_upto_region 5 with fail
  obtain ⟨w4, hw4⟩ : ∃ x, x = (((((((v4w.setCell ⟨E, 0, none⟩ (.slice (some ⟨(A4 .st).b, (A4 .st).o, none⟩) 2 (A4 .st).c)).setCell ⟨E, 1, none⟩ (.slice (some ⟨(A4 .va).b, (A4 .va).o, none⟩) 2 (A4 .va).c)).setCell ⟨E, 2, none⟩ (.slice (some ⟨(A4 .wt).b, (A4 .wt).o, none⟩) 2 (A4 .wt).c)).setCell ⟨E, 3, none⟩ (.slice (some ⟨(A4 .ho).b, (A4 .ho).o, none⟩) 2 (A4 .ho).c)).setCell ⟨E, 4, none⟩ (.slice (some ⟨(A4 .di).b, (A4 .di).o, none⟩) 2 (A4 .di).c)).setCell ⟨E, 5, none⟩ (.slice (some ⟨(A4 .bu).b, (A4 .bu).o, none⟩) 2 (A4 .bu).c)).setCell ⟨E, 6, none⟩ (.slice p4 n4 cp4)) := ⟨_, rfl⟩
  first | rw [← hw4] | fail "W4"
  have HS4 : Hid (Sys w4 (.agg #[.slice (some ⟨(A4 .st).b, (A4 .st).o, none⟩) 2 (A4 .st).c, .slice (some ⟨(A4 .va).b, (A4 .va).o, none⟩) 2 (A4 .va).c, .slice (some ⟨(A4 .wt).b, (A4 .wt).o, none⟩) 2 (A4 .wt).c, .slice (some ⟨(A4 .ho).b, (A4 .ho).o, none⟩) 2 (A4 .ho).c, .slice (some ⟨(A4 .di).b, (A4 .di).o, none⟩) 2 (A4 .di).c, .slice (some ⟨(A4 .bu).b, (A4 .bu).o, none⟩) 2 (A4 .bu).c, .slice p4 n4 cp4]) 2 2 (Z3)) := Lib.hid (sys_put HSI4.out HSO4.out HKE4.out HNW4.out HLE4.out rfl w4 hw4)
  have HK4 : Hid (Blk w4 E #[.slice (some ⟨(A4 .st).b, (A4 .st).o, none⟩) 2 (A4 .st).c, .slice (some ⟨(A4 .va).b, (A4 .va).o, none⟩) 2 (A4 .va).c, .slice (some ⟨(A4 .wt).b, (A4 .wt).o, none⟩) 2 (A4 .wt).c, .slice (some ⟨(A4 .ho).b, (A4 .ho).o, none⟩) 2 (A4 .ho).c, .slice (some ⟨(A4 .di).b, (A4 .di).o, none⟩) 2 (A4 .di).c, .slice (some ⟨(A4 .bu).b, (A4 .bu).o, none⟩) 2 (A4 .bu).c, .slice p4 n4 cp4]) := Lib.hid (by rw [hw4]; exact (((((((HKE4.out.set (n := 0) _ (by simp)).set (n := 1) _ (by simp)).set (n := 2) _ (by simp)).set (n := 3) _ (by simp)).set (n := 4) _ (by simp)).set (n := 5) _ (by simp)).set (n := 6) _ (by simp)).cast rfl)
  have hle4 : ∀ k, w.heap.size ≤ (⟨E, k, none⟩ : Addr).block := fun k => HEBE.out
  have HB4 : Hid (Below w.heap.size w w4) := Lib.hid (by rw [hw4]; exact (((((((HB3.out.trans (HBW4.out.mono HB3.out.size)).setCell (hle4 0) _).setCell (hle4 1) _).setCell (hle4 2) _).setCell (hle4 3) _).setCell (hle4 4) _).setCell (hle4 5) _).setCell (hle4 6) _)
  clear hle4
  clear hw4 kB lB fB HSI4 HSO4 HKE4
  have kB := HK4.out.c
  have lB := HK4.out.lt
  go_wp2_with fail
  refine (HSET.out _ _ HS4.out).mono ?_
  rintro e v5w ⟨v5, rfl, hs5, hnw5, hb5⟩
  obtain ⟨A5, p5, cp5, xs5, rfl, hm5, hp5⟩ := id hs5.sv
  simp only [Pa.sl, List.length_map] at hs5 hnw5 ⊢
  clear hm5 hp5 xs5
  obtain ⟨n5, hn5⟩ : ∃ x, x = (Z4).ms.length := ⟨_, rfl⟩
  rw [← hn5] at hs5 hnw5 ⊢
  obtain ⟨w5, hw5⟩ : ∃ x, x = v5w.alloc (.cells #[.slice (some ⟨(A5 .st).b, (A5 .st).o, none⟩) 2 (A5 .st).c, .slice (some ⟨(A5 .va).b, (A5 .va).o, none⟩) 2 (A5 .va).c, .slice (some ⟨(A5 .wt).b, (A5 .wt).o, none⟩) 2 (A5 .wt).c, .slice (some ⟨(A5 .ho).b, (A5 .ho).o, none⟩) 2 (A5 .ho).c, .slice (some ⟨(A5 .di).b, (A5 .di).o, none⟩) 2 (A5 .di).c, .slice (some ⟨(A5 .bu).b, (A5 .bu).o, none⟩) 2 (A5 .bu).c, .slice p5 n5 cp5] 32) := ⟨_, rfl⟩
  obtain ⟨E6, hE5⟩ : ∃ x, x = v5w.heap.size := ⟨_, rfl⟩
  have ha5 : Below v5w.heap.size v5w w5 := by rw [hw5]; exact (Below.refl _ _).alloc (Nat.le_refl _) _
  have HBW5 : Hid (Below w4.heap.size w4 w5) := Lib.hid (hb5.trans (ha5.mono hb5.size))
  have HB5 : Hid (Below w.heap.size w w5) := Lib.hid (HB4.out.trans (HBW5.out.mono HB4.out.size))
  have HK5 : Hid (Blk w5 E6 #[.slice (some ⟨(A5 .st).b, (A5 .st).o, none⟩) 2 (A5 .st).c, .slice (some ⟨(A5 .va).b, (A5 .va).o, none⟩) 2 (A5 .va).c, .slice (some ⟨(A5 .wt).b, (A5 .wt).o, none⟩) 2 (A5 .wt).c, .slice (some ⟨(A5 .ho).b, (A5 .ho).o, none⟩) 2 (A5 .ho).c, .slice (some ⟨(A5 .di).b, (A5 .di).o, none⟩) 2 (A5 .di).c, .slice (some ⟨(A5 .bu).b, (A5 .bu).o, none⟩) 2 (A5 .bu).c, .slice p5 n5 cp5]) := Lib.hid (by rw [hw5, hE5]; exact Blk.new _ _ _)
  have HS5 := Lib.hid (hs5.below ha5)
  have HEBE6 : Hid (w.heap.size ≤ E6) := Lib.hid (by rw [hE5]; exact Nat.le_trans HB4.out.size hb5.size)
  have HW5 := Lib.hid hw5
  have HE5 := Lib.hid hE5
  have HN5 := Lib.hid hn5
  clear hw5 hE5 ha5 hb5 hs5 hnw5 hn5
  go_upto_region 6 with fail
  rw [← HE5.out]
  first | rw [← HW5.out] | fail "W5"
  clear HW5
  have kB := HK5.out.c
  have lB := HK5.out.lt
  go_wp2_with fail
  refine (HGET.out _ _ HS5.out).mono ?_
  rintro e w6 ⟨rfl, hb6⟩
  have HK6 := Lib.hid (HK5.out.below hb6)
  have HS6 := Lib.hid (HS5.out.below hb6)
  have HB6 : Hid (Below w.heap.size w w6) := Lib.hid (HB5.out.trans (hb6.mono HB5.out.size))
  clear hb6 kB lB
  have kB := HK6.out.c
  have lB := HK6.out.lt
  have q1 : w6.cell? ⟨(A5 .bu).b, (A5 .bu).o + 1, none⟩ = some (.int .i64 1) := by
    have e := sys_bu HS6.out (j := 1) (by omega)
    rw [HA.out.2.2.2.2] at e
    exact e
  go_wp2_with fail
  refine (HHAS1.out _ _ HS6.out).mono ?_
  rintro e w7 ⟨rfl, hb7⟩
  have HK7 := Lib.hid (HK6.out.below hb7)
  have HS7 := Lib.hid (HS6.out.below hb7)
  have HB7 : Hid (Below w.heap.size w w7) := Lib.hid (HB6.out.trans (hb7.mono HB6.out.size))
  clear hb7 kB lB q1
  have kB := HK7.out.c
  have lB := HK7.out.lt
  go_wp2_with fail
  refine (HHAS2.out _ _ HS7.out).mono ?_
  rintro e w8 ⟨rfl, hb8⟩
  have HK8 := Lib.hid (HK7.out.below hb8)
  have HS8 := Lib.hid (HS7.out.below hb8)
  have HB8 : Hid (Below w.heap.size w w8) := Lib.hid (HB7.out.trans (hb8.mono HB7.out.size))
  clear hb8 kB lB
  have kB := HK8.out.c
  have lB := HK8.out.lt
  have q1 : w8.cell? ⟨(A5 .bu).b, (A5 .bu).o + 1, none⟩ = some (.int .i64 1) := by
    have e := sys_bu HS8.out (j := 1) (by omega)
    rw [HA.out.2.2.2.2] at e
    exact e
  go_wp2_with fail
  refine (right_ok _ _ _ _ _ HS8.out).mono ?_
  rintro e w9 ⟨rfl, hb9⟩
  have HB9 : Hid (Below w.heap.size w w9) := Lib.hid (HB8.out.trans (hb9.mono HB8.out.size))
  clear hb9
  go_wp2_with fail
  exact bodyPost_ret (v := .bool true) (by simp [results, Tryz.results7, go_sem]) rfl ⟨rfl, HB9.out⟩
end Go.Proofs.YtmeomdfmljanhaaGreat.Pg
/- The walk of ProtoComes. -/
namespace Go.Proofs.YtmeomdfmljanhaaGreat.Pg
set_option linter.unusedVariables false
open Go.ChangeShapes Go.WideShapes Go.ChangeAt Go.RowKit

theorem sys_putO {w : World} {v : Value} {c l base : Nat} {Z Zo : Pr.Zz} (h : Sys w v c l Z) {x0 x1 x2 x3 x4 x5 : Addr} {k0 k1 k2 k3 k4 k5 no co : Nat} {po : Option Addr} (ho : Sys w (.agg #[.slice (some x0) c k0, .slice (some x1) c k1, .slice (some x2) c k2, .slice (some x3) l k3, .slice (some x4) l k4, .slice (some x5) l k5, .slice po no co]) c l Zo) {E : Nat} (hE : Blk w E #[.slice (some x0) c k0, .slice (some x1) c k1, .slice (some x2) c k2, .slice (some x3) l k3, .slice (some x4) l k4, .slice (some x5) l k5, .slice po no co]) (hn : v = .agg #[.slice (some x0) c k0, .slice (some x1) c k1, .slice (some x2) c k2, .slice (some x3) l k3, .slice (some x4) l k4, .slice (some x5) l k5, .slice po no co] ∨ Nw base v) (hlt : E < base) {u0 u1 u2 u3 u4 u5 u6 : Value} (hv : v = .agg #[u0, u1, u2, u3, u4, u5, u6]) : ∀ w', w' = (((((((w.setCell ⟨E, 0, none⟩ (u0)).setCell ⟨E, 1, none⟩ (u1)).setCell ⟨E, 2, none⟩ (u2)).setCell ⟨E, 3, none⟩ (u3)).setCell ⟨E, 4, none⟩ (u4)).setCell ⟨E, 5, none⟩ (u5)).setCell ⟨E, 6, none⟩ (u6)) → Sys w' v c l Z := by
  rcases hn with hn | hn
  · intro w' hw
    have e2 := hv.symm.trans hn
    simp only [Value.agg.injEq, Array.mk.injEq, List.cons.injEq, and_true] at e2
    obtain ⟨rfl, rfl, rfl, rfl, rfl, rfl, rfl⟩ := e2
    exact sys_again h hE hw
  · exact sys_put h ho hE hn hlt hv
def ac0 : Ac := ⟨0, 0, 0, 0, false, 0⟩
def acC (l : List Ac) : List Value := l.flatMap fun a => a.row.toList
theorem acC_len (l : List Ac) : (acC l).length = l.length * 6 := by
  induction l with
  | nil => rfl
  | cons a l ih =>
    unfold acC at ih ⊢
    rw [List.flatMap_cons, List.length_append, ih, List.length_cons]
    show 6 + _ = _
    omega
theorem acC_at : ∀ (l : List Ac) (i j : Nat), i < l.length → j < 6 → (acC l)[i * 6 + j]? = (l.getD i ac0).row[j]?
  | a :: l, 0, j, _, hj => by
    unfold acC
    rw [List.flatMap_cons, List.getElem?_append_left (by show 0 * 6 + j < 6; omega), Nat.zero_mul, Nat.zero_add]
    show a.row.toList[j]? = a.row[j]?
    rw [Array.getElem?_toList]
  | a :: l, i + 1, j, hi, hj => by
    have ih := acC_at l i j (by simpa using hi) hj
    unfold acC at ih ⊢
    rw [List.flatMap_cons, List.getElem?_append_right (by show 6 ≤ (i + 1) * 6 + j; omega), show (i + 1) * 6 + j - a.row.toList.length = i * 6 + j by show (i + 1) * 6 + j - 6 = _; omega, ih]
    rfl

set_option maxHeartbeats 4000000 in
set_option maxRecDepth 100000 in
theorem comes_main (a0 a1 : Nat) (s : Option Addr) (len cap : Nat) (L : List Ac) (a3 a4 : Nat) (wr0 : Bool) (W : World) (h0 : a0 < 256) (h1 : a1 < 256) (h3 : a3 < 256) (h4 : a4 < 256) (hL : L.length = len) (hm : len ≤ maxLen) (hs : Sl W s len (acC L)) (hok : ∀ a ∈ L, a.ok) :
    Calls Tryz.prog 5 #[.int .u8 a0, .int .u8 a1, .slice s len cap, .int .u8 a3, .int .u8 a4, .bool wr0] W fun e w' => e = .returned (.bool true) ∧ Below W.heap.size W w' := by
  obtain ⟨c1, hc1⟩ : ∃ x, x = a0 % 4 := ⟨_, rfl⟩
  obtain ⟨l1, hl1⟩ : ∃ x, x = a1 % 4 := ⟨_, rfl⟩
  have hc4 : c1 < 4 := by rw [hc1]; exact Nat.mod_lt _ (by omega)
  have hl4 : l1 < 4 := by rw [hl1]; exact Nat.mod_lt _ (by omega)
  have ht0 : ((a0 : Int)).tmod 4 = (c1 : Int) := by rw [Int.tmod_eq_emod_of_nonneg (by omega), hc1]; exact (Int.natCast_emod a0 4).symm
  have ht1 : ((a1 : Int)).tmod 4 = (l1 : Int) := by rw [Int.tmod_eq_emod_of_nonneg (by omega), hl1]; exact (Int.natCast_emod a1 4).symm
  have he0 : (a0 : Int) % 4 = (c1 : Int) := by rw [hc1]; exact (Int.natCast_emod a0 4).symm
  have he1 : (a1 : Int) % 4 = (l1 : Int) := by rw [hl1]; exact (Int.natCast_emod a1 4).symm
  have HNEW : Hid (∀ V, Calls Tryz.prog 23 #[.int .i64 ((c1 : Int) + 1), .int .i64 ((l1 : Int) + 1)] V fun e w' => ∃ Y : Pr.Sy, (∀ k, (Y.li k).last = 0) ∧ OutZ V w' e (c1 + 1) (l1 + 1) ⟨⟨fun _ _ => 0, fun _ _ => 0, fun _ => Pr.Wt.none, fun _ => 0, fun _ => 0, fun _ _ => false, fun _ => 0⟩, [], Y⟩ 0) := Lib.hid (fun V => new_ok (c1 + 1) (l1 + 1) V (by omega) (by omega) (by omega) (by omega))
  have HSL := Lib.hid hs
  have HOK := Lib.hid hok
  have HLL := Lib.hid hL
  clear hs hok hL hc1 hl1
  go_enter Tryz.func5, Tryz.ntmps5
  go_upto_region 1 with fail
  go_wp2_with fail
  refine (awake_ok W).mono ?_
  rintro e w0 ⟨rfl, hb0⟩
  have HB0 := Lib.hid hb0
  clear hb0
  have f0 : IntKind.i64.wrap (c1 : Int) = (c1 : Int) := wrapA rfl (by omega)
  have f1 : IntKind.i64.wrap (l1 : Int) = (l1 : Int) := wrapA rfl (by omega)
  have g0 : IntKind.u8.wrap (c1 : Int) = (c1 : Int) := by rw [IntKind.wrap_u8]; omega
  have g1 : IntKind.u8.wrap (l1 : Int) = (l1 : Int) := by rw [IntKind.wrap_u8]; omega
  go_wp2_with fail
  refine (HNEW.out w0).mono ?_
  rintro e v1w ⟨Y, _, hout⟩
  obtain ⟨c, hc⟩ : ∃ c, c = c1 + 1 := ⟨_, rfl⟩
  obtain ⟨l, hl⟩ : ∃ l, l = l1 + 1 := ⟨_, rfl⟩
  obtain ⟨Z0, hZ0⟩ : ∃ Z0 : Pr.Zz, Z0 = ⟨⟨fun _ _ => 0, fun _ _ => 0, fun _ => Pr.Wt.none, fun _ => 0, fun _ => 0, fun _ _ => false, fun _ => 0⟩, [], Y⟩ := ⟨_, rfl⟩
  rw [← hc, ← hl, ← hZ0] at hout
  have hcc : 1 ≤ c ∧ c ≤ 4 := by omega
  have hll : 1 ≤ l ∧ l ≤ 4 := by omega
  clear HNEW ht0 ht1 he0 he1 f0 f1 g0 g1 hZ0 hc hl hc4 hl4
  obtain ⟨v1, rfl, hs1, hnw1, hb1⟩ := hout
  obtain ⟨A1, p1, cp1, xs1, rfl, hm1, hp1⟩ := id hs1.sv
  simp only [Pa.sl, List.length_map] at hs1 hnw1 ⊢
  clear hm1 hp1 xs1
  obtain ⟨n1, hn1⟩ : ∃ x, x = (Z0).ms.length := ⟨_, rfl⟩
  rw [← hn1] at hs1 hnw1 ⊢
  obtain ⟨w1, hw1⟩ : ∃ x, x = v1w.alloc (.cells #[.slice (some ⟨(A1 .st).b, (A1 .st).o, none⟩) c (A1 .st).c, .slice (some ⟨(A1 .va).b, (A1 .va).o, none⟩) c (A1 .va).c, .slice (some ⟨(A1 .wt).b, (A1 .wt).o, none⟩) c (A1 .wt).c, .slice (some ⟨(A1 .ho).b, (A1 .ho).o, none⟩) l (A1 .ho).c, .slice (some ⟨(A1 .di).b, (A1 .di).o, none⟩) l (A1 .di).c, .slice (some ⟨(A1 .bu).b, (A1 .bu).o, none⟩) l (A1 .bu).c, .slice p1 n1 cp1] 32) := ⟨_, rfl⟩
  obtain ⟨E, hE1⟩ : ∃ x, x = v1w.heap.size := ⟨_, rfl⟩
  have ha1 : Below v1w.heap.size v1w w1 := by rw [hw1]; exact (Below.refl _ _).alloc (Nat.le_refl _) _
  have HBW1 : Hid (Below w0.heap.size w0 w1) := Lib.hid (hb1.trans (ha1.mono hb1.size))
  have HB1 : Hid (Below W.heap.size W w1) := Lib.hid (HB0.out.trans (HBW1.out.mono HB0.out.size))
  have HK1 : Hid (Blk w1 E #[.slice (some ⟨(A1 .st).b, (A1 .st).o, none⟩) c (A1 .st).c, .slice (some ⟨(A1 .va).b, (A1 .va).o, none⟩) c (A1 .va).c, .slice (some ⟨(A1 .wt).b, (A1 .wt).o, none⟩) c (A1 .wt).c, .slice (some ⟨(A1 .ho).b, (A1 .ho).o, none⟩) l (A1 .ho).c, .slice (some ⟨(A1 .di).b, (A1 .di).o, none⟩) l (A1 .di).c, .slice (some ⟨(A1 .bu).b, (A1 .bu).o, none⟩) l (A1 .bu).c, .slice p1 n1 cp1]) := Lib.hid (by rw [hw1, hE1]; exact Blk.new _ _ _)
  have HS1 := Lib.hid (hs1.below ha1)
  have HEBE : Hid (W.heap.size ≤ E) := Lib.hid (by rw [hE1]; exact Nat.le_trans HB0.out.size hb1.size)
  have HW1 := Lib.hid hw1
  have HE1 := Lib.hid hE1
  have HN1 := Lib.hid hn1
  clear hw1 hE1 ha1 hb1 hs1 hnw1 hn1
  go_upto_region 4 with fail
  rw [← HE1.out]
  first | rw [← HW1.out] | fail "W1"
  clear HW1
  have kB := HK1.out.c
  have lB := HK1.out.lt
  go_wp2_with fail
  clear kB lB
  have HINV : Hid (∃ Zk : Pr.Zz, ∃ (y0 y1 y2 y3 y4 y5 : Addr) (q0 q1 q2 q3 q4 q5 qo : Nat) (qp : Option Addr), Blk w1 E #[.slice (some y0) c q0, .slice (some y1) c q1, .slice (some y2) c q2, .slice (some y3) l q3, .slice (some y4) l q4, .slice (some y5) l q5, .slice qp Zk.ms.length qo] ∧ Sys w1 (.agg #[.slice (some y0) c q0, .slice (some y1) c q1, .slice (some y2) c q2, .slice (some y3) l q3, .slice (some y4) l q4, .slice (some y5) l q5, .slice qp Zk.ms.length qo]) c l Zk) := Lib.hid ⟨Z0, _, _, _, _, _, _, _, _, _, _, _, _, _, _, by rw [← HN1.out]; exact HK1.out, by rw [← HN1.out]; exact HS1.out⟩
  go_loopw [15] (fun i wr => ∃ k : Nat, k ≤ len ∧ k ≤ 100 ∧ i = .int .i64 k ∧ (∃ Zk : Pr.Zz, ∃ (y0 y1 y2 y3 y4 y5 : Addr) (q0 q1 q2 q3 q4 q5 qo : Nat) (qp : Option Addr), Blk wr E #[.slice (some y0) c q0, .slice (some y1) c q1, .slice (some y2) c q2, .slice (some y3) l q3, .slice (some y4) l q4, .slice (some y5) l q5, .slice qp Zk.ms.length qo] ∧ Sys wr (.agg #[.slice (some y0) c q0, .slice (some y1) c q1, .slice (some y2) c q2, .slice (some y3) l q3, .slice (some y4) l q4, .slice (some y5) l q5, .slice qp Zk.ms.length qo]) c l Zk) ∧ Below W.heap.size W wr) (fun i _ => 100 - (intOf i).toNat)
  case atStart => exact ⟨0, Nat.zero_le _, by omega, rfl, HINV.out, HB1.out⟩
  case round =>
    obtain ⟨k, hkl, hk100, rfl, ⟨Zk, y0, y1, y2, y3, y4, y5, q0, q1, q2, q3, q4, q5, qo, qp, hkb, hsy⟩, hb⟩ := hrel
    clear HINV HK1 HS1 HB1 HBW1 HB0
    obtain ⟨nk, hnk⟩ : ∃ x, x = Zk.ms.length := ⟨_, rfl⟩
    rw [← hnk] at hkb hsy
    have HNK := Lib.hid hnk
    clear hnk
    have HK2 := Lib.hid hkb
    have HS2 := Lib.hid hsy
    have HB2 := Lib.hid hb
    clear hkb hsy hb
    have kB := HK2.out.c
    have lB := HK2.out.lt
    by_cases hlt : k < len ∧ k < 100
    · obtain ⟨hlt1, hlt2⟩ := hlt
      have hltI : (k : Int) < len := by omega
      have hltJ : (k : Int) < 100 := by omega
      obtain ⟨b, off, hsb, hse, hcs⟩ := HSL.out (by omega)
      have hEs : E ≠ b := by have := HEBE.out; omega
      obtain ⟨a, ha⟩ : ∃ a, a = L.getD k ac0 := ⟨_, rfl⟩
      have haok : a.ok := by
        rw [ha, List.getD_eq_getElem?_getD, List.getElem?_eq_getElem (by rw [HLL.out]; exact hlt1)]
        exact HOK.out _ (List.getElem_mem _)
      have hrow : ∀ j, j < 6 → wr.cell? ⟨b, off + k * 6 + j, none⟩ = a.row[j]? := fun j hj => by
        rw [Nat.add_assoc, HB2.out.cell (p := ⟨b, off + (k * 6 + j), none⟩) hsb, hcs (k * 6 + j) (by rw [acC_len, HLL.out]; omega), acC_at L k j (by rw [HLL.out]; exact hlt1) hj, ha]
      clear ha hcs
      obtain ⟨kd, an, al, aa, aw, vl⟩ := a
      have HDO : Hid (Calls Tryz.prog 25 #[.agg #[.slice (some y0) c q0, .slice (some y1) c q1, .slice (some y2) c q2, .slice (some y3) l q3, .slice (some y4) l q4, .slice (some y5) l q5, .slice qp nk qo], .agg #[.int .u8 kd, .int .u8 an, .int .u8 al, .int .u8 aa, .bool aw, .int .u32 vl]] wr.drew fun e w' => OutZ wr.drew w' e c l (doZ c l Zk ⟨kd, an, al, aa, aw, vl⟩) (doX c l Zk ⟨kd, an, al, aa, aw, vl⟩)) := Lib.hid (do_ok _ c l Zk ⟨kd, an, al, aa, aw, vl⟩ wr.drew (HS2.out.below (Below.refl _ _).drew) haok)
      clear haok
      have r0 : wr.cell? ⟨b, off + k * 6, none⟩ = some (.int .u8 kd) := hrow 0 (by omega)
      have r1 : wr.cell? ⟨b, off + k * 6 + 1, none⟩ = some (.int .u8 an) := hrow 1 (by omega)
      have r2 : wr.cell? ⟨b, off + k * 6 + 2, none⟩ = some (.int .u8 al) := hrow 2 (by omega)
      have r3 : wr.cell? ⟨b, off + k * 6 + 3, none⟩ = some (.int .u8 aa) := hrow 3 (by omega)
      have r4 : wr.cell? ⟨b, off + k * 6 + 4, none⟩ = some (.bool aw) := hrow 4 (by omega)
      have r5 : wr.cell? ⟨b, off + k * 6 + 5, none⟩ = some (.int .u32 vl) := hrow 5 (by omega)
      clear hrow
      obtain ⟨Zn, hZn⟩ : ∃ x, x = doZ c l Zk ⟨kd, an, al, aa, aw, vl⟩ := ⟨_, rfl⟩
      obtain ⟨Xn, hXn⟩ : ∃ x, x = doX c l Zk ⟨kd, an, al, aa, aw, vl⟩ := ⟨_, rfl⟩
      rw [← hZn, ← hXn] at HDO
      clear hZn hXn
      rw [hse]
      go_upto_region 9 with fail
      refine region_planF (fun V : World => V.cell? ⟨b, off + k * 6, none⟩ = some (.int .u8 kd) ∧ V.cell? ⟨b, off + k * 6 + 1, none⟩ = some (.int .u8 an) ∧ V.cell? ⟨b, off + k * 6 + 2, none⟩ = some (.int .u8 al) ∧ V.cell? ⟨b, off + k * 6 + 3, none⟩ = some (.int .u8 aa) ∧ V.cell? ⟨b, off + k * 6 + 4, none⟩ = some (.bool aw) ∧ V.cell? ⟨b, off + k * 6 + 5, none⟩ = some (.int .u32 vl)) (.read 1 (.read 2 (.read 3 (.read 4 (.one 0 (.one 5 (.read 6 (.read 7 (.read 8 (.one 9 .stop)))))))))) (by kernel_rfl) (by kernel_rfl) ⟨r0, r1, r2, r3, r4, r5⟩ ?_
      iterate 4
        refine planT_read (v := ?_) rfl (by rfl) ?_ ?_
        rotate_left
        · intro w' hS
          try dsimp only at hS
          go_simp
          try with_reducible rfl
        try simp only [Act.put, List.setIfInBounds_toArray, List.set_cons_zero, List.set_cons_succ, List.getElem_toArray, List.getElem_cons_zero, List.getElem_cons_succ]
      refine planT_one ?_
      refine op_keep (v := .agg #[.slice (some y0) c q0, .slice (some y1) c q1, .slice (some y2) c q2, .slice (some y3) l q3, .slice (some y4) l q4, .slice (some y5) l q5, .slice qp nk qo]) rfl (by rfl) ?_ ?_
      · go_simp
      refine ⟨⟨r0, r1, r2, r3, r4, r5⟩, ?_⟩
      try simp only [Act.put, List.setIfInBounds_toArray, List.set_cons_zero, List.set_cons_succ, List.getElem_toArray, List.getElem_cons_zero, List.getElem_cons_succ]
      refine planT_one ?_
      refine op_call (F := 25) (args := #[.agg #[.slice (some y0) c q0, .slice (some y1) c q1, .slice (some y2) c q2, .slice (some y3) l q3, .slice (some y4) l q4, .slice (some y5) l q5, .slice qp nk qo], .agg #[.int .u8 kd, .int .u8 an, .int .u8 al, .int .u8 aa, .bool aw, .int .u32 vl]]) rfl (by rfl) (by go_simp) ?_
      refine HDO.out.mono ?_
      rintro e w3 ⟨v3, rfl, hs3, hnw3, hb3⟩
      obtain ⟨A3, p3, cp3, xs3, rfl, hm3, hp3⟩ := id hs3.sv
      simp only [Pa.sl, List.length_map] at hs3 hnw3 ⊢
      clear hm3 hp3 xs3
      obtain ⟨n3, hn3⟩ : ∃ x, x = (Zn).ms.length := ⟨_, rfl⟩
      rw [← hn3] at hs3 hnw3 ⊢
      have hbr : Below wr.heap.size wr w3 := (Below.refl _ _).drew.trans hb3
      have hbw : b < wr.heap.size := Nat.lt_of_lt_of_le hsb HB2.out.size
      obtain ⟨w4, hw4⟩ : ∃ x, x = (((((((w3.setCell ⟨E, 0, none⟩ (.slice (some ⟨(A3 .st).b, (A3 .st).o, none⟩) c (A3 .st).c)).setCell ⟨E, 1, none⟩ (.slice (some ⟨(A3 .va).b, (A3 .va).o, none⟩) c (A3 .va).c)).setCell ⟨E, 2, none⟩ (.slice (some ⟨(A3 .wt).b, (A3 .wt).o, none⟩) c (A3 .wt).c)).setCell ⟨E, 3, none⟩ (.slice (some ⟨(A3 .ho).b, (A3 .ho).o, none⟩) l (A3 .ho).c)).setCell ⟨E, 4, none⟩ (.slice (some ⟨(A3 .di).b, (A3 .di).o, none⟩) l (A3 .di).c)).setCell ⟨E, 5, none⟩ (.slice (some ⟨(A3 .bu).b, (A3 .bu).o, none⟩) l (A3 .bu).c)).setCell ⟨E, 6, none⟩ (.slice p3 n3 cp3)) := ⟨_, rfl⟩
      have hke := HK2.out.below hbr
      have HS4 : Hid (Sys w4 (.agg #[.slice (some ⟨(A3 .st).b, (A3 .st).o, none⟩) c (A3 .st).c, .slice (some ⟨(A3 .va).b, (A3 .va).o, none⟩) c (A3 .va).c, .slice (some ⟨(A3 .wt).b, (A3 .wt).o, none⟩) c (A3 .wt).c, .slice (some ⟨(A3 .ho).b, (A3 .ho).o, none⟩) l (A3 .ho).c, .slice (some ⟨(A3 .di).b, (A3 .di).o, none⟩) l (A3 .di).c, .slice (some ⟨(A3 .bu).b, (A3 .bu).o, none⟩) l (A3 .bu).c, .slice p3 n3 cp3]) c l Zn) := Lib.hid (sys_put hs3 (HS2.out.below hbr) hke (hnw3) lB rfl w4 hw4)
      have HK4 : Hid (Blk w4 E #[.slice (some ⟨(A3 .st).b, (A3 .st).o, none⟩) c (A3 .st).c, .slice (some ⟨(A3 .va).b, (A3 .va).o, none⟩) c (A3 .va).c, .slice (some ⟨(A3 .wt).b, (A3 .wt).o, none⟩) c (A3 .wt).c, .slice (some ⟨(A3 .ho).b, (A3 .ho).o, none⟩) l (A3 .ho).c, .slice (some ⟨(A3 .di).b, (A3 .di).o, none⟩) l (A3 .di).c, .slice (some ⟨(A3 .bu).b, (A3 .bu).o, none⟩) l (A3 .bu).c, .slice p3 n3 cp3]) := Lib.hid (by rw [hw4]; exact (((((((hke.set (n := 0) _ (by simp)).set (n := 1) _ (by simp)).set (n := 2) _ (by simp)).set (n := 3) _ (by simp)).set (n := 4) _ (by simp)).set (n := 5) _ (by simp)).set (n := 6) _ (by simp)).cast rfl)
      have hle4 : ∀ k, W.heap.size ≤ (⟨E, k, none⟩ : Addr).block := fun k => HEBE.out
      have HB4 : Hid (Below W.heap.size W w4) := Lib.hid (by rw [hw4]; exact (((((((HB2.out.trans (hbr.mono HB2.out.size)).setCell (hle4 0) _).setCell (hle4 1) _).setCell (hle4 2) _).setCell (hle4 3) _).setCell (hle4 4) _).setCell (hle4 5) _).setCell (hle4 6) _)
      have hoth : ∀ o, w4.cell? ⟨b, o, none⟩ = wr.cell? ⟨b, o, none⟩ := fun o => by
        have hx : ∀ k, (⟨E, k, none⟩ : Addr) ≠ ⟨b, o, none⟩ := fun k e => by injection e with e; exact hEs e
        rw [hw4, World.cell?_setCell_other _ _ _ _ (hx 6), World.cell?_setCell_other _ _ _ _ (hx 5), World.cell?_setCell_other _ _ _ _ (hx 4), World.cell?_setCell_other _ _ _ _ (hx 3), World.cell?_setCell_other _ _ _ _ (hx 2), World.cell?_setCell_other _ _ _ _ (hx 1), World.cell?_setCell_other _ _ _ _ (hx 0)]
        exact hbr.cell (p := ⟨b, o, none⟩) hbw
      have h3 : ∀ o, w3.cell? ⟨b, o, none⟩ = wr.cell? ⟨b, o, none⟩ := fun o => hbr.cell (p := ⟨b, o, none⟩) hbw
      have HR4 := Lib.hid (And.intro ((hoth _).trans r0) (And.intro ((hoth _).trans r1) (And.intro ((hoth _).trans r2) (And.intro ((hoth _).trans r3) (And.intro ((hoth _).trans r4) ((hoth _).trans r5))))))
      have HR3 := Lib.hid (And.intro ((h3 _).trans r0) (And.intro ((h3 _).trans r1) (And.intro ((h3 _).trans r2) (And.intro ((h3 _).trans r3) (And.intro ((h3 _).trans r4) ((h3 _).trans r5))))))
      have HN3 := Lib.hid hn3
      have kB3 := hke.c
      have lB3 := hke.lt
      have fB3 := hke.f
      clear hoth h3 r0 r1 r2 r3 r4 r5 kB lB hke hle4 hbr hbw hs3 hnw3 hb3 HDO hn3
      refine ⟨_, rfl, HR3.out, ?_⟩
      try simp only [Act.put, List.setIfInBounds_toArray, List.set_cons_zero, List.set_cons_succ, List.getElem_toArray, List.getElem_cons_zero, List.getElem_cons_succ]
      iterate 3
        refine planT_read (v := ?_) rfl (by rfl) ?_ ?_
        rotate_left
        · intro w' hS
          try dsimp only at hS
          go_simp
          try with_reducible rfl
        try simp only [Act.put, List.setIfInBounds_toArray, List.set_cons_zero, List.set_cons_succ, List.getElem_toArray, List.getElem_cons_zero, List.getElem_cons_succ]
      refine planT_one ?_
      refine op_store (w1 := w4) rfl (by rfl) ?_ ?_
      · rw [hw4]
        go_simp
      refine ⟨HR4.out, ?_⟩
      try simp only [Act.put, List.setIfInBounds_toArray, List.set_cons_zero, List.set_cons_succ, List.getElem_toArray, List.getElem_cons_zero, List.getElem_cons_succ]
      refine planT_stop ?_
      refine NoPanic.normal ?_
      clear hw4 kB3 lB3 fB3 HR4 HR3
      go_wp2_with fail
      go_roundw
      case rel => exact ⟨k + 1, by omega, by omega, by go_num, ⟨Zn, _, _, _, _, _, _, _, _, _, _, _, _, _, _, by rw [← HN3.out]; exact HK4.out, by rw [← HN3.out]; exact HS4.out⟩, HB4.out⟩
      case measure => simp [intOf]; omega
    · by_cases hA : k < len
      · have hltI : (k : Int) < len := by omega
        have hltJ : ¬ (k : Int) < 100 := by omega
        clear hlt hA hkl hk100
        obtain ⟨N, hN, hN0, hNe⟩ := Pr.calm_ends HS2.out.ok
        obtain ⟨Zc, hZc⟩ : ∃ x, x = Pr.calmZ c N Zk := ⟨_, rfl⟩
        have HCALM : Hid (Calls Tryz.prog 27 #[.agg #[.slice (some y0) c q0, .slice (some y1) c q1, .slice (some y2) c q2, .slice (some y3) l q3, .slice (some y4) l q4, .slice (some y5) l q5, .slice qp nk qo]] wr fun e w' => CalmO wr w' e (.agg #[.slice (some y0) c q0, .slice (some y1) c q1, .slice (some y2) c q2, .slice (some y3) l q3, .slice (some y4) l q4, .slice (some y5) l q5, .slice qp nk qo]) c l Zc) := Lib.hid (by rw [hZc]; exact calm_any _ c l Zk N wr HS2.out hN hN0 hNe)
        rw [← hZc] at hN0
        have HQ := Lib.hid hN0
        clear hN0 hNe hN hZc
        go_wp2_with fail
        refine (HCALM.out).mono ?_
        rintro e v5w ⟨v5, rfl, hs5, hnw5, hb5⟩
        obtain ⟨A5, p5, cp5, xs5, rfl, hm5, hp5⟩ := id hs5.sv
        simp only [Pa.sl, List.length_map] at hs5 hnw5 ⊢
        clear hm5 hp5 xs5
        obtain ⟨n5, hn5⟩ : ∃ x, x = (Zc).ms.length := ⟨_, rfl⟩
        rw [← hn5] at hs5 hnw5 ⊢
        have HSI5 := Lib.hid hs5
        have HNW5 := Lib.hid hnw5
        have HKE5 := Lib.hid (HK2.out.below hb5)
        have HSO5 := Lib.hid (HS2.out.below hb5)
        have HLE5 : Hid (E < wr.heap.size) := Lib.hid HK2.out.lt
        have HBW5 := Lib.hid hb5
        have HN5 := Lib.hid hn5
        clear hb5 hs5 hnw5 hn5 kB lB
        have kB := HKE5.out.c
        have lB := HKE5.out.lt
        have fB := HKE5.out.f
        go_upto_region 11 with fail
        obtain ⟨w5, hw5⟩ : ∃ x, x = (((((((v5w.setCell ⟨E, 0, none⟩ (.slice (some ⟨(A5 .st).b, (A5 .st).o, none⟩) c (A5 .st).c)).setCell ⟨E, 1, none⟩ (.slice (some ⟨(A5 .va).b, (A5 .va).o, none⟩) c (A5 .va).c)).setCell ⟨E, 2, none⟩ (.slice (some ⟨(A5 .wt).b, (A5 .wt).o, none⟩) c (A5 .wt).c)).setCell ⟨E, 3, none⟩ (.slice (some ⟨(A5 .ho).b, (A5 .ho).o, none⟩) l (A5 .ho).c)).setCell ⟨E, 4, none⟩ (.slice (some ⟨(A5 .di).b, (A5 .di).o, none⟩) l (A5 .di).c)).setCell ⟨E, 5, none⟩ (.slice (some ⟨(A5 .bu).b, (A5 .bu).o, none⟩) l (A5 .bu).c)).setCell ⟨E, 6, none⟩ (.slice p5 n5 cp5)) := ⟨_, rfl⟩
        first | rw [← hw5] | fail "W5"
        have HS5 : Hid (Sys w5 (.agg #[.slice (some ⟨(A5 .st).b, (A5 .st).o, none⟩) c (A5 .st).c, .slice (some ⟨(A5 .va).b, (A5 .va).o, none⟩) c (A5 .va).c, .slice (some ⟨(A5 .wt).b, (A5 .wt).o, none⟩) c (A5 .wt).c, .slice (some ⟨(A5 .ho).b, (A5 .ho).o, none⟩) l (A5 .ho).c, .slice (some ⟨(A5 .di).b, (A5 .di).o, none⟩) l (A5 .di).c, .slice (some ⟨(A5 .bu).b, (A5 .bu).o, none⟩) l (A5 .bu).c, .slice p5 n5 cp5]) c l (Zc)) := Lib.hid (sys_putO HSI5.out HSO5.out HKE5.out HNW5.out HLE5.out rfl w5 hw5)
        have HK5 : Hid (Blk w5 E #[.slice (some ⟨(A5 .st).b, (A5 .st).o, none⟩) c (A5 .st).c, .slice (some ⟨(A5 .va).b, (A5 .va).o, none⟩) c (A5 .va).c, .slice (some ⟨(A5 .wt).b, (A5 .wt).o, none⟩) c (A5 .wt).c, .slice (some ⟨(A5 .ho).b, (A5 .ho).o, none⟩) l (A5 .ho).c, .slice (some ⟨(A5 .di).b, (A5 .di).o, none⟩) l (A5 .di).c, .slice (some ⟨(A5 .bu).b, (A5 .bu).o, none⟩) l (A5 .bu).c, .slice p5 n5 cp5]) := Lib.hid (by rw [hw5]; exact (((((((HKE5.out.set (n := 0) _ (by simp)).set (n := 1) _ (by simp)).set (n := 2) _ (by simp)).set (n := 3) _ (by simp)).set (n := 4) _ (by simp)).set (n := 5) _ (by simp)).set (n := 6) _ (by simp)).cast rfl)
        have hle5 : ∀ k, W.heap.size ≤ (⟨E, k, none⟩ : Addr).block := fun k => HEBE.out
        have HB5 : Hid (Below W.heap.size W w5) := Lib.hid (by rw [hw5]; exact (((((((HB2.out.trans (HBW5.out.mono HB2.out.size)).setCell (hle5 0) _).setCell (hle5 1) _).setCell (hle5 2) _).setCell (hle5 3) _).setCell (hle5 4) _).setCell (hle5 5) _).setCell (hle5 6) _)
        clear hle5 hw5 kB lB fB HSI5 HSO5 HKE5
        have kB := HK5.out.c
        have lB := HK5.out.lt
        clear HK2 HS2 HB2 HCALM
        obtain ⟨n0, hn0⟩ : ∃ x, x = a3 % c := ⟨_, rfl⟩
        obtain ⟨m0, hm0⟩ : ∃ x, x = a4 % l := ⟨_, rfl⟩
        have htn : ((a3 : Int)).tmod (c : Int) = (n0 : Int) := by rw [Int.tmod_eq_emod_of_nonneg (by omega), hn0]; exact (Int.natCast_emod a3 c).symm
        have htm : ((a4 : Int)).tmod (l : Int) = (m0 : Int) := by rw [Int.tmod_eq_emod_of_nonneg (by omega), hm0]; exact (Int.natCast_emod a4 l).symm
        have hnc : n0 < c := by rw [hn0]; exact Nat.mod_lt _ (by omega)
        have hml : m0 < l := by rw [hm0]; exact Nat.mod_lt _ (by omega)
        have hc0 : ¬ (c : Int) = 0 := by omega
        have hl0 : ¬ (l : Int) = 0 := by omega
        have hc0n : ¬ c = 0 := by omega
        have hl0n : ¬ l = 0 := by omega
        have f3 : IntKind.i64.wrap (a3 : Int) = (a3 : Int) := wrapA rfl (by omega)
        have f4 : IntKind.i64.wrap (a4 : Int) = (a4 : Int) := wrapA rfl (by omega)
        clear hn0 hm0
        go_upto_region 13 with fail
        refine region_planF (fun V : World => V = w5.drew) (.read 0 (.read 1 (.read 2 (.read 3 (.read 4 (.read 5 (.read 6 (.read 7 (.read 8 (.read 9 (.read 10 (.read 11 (.one 12 (.one 13 .stop)))))))))))))) (by kernel_rfl) (by kernel_rfl) rfl ?_
        iterate 12
          refine planT_read (v := ?_) rfl (by rfl) ?_ ?_
          rotate_left
          · intro w' hS
            try dsimp only at hS
            go_simp
            try with_reducible rfl
          try simp only [Act.put, List.setIfInBounds_toArray, List.set_cons_zero, List.set_cons_succ, List.getElem_toArray, List.getElem_cons_zero, List.getElem_cons_succ]
        refine planT_one ?_
        refine op_keep (v := .int .i64 (n0 : Int)) rfl (by rfl) ?_ ?_
        · go_simp
        refine ⟨rfl, ?_⟩
        try simp only [Act.put, List.setIfInBounds_toArray, List.set_cons_zero, List.set_cons_succ, List.getElem_toArray, List.getElem_cons_zero, List.getElem_cons_succ]
        refine planT_one ?_
        refine op_keep (v := .int .i64 (m0 : Int)) rfl (by rfl) ?_ ?_
        · go_simp
        refine ⟨rfl, ?_⟩
        try simp only [Act.put, List.setIfInBounds_toArray, List.set_cons_zero, List.set_cons_succ, List.getElem_toArray, List.getElem_cons_zero, List.getElem_cons_succ]
        refine planT_stop ?_
        refine NoPanic.normal ?_
        clear htn htm f3 f4 hc0 hl0 hc0n hl0n kB lB
        have kB := HK5.out.drew.c
        have lB := HK5.out.drew.lt
        obtain ⟨bh, hbh⟩ : ∃ x, x = hasB Zc.F n0 m0 wr0 := ⟨_, rfl⟩
        have HHAS : Hid (Calls Tryz.prog 20 #[.agg #[.slice (some ⟨(A5 .st).b, (A5 .st).o, none⟩) c (A5 .st).c, .slice (some ⟨(A5 .va).b, (A5 .va).o, none⟩) c (A5 .va).c, .slice (some ⟨(A5 .wt).b, (A5 .wt).o, none⟩) c (A5 .wt).c, .slice (some ⟨(A5 .ho).b, (A5 .ho).o, none⟩) l (A5 .ho).c, .slice (some ⟨(A5 .di).b, (A5 .di).o, none⟩) l (A5 .di).c, .slice (some ⟨(A5 .bu).b, (A5 .bu).o, none⟩) l (A5 .bu).c, .slice p5 n5 cp5], .int .i64 n0, .int .i64 m0, .bool wr0] w5.drew fun e w' => e = .returned (.bool bh) ∧ Below w5.drew.heap.size w5.drew w') := Lib.hid (by rw [hbh]; exact has_ok _ c l Zc n0 m0 wr0 w5.drew (HS5.out.below (Below.refl _ _).drew) hnc hml)
        have HBH := Lib.hid hbh
        clear hbh
        go_wp2_with fail
        refine (HHAS.out).mono ?_
        rintro e w6 ⟨rfl, hb6⟩
        have hb56 : Below w5.heap.size w5 w6 := (Below.refl _ _).drew.trans hb6
        have HK6 := Lib.hid (HK5.out.below hb56)
        have HS6 := Lib.hid (HS5.out.below hb56)
        have HB6 : Hid (Below W.heap.size W w6) := Lib.hid (HB5.out.trans (hb56.mono HB5.out.size))
        clear hb56 hb6 kB lB HHAS HK5 HS5 HB5 HBW5
        have kB := HK6.out.c
        have lB := HK6.out.lt
        cases bh with
        | true =>
          go_wp2_with fail
          exact bodyPost_ret (v := .bool true) (by simp [results, Tryz.results5, go_sem]) rfl ⟨rfl, HB6.out⟩
        | false =>
          obtain ⟨Zw, hZw⟩ : ∃ x, x = Pr.wantZ Zc n0 m0 wr0 := ⟨_, rfl⟩
          obtain ⟨N2, hN2, hN20, hN2e⟩ := Pr.calm_ends (HS6.out.ok.want hnc hml wr0)
          obtain ⟨hwx, hfin, _⟩ := Pr.asked_z HS6.out.ok HQ.out hml hnc wr0 (HBH.out.symm.trans rfl) N2 hN20 hN2e
          obtain ⟨Zf, hZf⟩ : ∃ x, x = Pr.calmZ c N2 Zw := ⟨_, rfl⟩
          rw [← hZw] at hN20 hN2e hfin
          have HWANT : Hid (Calls Tryz.prog 12 #[.agg #[.slice (some ⟨(A5 .st).b, (A5 .st).o, none⟩) c (A5 .st).c, .slice (some ⟨(A5 .va).b, (A5 .va).o, none⟩) c (A5 .va).c, .slice (some ⟨(A5 .wt).b, (A5 .wt).o, none⟩) c (A5 .wt).c, .slice (some ⟨(A5 .ho).b, (A5 .ho).o, none⟩) l (A5 .ho).c, .slice (some ⟨(A5 .di).b, (A5 .di).o, none⟩) l (A5 .di).c, .slice (some ⟨(A5 .bu).b, (A5 .bu).o, none⟩) l (A5 .bu).c, .slice p5 n5 cp5], .int .i64 n0, .int .i64 m0, .bool wr0] w6 fun e w' => OutZ w6 w' e c l Zw 0) := Lib.hid (by
            have := want_ok _ c l Zc n0 m0 wr0 w6 HS6.out hnc hml
            rw [← hZw, hwx] at this
            exact this)
          have HCALM2 : Hid (∀ v V, Sys V v c l Zw → Calls Tryz.prog 27 #[v] V fun e w' => CalmO V w' e v c l Zf) := Lib.hid (fun v V hS => by rw [hZf]; exact calm_any v c l Zw N2 V hS hN2 hN20 hN2e)
          have HFIN : Hid (hasB Zf.F n0 m0 wr0 = true) := Lib.hid (by rw [hZf]; exact hfin)
          clear hZw hN2 hN20 hN2e hwx hfin hZf
          go_wp2_with fail
          refine (HWANT.out).mono ?_
          rintro e v7w ⟨v7, rfl, hs7, hnw7, hb7⟩
          obtain ⟨A7, p7, cp7, xs7, rfl, hm7, hp7⟩ := id hs7.sv
          simp only [Pa.sl, List.length_map] at hs7 hnw7 ⊢
          clear hm7 hp7 xs7
          obtain ⟨n7, hn7⟩ : ∃ x, x = (Zw).ms.length := ⟨_, rfl⟩
          rw [← hn7] at hs7 hnw7 ⊢
          have HSI7 := Lib.hid hs7
          have HNW7 := Lib.hid hnw7
          have HKE7 := Lib.hid (HK6.out.below hb7)
          have HSO7 := Lib.hid (HS6.out.below hb7)
          have HLE7 : Hid (E < w6.heap.size) := Lib.hid HK6.out.lt
          have HBW7 := Lib.hid hb7
          have HN7 := Lib.hid hn7
          clear hb7 hs7 hnw7 hn7 kB lB
          have kB := HKE7.out.c
          have lB := HKE7.out.lt
          have fB := HKE7.out.f
          go_upto_region 17 with fail
          obtain ⟨w7, hw7⟩ : ∃ x, x = (((((((v7w.setCell ⟨E, 0, none⟩ (.slice (some ⟨(A7 .st).b, (A7 .st).o, none⟩) c (A7 .st).c)).setCell ⟨E, 1, none⟩ (.slice (some ⟨(A7 .va).b, (A7 .va).o, none⟩) c (A7 .va).c)).setCell ⟨E, 2, none⟩ (.slice (some ⟨(A7 .wt).b, (A7 .wt).o, none⟩) c (A7 .wt).c)).setCell ⟨E, 3, none⟩ (.slice (some ⟨(A7 .ho).b, (A7 .ho).o, none⟩) l (A7 .ho).c)).setCell ⟨E, 4, none⟩ (.slice (some ⟨(A7 .di).b, (A7 .di).o, none⟩) l (A7 .di).c)).setCell ⟨E, 5, none⟩ (.slice (some ⟨(A7 .bu).b, (A7 .bu).o, none⟩) l (A7 .bu).c)).setCell ⟨E, 6, none⟩ (.slice p7 n7 cp7)) := ⟨_, rfl⟩
          first | rw [← hw7] | fail "W7"
          have HS7 : Hid (Sys w7 (.agg #[.slice (some ⟨(A7 .st).b, (A7 .st).o, none⟩) c (A7 .st).c, .slice (some ⟨(A7 .va).b, (A7 .va).o, none⟩) c (A7 .va).c, .slice (some ⟨(A7 .wt).b, (A7 .wt).o, none⟩) c (A7 .wt).c, .slice (some ⟨(A7 .ho).b, (A7 .ho).o, none⟩) l (A7 .ho).c, .slice (some ⟨(A7 .di).b, (A7 .di).o, none⟩) l (A7 .di).c, .slice (some ⟨(A7 .bu).b, (A7 .bu).o, none⟩) l (A7 .bu).c, .slice p7 n7 cp7]) c l (Zw)) := Lib.hid (sys_put HSI7.out HSO7.out HKE7.out HNW7.out HLE7.out rfl w7 hw7)
          have HK7 : Hid (Blk w7 E #[.slice (some ⟨(A7 .st).b, (A7 .st).o, none⟩) c (A7 .st).c, .slice (some ⟨(A7 .va).b, (A7 .va).o, none⟩) c (A7 .va).c, .slice (some ⟨(A7 .wt).b, (A7 .wt).o, none⟩) c (A7 .wt).c, .slice (some ⟨(A7 .ho).b, (A7 .ho).o, none⟩) l (A7 .ho).c, .slice (some ⟨(A7 .di).b, (A7 .di).o, none⟩) l (A7 .di).c, .slice (some ⟨(A7 .bu).b, (A7 .bu).o, none⟩) l (A7 .bu).c, .slice p7 n7 cp7]) := Lib.hid (by rw [hw7]; exact (((((((HKE7.out.set (n := 0) _ (by simp)).set (n := 1) _ (by simp)).set (n := 2) _ (by simp)).set (n := 3) _ (by simp)).set (n := 4) _ (by simp)).set (n := 5) _ (by simp)).set (n := 6) _ (by simp)).cast rfl)
          have hle7 : ∀ k, W.heap.size ≤ (⟨E, k, none⟩ : Addr).block := fun k => HEBE.out
          have HB7 : Hid (Below W.heap.size W w7) := Lib.hid (by rw [hw7]; exact (((((((HB6.out.trans (HBW7.out.mono HB6.out.size)).setCell (hle7 0) _).setCell (hle7 1) _).setCell (hle7 2) _).setCell (hle7 3) _).setCell (hle7 4) _).setCell (hle7 5) _).setCell (hle7 6) _)
          clear hle7
          clear hw7 kB lB fB HSI7 HSO7 HKE7
          have kB := HK7.out.c
          have lB := HK7.out.lt
          go_wp2_with fail
          refine (HCALM2.out _ _ HS7.out).mono ?_
          rintro e v8w ⟨v8, rfl, hs8, hnw8, hb8⟩
          obtain ⟨A8, p8, cp8, xs8, rfl, hm8, hp8⟩ := id hs8.sv
          simp only [Pa.sl, List.length_map] at hs8 hnw8 ⊢
          clear hm8 hp8 xs8
          obtain ⟨n8, hn8⟩ : ∃ x, x = (Zf).ms.length := ⟨_, rfl⟩
          rw [← hn8] at hs8 hnw8 ⊢
          have HSI8 := Lib.hid hs8
          have HNW8 := Lib.hid hnw8
          have HKE8 := Lib.hid (HK7.out.below hb8)
          have HSO8 := Lib.hid (HS7.out.below hb8)
          have HLE8 : Hid (E < w7.heap.size) := Lib.hid HK7.out.lt
          have HBW8 := Lib.hid hb8
          have HN8 := Lib.hid hn8
          clear hb8 hs8 hnw8 hn8 kB lB
          have kB := HKE8.out.c
          have lB := HKE8.out.lt
          have fB := HKE8.out.f
          go_upto_region 18 with fail
          obtain ⟨w8, hw8⟩ : ∃ x, x = (((((((v8w.setCell ⟨E, 0, none⟩ (.slice (some ⟨(A8 .st).b, (A8 .st).o, none⟩) c (A8 .st).c)).setCell ⟨E, 1, none⟩ (.slice (some ⟨(A8 .va).b, (A8 .va).o, none⟩) c (A8 .va).c)).setCell ⟨E, 2, none⟩ (.slice (some ⟨(A8 .wt).b, (A8 .wt).o, none⟩) c (A8 .wt).c)).setCell ⟨E, 3, none⟩ (.slice (some ⟨(A8 .ho).b, (A8 .ho).o, none⟩) l (A8 .ho).c)).setCell ⟨E, 4, none⟩ (.slice (some ⟨(A8 .di).b, (A8 .di).o, none⟩) l (A8 .di).c)).setCell ⟨E, 5, none⟩ (.slice (some ⟨(A8 .bu).b, (A8 .bu).o, none⟩) l (A8 .bu).c)).setCell ⟨E, 6, none⟩ (.slice p8 n8 cp8)) := ⟨_, rfl⟩
          first | rw [← hw8] | fail "W8"
          have HS8 : Hid (Sys w8 (.agg #[.slice (some ⟨(A8 .st).b, (A8 .st).o, none⟩) c (A8 .st).c, .slice (some ⟨(A8 .va).b, (A8 .va).o, none⟩) c (A8 .va).c, .slice (some ⟨(A8 .wt).b, (A8 .wt).o, none⟩) c (A8 .wt).c, .slice (some ⟨(A8 .ho).b, (A8 .ho).o, none⟩) l (A8 .ho).c, .slice (some ⟨(A8 .di).b, (A8 .di).o, none⟩) l (A8 .di).c, .slice (some ⟨(A8 .bu).b, (A8 .bu).o, none⟩) l (A8 .bu).c, .slice p8 n8 cp8]) c l (Zf)) := Lib.hid (sys_putO HSI8.out HSO8.out HKE8.out HNW8.out HLE8.out rfl w8 hw8)
          have HK8 : Hid (Blk w8 E #[.slice (some ⟨(A8 .st).b, (A8 .st).o, none⟩) c (A8 .st).c, .slice (some ⟨(A8 .va).b, (A8 .va).o, none⟩) c (A8 .va).c, .slice (some ⟨(A8 .wt).b, (A8 .wt).o, none⟩) c (A8 .wt).c, .slice (some ⟨(A8 .ho).b, (A8 .ho).o, none⟩) l (A8 .ho).c, .slice (some ⟨(A8 .di).b, (A8 .di).o, none⟩) l (A8 .di).c, .slice (some ⟨(A8 .bu).b, (A8 .bu).o, none⟩) l (A8 .bu).c, .slice p8 n8 cp8]) := Lib.hid (by rw [hw8]; exact (((((((HKE8.out.set (n := 0) _ (by simp)).set (n := 1) _ (by simp)).set (n := 2) _ (by simp)).set (n := 3) _ (by simp)).set (n := 4) _ (by simp)).set (n := 5) _ (by simp)).set (n := 6) _ (by simp)).cast rfl)
          have hle8 : ∀ k, W.heap.size ≤ (⟨E, k, none⟩ : Addr).block := fun k => HEBE.out
          have HB8 : Hid (Below W.heap.size W w8) := Lib.hid (by rw [hw8]; exact (((((((HB7.out.trans (HBW8.out.mono HB7.out.size)).setCell (hle8 0) _).setCell (hle8 1) _).setCell (hle8 2) _).setCell (hle8 3) _).setCell (hle8 4) _).setCell (hle8 5) _).setCell (hle8 6) _)
          clear hle8 hw8 kB lB fB HSI8 HSO8 HKE8
          have kB := HK8.out.c
          have lB := HK8.out.lt
          go_wp2_with fail
          refine (has_ok _ c l Zf n0 m0 wr0 w8 HS8.out hnc hml).mono ?_
          rw [HFIN.out]
          rintro e w9 ⟨rfl, hb9⟩
          have HB9 : Hid (Below W.heap.size W w9) := Lib.hid (HB8.out.trans (hb9.mono HB8.out.size))
          clear hb9
          go_wp2_with fail
          exact bodyPost_ret (v := .bool true) (by simp [results, Tryz.results5, go_sem]) rfl ⟨rfl, HB9.out⟩
      · have hltI : ¬ (k : Int) < len := by omega
        clear hlt hA hkl hk100
        obtain ⟨N, hN, hN0, hNe⟩ := Pr.calm_ends HS2.out.ok
        obtain ⟨Zc, hZc⟩ : ∃ x, x = Pr.calmZ c N Zk := ⟨_, rfl⟩
        have HCALM : Hid (Calls Tryz.prog 27 #[.agg #[.slice (some y0) c q0, .slice (some y1) c q1, .slice (some y2) c q2, .slice (some y3) l q3, .slice (some y4) l q4, .slice (some y5) l q5, .slice qp nk qo]] wr fun e w' => CalmO wr w' e (.agg #[.slice (some y0) c q0, .slice (some y1) c q1, .slice (some y2) c q2, .slice (some y3) l q3, .slice (some y4) l q4, .slice (some y5) l q5, .slice qp nk qo]) c l Zc) := Lib.hid (by rw [hZc]; exact calm_any _ c l Zk N wr HS2.out hN hN0 hNe)
        rw [← hZc] at hN0
        have HQ := Lib.hid hN0
        clear hN0 hNe hN hZc
        go_wp2_with fail
        refine (HCALM.out).mono ?_
        rintro e v5w ⟨v5, rfl, hs5, hnw5, hb5⟩
        obtain ⟨A5, p5, cp5, xs5, rfl, hm5, hp5⟩ := id hs5.sv
        simp only [Pa.sl, List.length_map] at hs5 hnw5 ⊢
        clear hm5 hp5 xs5
        obtain ⟨n5, hn5⟩ : ∃ x, x = (Zc).ms.length := ⟨_, rfl⟩
        rw [← hn5] at hs5 hnw5 ⊢
        have HSI5 := Lib.hid hs5
        have HNW5 := Lib.hid hnw5
        have HKE5 := Lib.hid (HK2.out.below hb5)
        have HSO5 := Lib.hid (HS2.out.below hb5)
        have HLE5 : Hid (E < wr.heap.size) := Lib.hid HK2.out.lt
        have HBW5 := Lib.hid hb5
        have HN5 := Lib.hid hn5
        clear hb5 hs5 hnw5 hn5 kB lB
        have kB := HKE5.out.c
        have lB := HKE5.out.lt
        have fB := HKE5.out.f
        go_upto_region 11 with fail
        obtain ⟨w5, hw5⟩ : ∃ x, x = (((((((v5w.setCell ⟨E, 0, none⟩ (.slice (some ⟨(A5 .st).b, (A5 .st).o, none⟩) c (A5 .st).c)).setCell ⟨E, 1, none⟩ (.slice (some ⟨(A5 .va).b, (A5 .va).o, none⟩) c (A5 .va).c)).setCell ⟨E, 2, none⟩ (.slice (some ⟨(A5 .wt).b, (A5 .wt).o, none⟩) c (A5 .wt).c)).setCell ⟨E, 3, none⟩ (.slice (some ⟨(A5 .ho).b, (A5 .ho).o, none⟩) l (A5 .ho).c)).setCell ⟨E, 4, none⟩ (.slice (some ⟨(A5 .di).b, (A5 .di).o, none⟩) l (A5 .di).c)).setCell ⟨E, 5, none⟩ (.slice (some ⟨(A5 .bu).b, (A5 .bu).o, none⟩) l (A5 .bu).c)).setCell ⟨E, 6, none⟩ (.slice p5 n5 cp5)) := ⟨_, rfl⟩
        first | rw [← hw5] | fail "W5"
        have HS5 : Hid (Sys w5 (.agg #[.slice (some ⟨(A5 .st).b, (A5 .st).o, none⟩) c (A5 .st).c, .slice (some ⟨(A5 .va).b, (A5 .va).o, none⟩) c (A5 .va).c, .slice (some ⟨(A5 .wt).b, (A5 .wt).o, none⟩) c (A5 .wt).c, .slice (some ⟨(A5 .ho).b, (A5 .ho).o, none⟩) l (A5 .ho).c, .slice (some ⟨(A5 .di).b, (A5 .di).o, none⟩) l (A5 .di).c, .slice (some ⟨(A5 .bu).b, (A5 .bu).o, none⟩) l (A5 .bu).c, .slice p5 n5 cp5]) c l (Zc)) := Lib.hid (sys_putO HSI5.out HSO5.out HKE5.out HNW5.out HLE5.out rfl w5 hw5)
        have HK5 : Hid (Blk w5 E #[.slice (some ⟨(A5 .st).b, (A5 .st).o, none⟩) c (A5 .st).c, .slice (some ⟨(A5 .va).b, (A5 .va).o, none⟩) c (A5 .va).c, .slice (some ⟨(A5 .wt).b, (A5 .wt).o, none⟩) c (A5 .wt).c, .slice (some ⟨(A5 .ho).b, (A5 .ho).o, none⟩) l (A5 .ho).c, .slice (some ⟨(A5 .di).b, (A5 .di).o, none⟩) l (A5 .di).c, .slice (some ⟨(A5 .bu).b, (A5 .bu).o, none⟩) l (A5 .bu).c, .slice p5 n5 cp5]) := Lib.hid (by rw [hw5]; exact (((((((HKE5.out.set (n := 0) _ (by simp)).set (n := 1) _ (by simp)).set (n := 2) _ (by simp)).set (n := 3) _ (by simp)).set (n := 4) _ (by simp)).set (n := 5) _ (by simp)).set (n := 6) _ (by simp)).cast rfl)
        have hle5 : ∀ k, W.heap.size ≤ (⟨E, k, none⟩ : Addr).block := fun k => HEBE.out
        have HB5 : Hid (Below W.heap.size W w5) := Lib.hid (by rw [hw5]; exact (((((((HB2.out.trans (HBW5.out.mono HB2.out.size)).setCell (hle5 0) _).setCell (hle5 1) _).setCell (hle5 2) _).setCell (hle5 3) _).setCell (hle5 4) _).setCell (hle5 5) _).setCell (hle5 6) _)
        clear hle5 hw5 kB lB fB HSI5 HSO5 HKE5
        have kB := HK5.out.c
        have lB := HK5.out.lt
        clear HK2 HS2 HB2 HCALM
        obtain ⟨n0, hn0⟩ : ∃ x, x = a3 % c := ⟨_, rfl⟩
        obtain ⟨m0, hm0⟩ : ∃ x, x = a4 % l := ⟨_, rfl⟩
        have htn : ((a3 : Int)).tmod (c : Int) = (n0 : Int) := by rw [Int.tmod_eq_emod_of_nonneg (by omega), hn0]; exact (Int.natCast_emod a3 c).symm
        have htm : ((a4 : Int)).tmod (l : Int) = (m0 : Int) := by rw [Int.tmod_eq_emod_of_nonneg (by omega), hm0]; exact (Int.natCast_emod a4 l).symm
        have hnc : n0 < c := by rw [hn0]; exact Nat.mod_lt _ (by omega)
        have hml : m0 < l := by rw [hm0]; exact Nat.mod_lt _ (by omega)
        have hc0 : ¬ (c : Int) = 0 := by omega
        have hl0 : ¬ (l : Int) = 0 := by omega
        have hc0n : ¬ c = 0 := by omega
        have hl0n : ¬ l = 0 := by omega
        have f3 : IntKind.i64.wrap (a3 : Int) = (a3 : Int) := wrapA rfl (by omega)
        have f4 : IntKind.i64.wrap (a4 : Int) = (a4 : Int) := wrapA rfl (by omega)
        clear hn0 hm0
        go_upto_region 13 with fail
        refine region_planF (fun V : World => V = w5.drew) (.read 0 (.read 1 (.read 2 (.read 3 (.read 4 (.read 5 (.read 6 (.read 7 (.read 8 (.read 9 (.read 10 (.read 11 (.one 12 (.one 13 .stop)))))))))))))) (by kernel_rfl) (by kernel_rfl) rfl ?_
        iterate 12
          refine planT_read (v := ?_) rfl (by rfl) ?_ ?_
          rotate_left
          · intro w' hS
            try dsimp only at hS
            go_simp
            try with_reducible rfl
          try simp only [Act.put, List.setIfInBounds_toArray, List.set_cons_zero, List.set_cons_succ, List.getElem_toArray, List.getElem_cons_zero, List.getElem_cons_succ]
        refine planT_one ?_
        refine op_keep (v := .int .i64 (n0 : Int)) rfl (by rfl) ?_ ?_
        · go_simp
        refine ⟨rfl, ?_⟩
        try simp only [Act.put, List.setIfInBounds_toArray, List.set_cons_zero, List.set_cons_succ, List.getElem_toArray, List.getElem_cons_zero, List.getElem_cons_succ]
        refine planT_one ?_
        refine op_keep (v := .int .i64 (m0 : Int)) rfl (by rfl) ?_ ?_
        · go_simp
        refine ⟨rfl, ?_⟩
        try simp only [Act.put, List.setIfInBounds_toArray, List.set_cons_zero, List.set_cons_succ, List.getElem_toArray, List.getElem_cons_zero, List.getElem_cons_succ]
        refine planT_stop ?_
        refine NoPanic.normal ?_
        clear htn htm f3 f4 hc0 hl0 hc0n hl0n kB lB
        have kB := HK5.out.drew.c
        have lB := HK5.out.drew.lt
        obtain ⟨bh, hbh⟩ : ∃ x, x = hasB Zc.F n0 m0 wr0 := ⟨_, rfl⟩
        have HHAS : Hid (Calls Tryz.prog 20 #[.agg #[.slice (some ⟨(A5 .st).b, (A5 .st).o, none⟩) c (A5 .st).c, .slice (some ⟨(A5 .va).b, (A5 .va).o, none⟩) c (A5 .va).c, .slice (some ⟨(A5 .wt).b, (A5 .wt).o, none⟩) c (A5 .wt).c, .slice (some ⟨(A5 .ho).b, (A5 .ho).o, none⟩) l (A5 .ho).c, .slice (some ⟨(A5 .di).b, (A5 .di).o, none⟩) l (A5 .di).c, .slice (some ⟨(A5 .bu).b, (A5 .bu).o, none⟩) l (A5 .bu).c, .slice p5 n5 cp5], .int .i64 n0, .int .i64 m0, .bool wr0] w5.drew fun e w' => e = .returned (.bool bh) ∧ Below w5.drew.heap.size w5.drew w') := Lib.hid (by rw [hbh]; exact has_ok _ c l Zc n0 m0 wr0 w5.drew (HS5.out.below (Below.refl _ _).drew) hnc hml)
        have HBH := Lib.hid hbh
        clear hbh
        go_wp2_with fail
        refine (HHAS.out).mono ?_
        rintro e w6 ⟨rfl, hb6⟩
        have hb56 : Below w5.heap.size w5 w6 := (Below.refl _ _).drew.trans hb6
        have HK6 := Lib.hid (HK5.out.below hb56)
        have HS6 := Lib.hid (HS5.out.below hb56)
        have HB6 : Hid (Below W.heap.size W w6) := Lib.hid (HB5.out.trans (hb56.mono HB5.out.size))
        clear hb56 hb6 kB lB HHAS HK5 HS5 HB5 HBW5
        have kB := HK6.out.c
        have lB := HK6.out.lt
        cases bh with
        | true =>
          go_wp2_with fail
          exact bodyPost_ret (v := .bool true) (by simp [results, Tryz.results5, go_sem]) rfl ⟨rfl, HB6.out⟩
        | false =>
          obtain ⟨Zw, hZw⟩ : ∃ x, x = Pr.wantZ Zc n0 m0 wr0 := ⟨_, rfl⟩
          obtain ⟨N2, hN2, hN20, hN2e⟩ := Pr.calm_ends (HS6.out.ok.want hnc hml wr0)
          obtain ⟨hwx, hfin, _⟩ := Pr.asked_z HS6.out.ok HQ.out hml hnc wr0 (HBH.out.symm.trans rfl) N2 hN20 hN2e
          obtain ⟨Zf, hZf⟩ : ∃ x, x = Pr.calmZ c N2 Zw := ⟨_, rfl⟩
          rw [← hZw] at hN20 hN2e hfin
          have HWANT : Hid (Calls Tryz.prog 12 #[.agg #[.slice (some ⟨(A5 .st).b, (A5 .st).o, none⟩) c (A5 .st).c, .slice (some ⟨(A5 .va).b, (A5 .va).o, none⟩) c (A5 .va).c, .slice (some ⟨(A5 .wt).b, (A5 .wt).o, none⟩) c (A5 .wt).c, .slice (some ⟨(A5 .ho).b, (A5 .ho).o, none⟩) l (A5 .ho).c, .slice (some ⟨(A5 .di).b, (A5 .di).o, none⟩) l (A5 .di).c, .slice (some ⟨(A5 .bu).b, (A5 .bu).o, none⟩) l (A5 .bu).c, .slice p5 n5 cp5], .int .i64 n0, .int .i64 m0, .bool wr0] w6 fun e w' => OutZ w6 w' e c l Zw 0) := Lib.hid (by
            have := want_ok _ c l Zc n0 m0 wr0 w6 HS6.out hnc hml
            rw [← hZw, hwx] at this
            exact this)
          have HCALM2 : Hid (∀ v V, Sys V v c l Zw → Calls Tryz.prog 27 #[v] V fun e w' => CalmO V w' e v c l Zf) := Lib.hid (fun v V hS => by rw [hZf]; exact calm_any v c l Zw N2 V hS hN2 hN20 hN2e)
          have HFIN : Hid (hasB Zf.F n0 m0 wr0 = true) := Lib.hid (by rw [hZf]; exact hfin)
          clear hZw hN2 hN20 hN2e hwx hfin hZf
          go_wp2_with fail
          refine (HWANT.out).mono ?_
          rintro e v7w ⟨v7, rfl, hs7, hnw7, hb7⟩
          obtain ⟨A7, p7, cp7, xs7, rfl, hm7, hp7⟩ := id hs7.sv
          simp only [Pa.sl, List.length_map] at hs7 hnw7 ⊢
          clear hm7 hp7 xs7
          obtain ⟨n7, hn7⟩ : ∃ x, x = (Zw).ms.length := ⟨_, rfl⟩
          rw [← hn7] at hs7 hnw7 ⊢
          have HSI7 := Lib.hid hs7
          have HNW7 := Lib.hid hnw7
          have HKE7 := Lib.hid (HK6.out.below hb7)
          have HSO7 := Lib.hid (HS6.out.below hb7)
          have HLE7 : Hid (E < w6.heap.size) := Lib.hid HK6.out.lt
          have HBW7 := Lib.hid hb7
          have HN7 := Lib.hid hn7
          clear hb7 hs7 hnw7 hn7 kB lB
          have kB := HKE7.out.c
          have lB := HKE7.out.lt
          have fB := HKE7.out.f
          go_upto_region 17 with fail
          obtain ⟨w7, hw7⟩ : ∃ x, x = (((((((v7w.setCell ⟨E, 0, none⟩ (.slice (some ⟨(A7 .st).b, (A7 .st).o, none⟩) c (A7 .st).c)).setCell ⟨E, 1, none⟩ (.slice (some ⟨(A7 .va).b, (A7 .va).o, none⟩) c (A7 .va).c)).setCell ⟨E, 2, none⟩ (.slice (some ⟨(A7 .wt).b, (A7 .wt).o, none⟩) c (A7 .wt).c)).setCell ⟨E, 3, none⟩ (.slice (some ⟨(A7 .ho).b, (A7 .ho).o, none⟩) l (A7 .ho).c)).setCell ⟨E, 4, none⟩ (.slice (some ⟨(A7 .di).b, (A7 .di).o, none⟩) l (A7 .di).c)).setCell ⟨E, 5, none⟩ (.slice (some ⟨(A7 .bu).b, (A7 .bu).o, none⟩) l (A7 .bu).c)).setCell ⟨E, 6, none⟩ (.slice p7 n7 cp7)) := ⟨_, rfl⟩
          first | rw [← hw7] | fail "W7"
          have HS7 : Hid (Sys w7 (.agg #[.slice (some ⟨(A7 .st).b, (A7 .st).o, none⟩) c (A7 .st).c, .slice (some ⟨(A7 .va).b, (A7 .va).o, none⟩) c (A7 .va).c, .slice (some ⟨(A7 .wt).b, (A7 .wt).o, none⟩) c (A7 .wt).c, .slice (some ⟨(A7 .ho).b, (A7 .ho).o, none⟩) l (A7 .ho).c, .slice (some ⟨(A7 .di).b, (A7 .di).o, none⟩) l (A7 .di).c, .slice (some ⟨(A7 .bu).b, (A7 .bu).o, none⟩) l (A7 .bu).c, .slice p7 n7 cp7]) c l (Zw)) := Lib.hid (sys_put HSI7.out HSO7.out HKE7.out HNW7.out HLE7.out rfl w7 hw7)
          have HK7 : Hid (Blk w7 E #[.slice (some ⟨(A7 .st).b, (A7 .st).o, none⟩) c (A7 .st).c, .slice (some ⟨(A7 .va).b, (A7 .va).o, none⟩) c (A7 .va).c, .slice (some ⟨(A7 .wt).b, (A7 .wt).o, none⟩) c (A7 .wt).c, .slice (some ⟨(A7 .ho).b, (A7 .ho).o, none⟩) l (A7 .ho).c, .slice (some ⟨(A7 .di).b, (A7 .di).o, none⟩) l (A7 .di).c, .slice (some ⟨(A7 .bu).b, (A7 .bu).o, none⟩) l (A7 .bu).c, .slice p7 n7 cp7]) := Lib.hid (by rw [hw7]; exact (((((((HKE7.out.set (n := 0) _ (by simp)).set (n := 1) _ (by simp)).set (n := 2) _ (by simp)).set (n := 3) _ (by simp)).set (n := 4) _ (by simp)).set (n := 5) _ (by simp)).set (n := 6) _ (by simp)).cast rfl)
          have hle7 : ∀ k, W.heap.size ≤ (⟨E, k, none⟩ : Addr).block := fun k => HEBE.out
          have HB7 : Hid (Below W.heap.size W w7) := Lib.hid (by rw [hw7]; exact (((((((HB6.out.trans (HBW7.out.mono HB6.out.size)).setCell (hle7 0) _).setCell (hle7 1) _).setCell (hle7 2) _).setCell (hle7 3) _).setCell (hle7 4) _).setCell (hle7 5) _).setCell (hle7 6) _)
          clear hle7
          clear hw7 kB lB fB HSI7 HSO7 HKE7
          have kB := HK7.out.c
          have lB := HK7.out.lt
          go_wp2_with fail
          refine (HCALM2.out _ _ HS7.out).mono ?_
          rintro e v8w ⟨v8, rfl, hs8, hnw8, hb8⟩
          obtain ⟨A8, p8, cp8, xs8, rfl, hm8, hp8⟩ := id hs8.sv
          simp only [Pa.sl, List.length_map] at hs8 hnw8 ⊢
          clear hm8 hp8 xs8
          obtain ⟨n8, hn8⟩ : ∃ x, x = (Zf).ms.length := ⟨_, rfl⟩
          rw [← hn8] at hs8 hnw8 ⊢
          have HSI8 := Lib.hid hs8
          have HNW8 := Lib.hid hnw8
          have HKE8 := Lib.hid (HK7.out.below hb8)
          have HSO8 := Lib.hid (HS7.out.below hb8)
          have HLE8 : Hid (E < w7.heap.size) := Lib.hid HK7.out.lt
          have HBW8 := Lib.hid hb8
          have HN8 := Lib.hid hn8
          clear hb8 hs8 hnw8 hn8 kB lB
          have kB := HKE8.out.c
          have lB := HKE8.out.lt
          have fB := HKE8.out.f
          go_upto_region 18 with fail
          obtain ⟨w8, hw8⟩ : ∃ x, x = (((((((v8w.setCell ⟨E, 0, none⟩ (.slice (some ⟨(A8 .st).b, (A8 .st).o, none⟩) c (A8 .st).c)).setCell ⟨E, 1, none⟩ (.slice (some ⟨(A8 .va).b, (A8 .va).o, none⟩) c (A8 .va).c)).setCell ⟨E, 2, none⟩ (.slice (some ⟨(A8 .wt).b, (A8 .wt).o, none⟩) c (A8 .wt).c)).setCell ⟨E, 3, none⟩ (.slice (some ⟨(A8 .ho).b, (A8 .ho).o, none⟩) l (A8 .ho).c)).setCell ⟨E, 4, none⟩ (.slice (some ⟨(A8 .di).b, (A8 .di).o, none⟩) l (A8 .di).c)).setCell ⟨E, 5, none⟩ (.slice (some ⟨(A8 .bu).b, (A8 .bu).o, none⟩) l (A8 .bu).c)).setCell ⟨E, 6, none⟩ (.slice p8 n8 cp8)) := ⟨_, rfl⟩
          first | rw [← hw8] | fail "W8"
          have HS8 : Hid (Sys w8 (.agg #[.slice (some ⟨(A8 .st).b, (A8 .st).o, none⟩) c (A8 .st).c, .slice (some ⟨(A8 .va).b, (A8 .va).o, none⟩) c (A8 .va).c, .slice (some ⟨(A8 .wt).b, (A8 .wt).o, none⟩) c (A8 .wt).c, .slice (some ⟨(A8 .ho).b, (A8 .ho).o, none⟩) l (A8 .ho).c, .slice (some ⟨(A8 .di).b, (A8 .di).o, none⟩) l (A8 .di).c, .slice (some ⟨(A8 .bu).b, (A8 .bu).o, none⟩) l (A8 .bu).c, .slice p8 n8 cp8]) c l (Zf)) := Lib.hid (sys_putO HSI8.out HSO8.out HKE8.out HNW8.out HLE8.out rfl w8 hw8)
          have HK8 : Hid (Blk w8 E #[.slice (some ⟨(A8 .st).b, (A8 .st).o, none⟩) c (A8 .st).c, .slice (some ⟨(A8 .va).b, (A8 .va).o, none⟩) c (A8 .va).c, .slice (some ⟨(A8 .wt).b, (A8 .wt).o, none⟩) c (A8 .wt).c, .slice (some ⟨(A8 .ho).b, (A8 .ho).o, none⟩) l (A8 .ho).c, .slice (some ⟨(A8 .di).b, (A8 .di).o, none⟩) l (A8 .di).c, .slice (some ⟨(A8 .bu).b, (A8 .bu).o, none⟩) l (A8 .bu).c, .slice p8 n8 cp8]) := Lib.hid (by rw [hw8]; exact (((((((HKE8.out.set (n := 0) _ (by simp)).set (n := 1) _ (by simp)).set (n := 2) _ (by simp)).set (n := 3) _ (by simp)).set (n := 4) _ (by simp)).set (n := 5) _ (by simp)).set (n := 6) _ (by simp)).cast rfl)
          have hle8 : ∀ k, W.heap.size ≤ (⟨E, k, none⟩ : Addr).block := fun k => HEBE.out
          have HB8 : Hid (Below W.heap.size W w8) := Lib.hid (by rw [hw8]; exact (((((((HB7.out.trans (HBW8.out.mono HB7.out.size)).setCell (hle8 0) _).setCell (hle8 1) _).setCell (hle8 2) _).setCell (hle8 3) _).setCell (hle8 4) _).setCell (hle8 5) _).setCell (hle8 6) _)
          clear hle8 hw8 kB lB fB HSI8 HSO8 HKE8
          have kB := HK8.out.c
          have lB := HK8.out.lt
          go_wp2_with fail
          refine (has_ok _ c l Zf n0 m0 wr0 w8 HS8.out hnc hml).mono ?_
          rw [HFIN.out]
          rintro e w9 ⟨rfl, hb9⟩
          have HB9 : Hid (Below W.heap.size W w9) := Lib.hid (HB8.out.trans (hb9.mono HB8.out.size))
          clear hb9
          go_wp2_with fail
          exact bodyPost_ret (v := .bool true) (by simp [results, Tryz.results5, go_sem]) rfl ⟨rfl, HB9.out⟩
end Go.Proofs.YtmeomdfmljanhaaGreat.Pg
/- What an argument that is a list of acts reads as; no condition. -/
namespace Go.Proofs.YtmeomdfmljanhaaGreat.Pg
set_option linter.unusedVariables false
set_option linter.unusedSimpArgs false
open Go.ChangeShapes Go.WideShapes Go.ChangeAt Go.RowKit Go.Deep

theorem cells_u8 : Tryz.prog.cellsOf 5 = 1 := by kernel_rfl
theorem cells_num : Tryz.prog.cellsOf 33 = 1 := by kernel_rfl
theorem cells_bool : Tryz.prog.cellsOf 4 = 1 := by kernel_rfl
theorem cells_act : Tryz.prog.cellsOf 57 = 6 := by kernel_rfl
section
variable {H : Type} {enc : TypeId × Value → H} {w : World} {base : Nat} {spare : Nat → Bool} {held : Bool}
theorem add_zero_spot {a : Addr} {v : Value} (h : w.cell? (a.add 0) = some v) : a.block < w.heap.size ∧ a = ⟨a.block, a.off, none⟩ := by
  have hs : a.spot = none := by simpa [Addr.add] using World.cell?_spot h
  obtain ⟨b, o, s⟩ := a
  simp only at hs
  subst hs
  refine ⟨?_, rfl⟩
  have h0 : w.cell? ⟨b, o, none⟩ = some v := by simpa [Addr.add] using h
  by_cases hb : b < w.heap.size
  · exact hb
  · simp [World.cell?, Array.getElem?_eq_none (show w.heap.size ≤ b by omega)] at h0
theorem add_plain (b o k : Nat) : (⟨b, o, none⟩ : Addr).add k = ⟨b, o + k, none⟩ := by unfold Addr.add; split <;> simp_all
set_option maxRecDepth 100000 in
theorem act_of_cells {fuel : Nat} {cs : List Value} {x : DataW H × List MemPlace} (h : DataW.trod enc Tryz.prog w base spare held fuel 57 cs = some x) : ∃ y : Ac, cs = y.row.toList ∧ y.ok := by
  obtain ⟨xs, n, _, _, hlen, hxl, hf⟩ := DataW.trod_struct Tryz.underlying57 h
  rw [cells_act] at hlen
  match cs, hlen with
  | [v0, v1, v2, v3, v4, v5], _ =>
    match xs, hxl with
    | [y0, y1, y2, y3, y4, y5], _ =>
      have e0 : DataW.trod enc Tryz.prog w base spare held n 5 [v0] = some y0 := by simpa [cells_u8, cells_bool, cells_num] using hf 0 _ rfl
      have e1 : DataW.trod enc Tryz.prog w base spare held n 5 [v1] = some y1 := by simpa [cells_u8, cells_bool, cells_num] using hf 1 _ rfl
      have e2 : DataW.trod enc Tryz.prog w base spare held n 5 [v2] = some y2 := by simpa [cells_u8, cells_bool, cells_num] using hf 2 _ rfl
      have e3 : DataW.trod enc Tryz.prog w base spare held n 5 [v3] = some y3 := by simpa [cells_u8, cells_bool, cells_num] using hf 3 _ rfl
      have e4 : DataW.trod enc Tryz.prog w base spare held n 4 [v4] = some y4 := by simpa [cells_u8, cells_bool, cells_num] using hf 4 _ rfl
      have e5 : DataW.trod enc Tryz.prog w base spare held n 33 [v5] = some y5 := by simpa [cells_u8, cells_bool, cells_num] using hf 5 _ rfl
      obtain ⟨x0, q0, _, wf0⟩ := DataW.trod_int Tryz.underlying5 e0
      obtain ⟨x1, q1, _, wf1⟩ := DataW.trod_int Tryz.underlying5 e1
      obtain ⟨x2, q2, _, wf2⟩ := DataW.trod_int Tryz.underlying5 e2
      obtain ⟨x3, q3, _, wf3⟩ := DataW.trod_int Tryz.underlying5 e3
      obtain ⟨x4, q4, _⟩ := DataW.trod_bool Tryz.underlying4 e4
      obtain ⟨x5, q5, _, wf5⟩ := DataW.trod_int Tryz.underlying33 e5
      have b0 := bounds_u8 wf0
      have b1 := bounds_u8 wf1
      have b2 := bounds_u8 wf2
      have b3 := bounds_u8 wf3
      have b5 := bounds_u32 wf5
      simp at q0 q1 q2 q3 q4 q5
      subst q0 q1 q2 q3 q4 q5
      obtain ⟨n0, rfl⟩ := Int.eq_ofNat_of_zero_le b0.1
      obtain ⟨n1, rfl⟩ := Int.eq_ofNat_of_zero_le b1.1
      obtain ⟨n2, rfl⟩ := Int.eq_ofNat_of_zero_le b2.1
      obtain ⟨n3, rfl⟩ := Int.eq_ofNat_of_zero_le b3.1
      obtain ⟨n5, rfl⟩ := Int.eq_ofNat_of_zero_le b5.1
      exact ⟨⟨n0, n1, n2, n3, x4, n5⟩, rfl, ⟨by show n0 < 256; omega, by show n1 < 256; omega, by show n2 < 256; omega, by show n3 < 256; omega, by show n5 < 4294967296; omega⟩⟩
theorem acts_of_cells {fuel : Nat} {p : Option Addr} {len cap : Nat} {x : DataW H × List MemPlace} (h : DataW.trod enc Tryz.prog w base spare held fuel 52 [.slice p len cap] = some x) :
    ∃ l : List Ac, l.length = len ∧ len ≤ cap ∧ len ≤ maxLen ∧ Sl w p len (acC l) ∧ ∀ y ∈ l, y.ok := by
  rcases open_slice Tryz.underlying52 h with ⟨hcs, _⟩ | ⟨a, len', cap', m, n, D, Pl, hcs, _, hl, hm, hmm, _, hi⟩
  · simp at hcs
    obtain ⟨rfl, rfl, rfl⟩ := hcs
    exact ⟨[], rfl, Nat.le_refl _, Nat.zero_le _, fun h0 => absurd h0 (Nat.lt_irrefl 0), fun y hy => by cases hy⟩
  · simp at hcs
    obtain ⟨rfl, rfl, rfl⟩ := hcs
    have hlm : len ≤ m := by rw [hmm]; split <;> omega
    have hex : ∀ i, i < len → ∃ y : Ac, (∀ j, j < 6 → w.cell? ((a.add (i * 6)).add j) = y.row[j]?) ∧ y.ok := fun i hlt => by
      obtain ⟨cs', hc, ht⟩ := hi i (by omega)
      rw [cells_act] at hc
      obtain ⟨y, rfl, hy⟩ := act_of_cells ht
      exact ⟨y, fun j hj => by rw [(World.cells?_some hc).2.2 j hj, Array.getElem?_toList], hy⟩
    have : Inhabited Ac := ⟨ac0⟩
    obtain ⟨f, hf⟩ := choose_lt hex
    refine ⟨(List.range len).map f, by simp, hl, Nat.le_trans hl hm, fun h0 => ?_, fun y hy => ?_⟩
    · have hc0 := (hf 0 h0).1 0 (by omega)
      have hz : (a.add (0 * 6)).add 0 = a.add 0 := by simp [Addr.add]
      rw [hz] at hc0
      obtain ⟨hlt, ha⟩ := add_zero_spot (v := .int .u8 ((f 0).kind : Nat)) (by rw [hc0]; rfl)
      refine ⟨a.block, a.off, hlt, by rw [← ha], fun j hj => ?_⟩
      rw [acC_len, List.length_map, List.length_range] at hj
      have hk : j / 6 < len := by omega
      have hcell := (hf (j / 6) hk).1 (j % 6) (Nat.mod_lt _ (by decide))
      rw [ha, add_plain, add_plain] at hcell
      rw [show a.off + j / 6 * 6 + j % 6 = a.off + j by omega] at hcell
      have hu := acC_at ((List.range len).map f) (j / 6) (j % 6) (by simpa using hk) (Nat.mod_lt _ (by decide))
      rw [show j / 6 * 6 + j % 6 = j by omega] at hu
      have e : ((List.range len).map f).getD (j / 6) ac0 = f (j / 6) := by simp [List.getD, hk]
      rw [hcell, hu, e]
    · obtain ⟨i, hi, rfl⟩ := List.mem_map.1 hy
      exact (hf i (List.mem_range.1 hi)).2
end
end Go.Proofs.YtmeomdfmljanhaaGreat.Pg
