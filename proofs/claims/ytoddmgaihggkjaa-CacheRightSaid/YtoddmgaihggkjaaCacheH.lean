/- New caches, where a line is, and what it is; no condition but that the cache reads. -/
import Derived.Test.YtoddmgaihggkjaaCacheG
namespace Go.Proofs.Ytoddmgaihggkjaa
set_option linter.unusedVariables false
open Go.ChangeShapes Go.WideShapes Go.ChangeAt Go.RowKit

theorem getD_rep {α : Type} (n k : Nat) (x d : α) (h : k < n) : (List.replicate n x).getD k d = x := by
  rw [List.getD_eq_getElem?_getD, List.getElem?_replicate, if_pos h]; rfl
theorem cc_new {w : World} {base g n : Nat} {m : Int} (h : w.ownsRow base 28 1 (.slice (some ⟨g, 0, none⟩) n n) n (List.replicate n (.slice none 0 0))) (hn : n ≤ 100) : Cc w (some ⟨g, 0, none⟩) n n (List.replicate n (.slice none 0 0)) ⟨(n : Int), m, 0, List.replicate n []⟩ := by
  obtain ⟨p, c, e, hs⟩ := Sl.own h
  injection e with e1 e2 e3
  subst e1
  have e0 : ∀ k, (List.replicate n ([] : List Ln)).getD k [] = [] := fun k => by
    rw [List.getD_eq_getElem?_getD, List.getElem?_replicate]; split <;> rfl
  refine ⟨by simp, by simp, hs, fun k hk => ?_, Nat.le_refl _, hn, fun k => by show ((List.replicate n ([] : List Ln)).getD k []).length ≤ 100; rw [e0]; decide⟩
  show Lv w ((List.replicate n (.slice none 0 0)).getD k vz) ((List.replicate n ([] : List Ln)).getD k [])
  rw [e0, getD_rep n k _ _ hk]
  exact Lv.nil w 0
theorem off_new {R : Nat} {g n : Nat} (xs : List Value) (h : g ≠ R) : Off R (some ⟨g, 0, none⟩) xs (List.replicate n []) := by
  refine ⟨fun _ a e => by injection e with e; subst e; exact h, fun k hk h0 => ?_⟩
  have e0 : (List.replicate n ([] : List Ln)).getD k [] = [] := by
    rw [List.getD_eq_getElem?_getD, List.getElem?_replicate]; split <;> rfl
  rw [e0] at h0
  exact absurd h0 (by decide)
theorem cc_none (w : World) : Cc w none 0 0 [] ⟨0, 0, 0, []⟩ :=
  ⟨rfl, rfl, fun h => absurd h (by decide), fun k hk => absurd hk (Nat.not_lt_zero _), Nat.le_refl _, by decide, fun k => by
    show ((([] : List (List Ln)).getD k []).length ≤ 100)
    simp⟩

set_option maxHeartbeats 2000000 in
theorem new_any (n m : Int) (w : World) : Calls Try.prog 20 #[.int .i64 n, .int .i64 m] w fun e w' => OutC (fun R => R < w.heap.size) w w' e (newC n m) (newE n m) := by
  have HM := Lib.hid (fun W => mayBe_any n m W)
  obtain ⟨b, hb⟩ : ∃ b, b = mayS n m := ⟨_, rfl⟩
  have HC : Hid (newC n m = if b = true then ⟨n, m, 0, List.replicate n.toNat []⟩ else ⟨0, 0, 0, []⟩) := Lib.hid (by rw [hb]; rfl)
  have HE : Hid (newE n m = if b = true then 0 else 1) := Lib.hid (by rw [hb]; rfl)
  rw [← hb] at HM
  have HN : Hid (b = true → 1 ≤ n ∧ n ≤ 8) := Lib.hid (fun e => by
    rw [hb] at e
    have := of_decide_eq_true (p := 1 ≤ n ∧ n ≤ 8 ∧ 1 ≤ m ∧ m ≤ 8) e
    exact ⟨this.1, this.2.1⟩)
  obtain ⟨C, hC⟩ : ∃ C, C = newC n m := ⟨_, rfl⟩
  obtain ⟨E, hE⟩ : ∃ E, E = newE n m := ⟨_, rfl⟩
  rw [← hC] at HC ⊢
  rw [← hE] at HE ⊢
  clear hC hE hb
  obtain ⟨i0, hi, hz0, hz1, hz2⟩ := info_parts info28
  have HI := Lib.hid (And.intro hi (And.intro hz0 (And.intro hz1 hz2)))
  clear hi hz0 hz1 hz2
  have HB0 : Hid (Below w.heap.size w (w.alloc (.cells #[.int .i64 0, .int .i64 0, .int .i64 0, .slice none 0 0] 24))) := Lib.hid ((Below.refl _ _).alloc (Nat.le_refl _) _)
  have HK0 : Hid (Blk (w.alloc (.cells #[.int .i64 0, .int .i64 0, .int .i64 0, .slice none 0 0] 24)) w.heap.size #[.int .i64 0, .int .i64 0, .int .i64 0, .slice none 0 0]) := Lib.hid (Blk.new _ _ _)
  go_enter Try.func20, Try.ntmps20
  go_wp2_with fail
  refine (HM.out _).mono ?_
  rintro e w' ⟨rfl, rfl⟩
  cases b with
  | false =>
    have hC : C = ⟨0, 0, 0, []⟩ := HC.out
    have hE : E = 1 := HE.out
    subst hC hE
    clear HC HE HN HI HM
    go_wp2_with fail
    exact bodyPost_ret (v := .tuple #[.agg #[.int .i64 0, .int .i64 0, .int .i64 0, .slice none 0 0], .int .i64 1]) (by simp [results, Try.results20, go_sem]) rfl ⟨_, rfl, ⟨none, 0, 0, [], rfl, cc_none _, fun R _ => ⟨fun h => absurd h (by decide), fun k hk => absurd hk (Nat.not_lt_zero _)⟩⟩, HB0.out⟩
  | true =>
    obtain ⟨h1, h8⟩ := HN.out rfl
    obtain ⟨N, rfl⟩ := Int.eq_ofNat_of_zero_le (show 0 ≤ n by omega)
    have hC : C = ⟨(N : Int), m, 0, List.replicate N []⟩ := HC.out
    have hE : E = 0 := HE.out
    subst hC hE
    have hN8 : N ≤ 8 := by omega
    have hN1 : 1 ≤ N := by omega
    clear HC HE HN HM h1 h8
    obtain ⟨w0, hw0⟩ : ∃ w0, w0 = w.alloc (.cells #[.int .i64 0, .int .i64 0, .int .i64 0, .slice none 0 0] 24) := ⟨_, rfl⟩
    have HSZ : Hid (w0.heap.size = w.heap.size + 1) := Lib.hid (by rw [hw0]; exact World.size_alloc _ _)
    rw [← hw0] at HB0 HK0 ⊢
    clear hw0
    go_wp2_with (first | (refine wpList_make_full _ rfl _ _ 22 rfl w0.heap.size 28 i0 (.slice none 0 0) 1 Try.underlying22 HI.out.1 HI.out.2.1 HI.out.2.2.1 .i64 .i64 N N N rfl rfl rfl rfl (by rw [HI.out.2.2.2]; omega) (by unfold maxLen; omega) (Nat.le_refl _) ?_))
    intro w1 g1 g2
    have e1 : (madeCells #[Value.slice none 0 0] N).toList = List.replicate N (.slice none 0 0) := toList_madeCells_one _ _
    have HO : Hid (w1.ownsRow w0.heap.size 28 1 (.slice (some ⟨w0.heap.size, 0, none⟩) N N) N (List.replicate N (.slice none 0 0))) := Lib.hid (by rw [← e1]; exact g1)
    have HB1 : Hid (Below w0.heap.size w0 w1) := Lib.hid ((Below.refl _ _).grown g2 (Nat.le_refl _) (fun k hk => by cases hk))
    have HK1 := Lib.hid (HK0.out.below HB1.out)
    have HBW : Hid (Below w.heap.size w w1) := Lib.hid (HB0.out.trans (HB1.out.mono HB0.out.size))
    obtain ⟨g, hg⟩ : ∃ g, g = w0.heap.size := ⟨_, rfl⟩
    have HG : Hid (g = w.heap.size + 1) := Lib.hid (by rw [hg]; exact HSZ.out)
    rw [← hg] at HO ⊢
    clear g1 g2 e1 hg HB1 HK0 HSZ HB0
    have cK := HK1.out.c
    have fK := HK1.out.f
    have lK := HK1.out.lt
    go_wp2_with fail
    refine bodyPost_ret (v := .tuple #[.agg #[.int .i64 (N : Int), .int .i64 m, .int .i64 0, .slice (some ⟨g, 0, none⟩) N N], .int .i64 0]) (by simp [results, Try.results20, go_sem, *]) rfl ⟨_, rfl, ⟨_, _, _, List.replicate N (.slice none 0 0), rfl, ?_, fun R (hR : R < w.heap.size) => off_new _ (by have := HG.out; omega)⟩, ?_⟩
    · have hcc := cc_new (m := m) HO.out (by omega)
      have hof : Off w.heap.size (some ⟨g, 0, none⟩) (List.replicate N (.slice none 0 0)) (List.replicate N ([] : List Ln)) := off_new _ (by have := HG.out; omega)
      exact (((hcc.set hof 0 _).set hof 1 _).set hof 2 _).set hof 3 _
    · exact set4_below HBW.out (Nat.le_refl _) _ _ _ _

def findS (C : Ch) (a : Int) : Int := if mayC C a then (setNo C a : Int) else 0
def findA (C : Ch) (a : Int) : Int := if hasC C a then atC C a else 0
theorem has_may {C : Ch} {a : Int} (h : hasC C a = true) : mayC C a = true := by
  unfold hasC at h; rw [Bool.and_eq_true] at h; exact h.1
theorem setC_eq (C : Ch) (a : Int) : C.lines.getD (setNo C a) [] = setC C a := rfl

theorem atC_lt2 {C : Ch} {a : Int} (h : 0 ≤ atC C a) : ∃ j : Nat, atC C a = (j : Int) ∧ j < (setC C a).length ∧ lineAt C a = (setC C a).getD j zL := by
  obtain ⟨j, hj⟩ := Int.eq_ofNat_of_zero_le h
  have := atC_lt h
  exact ⟨j, hj, by rw [hj] at this; simpa using this, by unfold lineAt; rw [hj]; rfl⟩
set_option maxHeartbeats 4000000 in
theorem find_any (S : Nat → Prop) (v : Value) (C : Ch) (a : Int) (w : World) (h : Co S w v C) : Calls Try.prog 24 #[v, .int .i64 a] w fun e w' => e = .returned (.tuple #[.int .i64 (findS C a), .int .i64 (findA C a), .int .i64 (dropE C a)]) ∧ Below w.heap.size w w' := by
  have HR := Lib.hid (fun W hW => right_any S v C W (h.below (w := w) (w' := W) hW))
  obtain ⟨p, n, c, xs, rfl, hc, -⟩ := h
  have hn := hc.n100
  have HC := Lib.hid hc
  obtain ⟨fs, hfs⟩ : ∃ x, x = findS C a := ⟨_, rfl⟩
  obtain ⟨fa, hfa⟩ : ∃ x, x = findA C a := ⟨_, rfl⟩
  obtain ⟨fe, hfe⟩ : ∃ x, x = dropE C a := ⟨_, rfl⟩
  obtain ⟨r, hr⟩ : ∃ x, x = rightC C := ⟨_, rfl⟩
  rw [← hfs, ← hfa, ← hfe]
  rw [← hr] at HR
  have HFS := Lib.hid hfs
  have HFA := Lib.hid hfa
  have HFE := Lib.hid hfe
  have HRR := Lib.hid hr
  clear hfs hfa hfe hr hc
  have HNO : Hid (mayC C a = false → fs = 0 ∧ fa = 0 ∧ fe = 1) := Lib.hid (fun e => by
    have e2 : hasC C a = false := by unfold hasC; rw [e]; rfl
    rw [HFS.out, HFA.out, HFE.out]
    unfold findS findA dropE
    rw [e, e2]
    exact ⟨rfl, rfl, rfl⟩)
  have HB0 : Hid (Below w.heap.size w (w.alloc (.cells #[.int .i64 C.sets, .int .i64 C.ways, .int .i64 C.clock, .slice p n c] 24))) := Lib.hid ((Below.refl _ _).alloc (Nat.le_refl _) _)
  have HA0 : Hid (Blk (w.alloc (.cells #[.int .i64 C.sets, .int .i64 C.ways, .int .i64 C.clock, .slice p n c] 24)) w.heap.size #[.int .i64 C.sets, .int .i64 C.ways, .int .i64 C.clock, .slice p n c]) := Lib.hid (Blk.new _ _ _)
  obtain ⟨A, W, K, hA, hW, hK⟩ : ∃ A W K, A = C.sets ∧ W = C.ways ∧ K = C.clock := ⟨_, _, _, rfl, rfl, rfl⟩
  have HAS := Lib.hid hA
  rw [← hA, ← hW, ← hK] at HR HB0 HA0 ⊢
  clear hA hW hK
  obtain ⟨w0, hw0⟩ : ∃ w0, w0 = w.alloc (.cells #[.int .i64 A, .int .i64 W, .int .i64 K, .slice p n c] 24) := ⟨_, rfl⟩
  have HA0' := HA0
  rw [← hw0] at HA0' HB0
  have HR0 := Lib.hid (HR.out _ HB0.out)
  rw [hw0] at HR0 HB0
  clear HA0' hw0
  go_enter Try.func24, Try.ntmps24
  go_wp2_with fail
  refine HR0.out.mono ?_
  rintro e w1 ⟨rfl, hb1⟩
  have HA1 := Lib.hid (HA0.out.below hb1)
  have HB1 : Hid (Below w.heap.size w w1) := Lib.hid (HB0.out.trans (hb1.mono HB0.out.size))
  clear hb1 HA0 HB0 HR0 HR
  cases r with
  | false =>
    obtain ⟨e1, e2, e3⟩ := HNO.out (by unfold mayC; rw [← HRR.out]; rfl)
    subst e1 e2 e3
    clear HFS HFA HFE
    go_wp2_with fail
    exact bodyPost_ret (v := .tuple #[.int .i64 0, .int .i64 0, .int .i64 1]) (by simp [results, Try.results24, go_sem]) rfl ⟨rfl, HB1.out⟩
  | true =>
  by_cases ha : a < 0
  · have ha' : decide (a < 0) = true := decide_eq_true ha
    obtain ⟨e1, e2, e3⟩ := HNO.out (by unfold mayC; rw [decide_eq_false (by omega)]; simp)
    subst e1 e2 e3
    clear HFS HFA HFE
    go_wp2_with fail
    exact bodyPost_ret (v := .tuple #[.int .i64 0, .int .i64 0, .int .i64 1]) (by simp [results, Try.results24, go_sem]) rfl ⟨rfl, HB1.out⟩
  · have ha' : decide (a < 0) = false := decide_eq_false ha
    have hrt := right_rt HRR.out.symm
    have hmay : mayC C a = true := mayC_iff.2 ⟨hrt, by omega⟩
    have hk := hrt.set_lt a
    have hk2 := hrt.set_as a
    have hs1 := hrt.n1
    rw [← HAS.out] at hs1 hk2
    have hzn := HC.out.zn
    have HDE : Hid (fs = (setNo C a : Int) ∧ fa = (if 0 ≤ atC C a then atC C a else 0) ∧ fe = (if 0 ≤ atC C a then 0 else 7)) := Lib.hid (by
      rw [HFS.out, HFA.out, HFE.out]
      unfold findS findA dropE hasC
      rw [hmay]
      refine ⟨rfl, ?_, rfl⟩
      by_cases e : 0 ≤ atC C a
      · rw [decide_eq_true e, if_pos e]; rfl
      · rw [decide_eq_false e, if_neg e]; rfl)
    obtain ⟨b, off, q, x, c2, rfl, hat⟩ := HC.out.setAt (setNo C a) (by omega)
    rw [setC_eq] at hat
    have hkn : setNo C a < n := by omega
    have HPL : Hid (∀ W2, Below w.heap.size w W2 → Calls Try.prog 40 #[.slice q x c2, .int .i64 a] W2 fun e w' => e = .returned (.int .i64 (atC C a)) ∧ Below W2.heap.size W2 w') := Lib.hid (fun W2 hb2 => place_any _ (setC C a) a W2 ⟨_, _, by rw [hat.len], by rw [hat.len]; exact hat.cap, hat.lm.below hb2⟩ (by rw [hat.len]; have := hat.x100; omega))
    have c0 := (hat.below HB1.out).cell
    have l0 := (hat.below HB1.out).lt
    obtain ⟨k, hke⟩ : ∃ k, k = setNo C a := ⟨_, rfl⟩
    obtain ⟨j, hje⟩ : ∃ j, j = atC C a := ⟨_, rfl⟩
    rw [← hke] at c0 hkn hk2 HDE
    rw [← hje] at HDE HPL
    have htm : a.tmod A = (k : Int) := by rw [Int.tmod_eq_emod_of_nonneg (by omega), hk2]
    have hA0 : A ≠ 0 := by omega
    have hkI : (k : Int) < (n : Int) := by omega
    clear hat hke hje hk hrt hmay HFS HFA HFE HNO HRR HC HAS hzn
    have kA := HA1.out.c
    have ha0 : 0 ≤ a := by omega
    go_upto_region 4 with fail
    go_wp2_with fail
    refine (HPL.out _ HB1.out).mono ?_
    rintro e w2 ⟨rfl, hb2⟩
    have HB2 : Hid (Below w.heap.size w w2) := Lib.hid (HB1.out.trans (hb2.mono HB1.out.size))
    clear hb2
    by_cases hj : 0 ≤ j
    · have hj' : decide (j < 0) = false := decide_eq_false (by omega)
      have hd := HDE.out
      rw [if_pos hj, if_pos hj] at hd
      obtain ⟨rfl, rfl, rfl⟩ := hd
      clear HDE
      go_wp2_with fail
      exact bodyPost_ret (v := .tuple #[.int .i64 (k : Int), .int .i64 fa, .int .i64 0]) (by simp [results, Try.results24, go_sem]) rfl ⟨rfl, HB2.out⟩
    · have hj' : decide (j < 0) = true := decide_eq_true (by omega)
      have hd := HDE.out
      rw [if_neg hj, if_neg hj] at hd
      obtain ⟨rfl, rfl, rfl⟩ := hd
      clear HDE
      go_wp2_with fail
      exact bodyPost_ret (v := .tuple #[.int .i64 (k : Int), .int .i64 0, .int .i64 7]) (by simp [results, Try.results24, go_sem]) rfl ⟨rfl, HB2.out⟩
end Go.Proofs.Ytoddmgaihggkjaa
