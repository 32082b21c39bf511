/- The document's own answers: a new cache; no condition. -/
import Derived.Test.YtoddmgaihggkjaaCacheRc
import Derived.Test.YtoddmgaihggkjaaCacheH
namespace Go.Proofs.Ytoddmgaihggkjaa
set_option linter.unusedVariables false
open Go.ChangeShapes Go.WideShapes Go.ChangeAt Go.RowKit

set_option maxHeartbeats 2000000 in
set_option maxRecDepth 100000 in
theorem refnew_any (n m : Int) (w : World) : Calls Try.prog 21 #[.int .i64 n, .int .i64 m] w fun e w' => OutC (fun R => R < w.heap.size) w w' e (newC n m) (newE n m) := by
  obtain ⟨b, hb⟩ : ∃ b, b = mayS n m := ⟨_, rfl⟩
  have HC : Hid (newC n m = if b = true then ⟨n, m, 0, List.replicate n.toNat []⟩ else ⟨0, 0, 0, []⟩) := Lib.hid (by rw [hb]; rfl)
  have HE : Hid (newE n m = if b = true then 0 else 1) := Lib.hid (by rw [hb]; rfl)
  have HBB := Lib.hid hb
  obtain ⟨C, hC⟩ : ∃ C, C = newC n m := ⟨_, rfl⟩
  obtain ⟨E, hE⟩ : ∃ E, E = newE n m := ⟨_, rfl⟩
  rw [← hC] at HC ⊢
  rw [← hE] at HE ⊢
  have HNO : Hid (¬ (1 ≤ n ∧ n ≤ 8 ∧ 1 ≤ m ∧ m ≤ 8) → C = ⟨0, 0, 0, []⟩ ∧ E = 1) := Lib.hid (fun h => by
    have : b = false := by rw [HBB.out]; unfold mayS; exact decide_eq_false h
    rw [HC.out, HE.out, this]; exact ⟨rfl, rfl⟩)
  have HYES : Hid ((1 ≤ n ∧ n ≤ 8 ∧ 1 ≤ m ∧ m ≤ 8) → C = ⟨n, m, 0, List.replicate n.toNat []⟩ ∧ E = 0) := Lib.hid (fun h => by
    have : b = true := by rw [HBB.out]; unfold mayS; exact decide_eq_true h
    rw [HC.out, HE.out, this]; exact ⟨rfl, rfl⟩)
  have HZ : Hid (OutC (fun R => R < w.heap.size) w (w.alloc (.cells #[.int .i64 0, .int .i64 0, .int .i64 0, .slice none 0 0] 24)) (.returned (.tuple #[.agg #[.int .i64 0, .int .i64 0, .int .i64 0, .slice none 0 0], .int .i64 1])) ⟨0, 0, 0, []⟩ 1) := Lib.hid ⟨_, rfl, ⟨none, 0, 0, [], rfl, cc_none _, fun R _ => ⟨fun h => absurd h (by decide), fun k hk => absurd hk (Nat.not_lt_zero _)⟩⟩, (Below.refl _ _).alloc (Nat.le_refl _) _⟩
  clear hC hE hb HC HE HBB
  obtain ⟨i0, hi, hz0, hz1, hz2⟩ := info_parts info28
  have HI := Lib.hid (And.intro hi (And.intro hz0 (And.intro hz1 hz2)))
  clear hi hz0 hz1 hz2
  by_cases c1 : n < 1
  · obtain ⟨rfl, rfl⟩ := HNO.out (by omega)
    have d1 : decide (n < 1) = true := decide_eq_true c1
    clear HNO HYES c1
    go_enter Try.func21, Try.ntmps21
    go_wp2_with fail
    exact bodyPost_ret (v := .tuple #[.agg #[.int .i64 0, .int .i64 0, .int .i64 0, .slice none 0 0], .int .i64 1]) (by simp [results, Try.results21, go_sem]) rfl HZ.out
  have d1 : decide (n < 1) = false := decide_eq_false c1
  by_cases c2 : 8 < n
  · obtain ⟨rfl, rfl⟩ := HNO.out (by omega)
    have d2 : decide (8 < n) = true := decide_eq_true c2
    clear HNO HYES c1 c2
    go_enter Try.func21, Try.ntmps21
    go_wp2_with fail
    exact bodyPost_ret (v := .tuple #[.agg #[.int .i64 0, .int .i64 0, .int .i64 0, .slice none 0 0], .int .i64 1]) (by simp [results, Try.results21, go_sem]) rfl HZ.out
  have d2 : decide (8 < n) = false := decide_eq_false c2
  by_cases c3 : m < 1
  · obtain ⟨rfl, rfl⟩ := HNO.out (by omega)
    have d3 : decide (m < 1) = true := decide_eq_true c3
    clear HNO HYES c1 c2 c3
    go_enter Try.func21, Try.ntmps21
    go_wp2_with fail
    exact bodyPost_ret (v := .tuple #[.agg #[.int .i64 0, .int .i64 0, .int .i64 0, .slice none 0 0], .int .i64 1]) (by simp [results, Try.results21, go_sem]) rfl HZ.out
  have d3 : decide (m < 1) = false := decide_eq_false c3
  by_cases c4 : 8 < m
  · obtain ⟨rfl, rfl⟩ := HNO.out (by omega)
    have d4 : decide (8 < m) = true := decide_eq_true c4
    clear HNO HYES c1 c2 c3 c4
    go_enter Try.func21, Try.ntmps21
    go_wp2_with fail
    exact bodyPost_ret (v := .tuple #[.agg #[.int .i64 0, .int .i64 0, .int .i64 0, .slice none 0 0], .int .i64 1]) (by simp [results, Try.results21, go_sem]) rfl HZ.out
  have d4 : decide (8 < m) = false := decide_eq_false c4
  have hyes := HYES.out (by omega)
  obtain ⟨N, rfl⟩ := Int.eq_ofNat_of_zero_le (show 0 ≤ n by omega)
  rw [Int.toNat_natCast] at hyes
  obtain ⟨rfl, rfl⟩ := hyes
  have hN8 : N ≤ 8 := by omega
  have hN1 : 1 ≤ N := by omega
  clear HNO HYES HZ c1 c2 c3 c4
  have HB0 : Hid (Below w.heap.size w (w.alloc (.cells #[.int .i64 0, .int .i64 0, .int .i64 0, .slice none 0 0] 24))) := Lib.hid ((Below.refl _ _).alloc (Nat.le_refl _) _)
  have HK0 : Hid (Blk (w.alloc (.cells #[.int .i64 0, .int .i64 0, .int .i64 0, .slice none 0 0] 24)) w.heap.size #[.int .i64 0, .int .i64 0, .int .i64 0, .slice none 0 0]) := Lib.hid (Blk.new _ _ _)
  obtain ⟨w0, hw0⟩ : ∃ w0, w0 = w.alloc (.cells #[.int .i64 0, .int .i64 0, .int .i64 0, .slice none 0 0] 24) := ⟨_, rfl⟩
  have HSZ : Hid (w0.heap.size = w.heap.size + 1) := Lib.hid (by rw [hw0]; exact World.size_alloc _ _)
  have HW0 := Lib.hid hw0
  rw [← hw0] at HB0 HK0
  clear hw0
  go_enter Try.func21, Try.ntmps21
  go_wp2_with (first | (rw [← HW0.out]; refine wpList_make_full _ rfl _ _ 22 rfl w0.heap.size 28 i0 (.slice none 0 0) 1 Try.underlying22 HI.out.1 HI.out.2.1 HI.out.2.2.1 .i64 .i64 N N N rfl rfl rfl rfl (by rw [HI.out.2.2.2]; omega) (by unfold maxLen; omega) (Nat.le_refl _) ?_))
  intro w1 g1 g2
  have e1 : (madeCells #[Value.slice none 0 0] N).toList = List.replicate N (.slice none 0 0) := toList_madeCells_one _ _
  have HO : Hid (w1.ownsRow w0.heap.size 28 1 (.slice (some ⟨w0.heap.size, 0, none⟩) N N) N (List.replicate N (.slice none 0 0))) := Lib.hid (by rw [← e1]; exact g1)
  have HB1 : Hid (Below w0.heap.size w0 w1) := Lib.hid ((Below.refl _ _).grown g2 (Nat.le_refl _) (fun k hk => by cases hk))
  have HK1 := Lib.hid (HK0.out.below HB1.out)
  have HBW : Hid (Below w.heap.size w w1) := Lib.hid (HB0.out.trans (HB1.out.mono HB0.out.size))
  obtain ⟨g, hg⟩ : ∃ g, g = w0.heap.size := ⟨_, rfl⟩
  have HG : Hid (g = w.heap.size + 1) := Lib.hid (by rw [hg]; exact HSZ.out)
  rw [← hg] at HO ⊢
  clear g1 g2 e1 hg HB1 HK0 HSZ HB0
  have cK := HK1.out.c
  have fK := HK1.out.f
  have lK := HK1.out.lt
  go_wp2_with fail
  refine bodyPost_ret (v := .tuple #[.agg #[.int .i64 (N : Int), .int .i64 m, .int .i64 0, .slice (some ⟨g, 0, none⟩) N N], .int .i64 0]) (by simp [results, Try.results21, go_sem, *]) rfl ⟨_, rfl, ⟨_, _, _, List.replicate N (.slice none 0 0), rfl, ?_, fun R (hR : R < w.heap.size) => off_new _ (by have := HG.out; omega)⟩, ?_⟩
  · have hcc := cc_new (m := m) HO.out (by omega)
    have hof : Off w.heap.size (some ⟨g, 0, none⟩) (List.replicate N (.slice none 0 0)) (List.replicate N ([] : List Ln)) := off_new _ (by have := HG.out; omega)
    exact (((hcc.set hof 0 _).set hof 1 _).set hof 2 _).set hof 3 _
  · exact set4_below HBW.out (Nat.le_refl _) _ _ _ _
end Go.Proofs.Ytoddmgaihggkjaa
