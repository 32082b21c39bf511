/- Two caches that read alike, by the document's own; no condition but that they read. -/
import Derived.Test.YtoddmgaihggkjaaCacheRb
namespace Go.Proofs.Ytoddmgaihggkjaa
set_option linter.unusedVariables false
open Go.ChangeShapes Go.WideShapes Go.ChangeAt Go.RowKit

set_option maxHeartbeats 4000000 in
set_option maxRecDepth 100000 in
theorem same_any (p q : Option Addr) (n c d : Nat) (xs ys : List Value) (C : Ch) (w : World) (h1 : Cc w p n c xs C) (h2 : Cc w q n d ys C) :
    Calls Try.prog 15 #[.agg #[.int .i64 C.sets, .int .i64 C.ways, .int .i64 C.clock, .slice p n c], .agg #[.int .i64 C.sets, .int .i64 C.ways, .int .i64 C.clock, .slice q n d]] w fun e w' => e = .returned (.bool true) ∧ Below w.heap.size w w' := by
  have hn := h1.n100
  have H1 := Lib.hid h1
  have H2 := Lib.hid h2
  obtain ⟨A, W, K, hA, hW, hK⟩ : ∃ A W K, A = C.sets ∧ W = C.ways ∧ K = C.clock := ⟨_, _, _, rfl, rfl, rfl⟩
  rw [← hA, ← hW, ← hK]
  clear h1 h2 hA hW hK
  obtain ⟨w0, hw0⟩ : ∃ w0, w0 = (w.alloc (.cells #[.int .i64 A, .int .i64 W, .int .i64 K, .slice p n c] 24)).alloc (.cells #[.int .i64 A, .int .i64 W, .int .i64 K, .slice q n d] 24) := ⟨_, rfl⟩
  have HB0 : Hid (Below w.heap.size w w0) := Lib.hid (by rw [hw0]; exact ((Below.refl _ _).alloc (Nat.le_refl _) _).alloc (by simp) _)
  have HA0 : Hid (Blk w0 w.heap.size #[.int .i64 A, .int .i64 W, .int .i64 K, .slice p n c]) := Lib.hid (by rw [hw0]; exact (Blk.new _ _ _).alloc _)
  have HC0 : Hid (Blk w0 (w.heap.size + 1) #[.int .i64 A, .int .i64 W, .int .i64 K, .slice q n d]) := Lib.hid (by
    have := Blk.new (w.alloc (.cells #[.int .i64 A, .int .i64 W, .int .i64 K, .slice p n c] 24)) #[.int .i64 A, .int .i64 W, .int .i64 K, .slice q n d] 24
    rw [World.size_alloc] at this
    rw [hw0]; exact this)
  have HW0 := Lib.hid hw0
  clear hw0
  have eA : (A != A) = false := by simp
  have eW : (W != W) = false := by simp
  have eK : (K != K) = false := by simp
  have eN : ((n : Int) != (n : Int)) = false := by simp
  go_enter Try.func15, Try.ntmps15
  go_upto_region 4 with fail
  rw [← HW0.out]
  clear HW0 eA eW eK eN
  go_loopw [5] (fun i wr => ∃ k : Nat, k ≤ n ∧ i = .int .i64 k ∧ Blk wr w.heap.size #[.int .i64 A, .int .i64 W, .int .i64 K, .slice p n c] ∧ Blk wr (w.heap.size + 1) #[.int .i64 A, .int .i64 W, .int .i64 K, .slice q n d] ∧ Below w.heap.size w wr) (fun i _ => n - (intOf i).toNat)
  case atStart => exact ⟨0, Nat.zero_le _, rfl, HA0.out, HC0.out, HB0.out⟩
  case round =>
    obtain ⟨k, hk, rfl, ha, hc, hb⟩ := hrel
    have HAA := Lib.hid ha
    have HCC := Lib.hid hc
    have HB := Lib.hid hb
    clear ha hc hb HA0 HC0 HB0
    have kA := HAA.out.c
    by_cases hlt : k < n
    · obtain ⟨b, off, q1, x, c1, rfl, hat1⟩ := H1.out.setAt k hlt
      obtain ⟨b2, off2, q2, x2, c2, rfl, hat2⟩ := H2.out.setAt k hlt
      have hxx : x2 = x := by rw [← hat1.len, ← hat2.len]
      subst hxx
      have hat1b := hat1.below HB.out
      have hat2b := hat2.below HB.out
      have hx100 := hat1.x100
      have HLN : Hid (∀ V, Below wr.heap.size wr V → Calls Try.prog 10 #[.slice q1 x2 c1, .slice q2 x2 c2] V fun e w' => e = .returned (.bool true) ∧ Below V.heap.size V w') := Lib.hid (fun V hV => by
        have h1 := hat1b.lm.below hV
        have h2 := hat2b.lm.below hV
        have := lines_any q1 q2 c1 c2 _ V h1 h2 (by rw [hat1.len]; omega)
        rw [hat1.len] at this
        exact this)
      have HS : Hid (∀ V, Below wr.heap.size wr V → ((∀ j, V.cell? ⟨w.heap.size, j, none⟩ = (#[.int .i64 A, .int .i64 W, .int .i64 K, .slice (some ⟨b, off, none⟩) n c] : Array Value)[j]?) ∧ ∀ j, V.cell? ⟨w.heap.size + 1, j, none⟩ = (#[.int .i64 A, .int .i64 W, .int .i64 K, .slice (some ⟨b2, off2, none⟩) n d] : Array Value)[j]?) ∧ V.cell? ⟨b, off + k, none⟩ = some (.slice q1 x2 c1) ∧ V.cell? ⟨b2, off2 + k, none⟩ = some (.slice q2 x2 c2)) := Lib.hid (fun V hV =>
        ⟨⟨(HAA.out.below hV).c, (HCC.out.below hV).c⟩, (hV.cell (p := ⟨b, off + k, none⟩) hat1b.lt).trans hat1b.cell, (hV.cell (p := ⟨b2, off2 + k, none⟩) hat2b.lt).trans hat2b.cell⟩)
      have hkI : (k : Int) < (n : Int) := by omega
      clear hat1 hat2 hat1b hat2b
      go_upto_region 6 with fail
      clear kA
      refine region_plan (fun V : World => ((∀ j, V.cell? ⟨w.heap.size, j, none⟩ = (#[.int .i64 A, .int .i64 W, .int .i64 K, .slice (some ⟨b, off, none⟩) n c] : Array Value)[j]?) ∧ ∀ j, V.cell? ⟨w.heap.size + 1, j, none⟩ = (#[.int .i64 A, .int .i64 W, .int .i64 K, .slice (some ⟨b2, off2, none⟩) n d] : Array Value)[j]?) ∧ V.cell? ⟨b, off + k, none⟩ = some (.slice q1 x2 c1) ∧ V.cell? ⟨b2, off2 + k, none⟩ = some (.slice q2 x2 c2)) 11 [(0, true), (1, true), (2, true), (3, true), (4, true), (5, true), (6, true), (7, true), (8, true), (9, true), (10, false)] (by kernel_rfl) (by kernel_rfl) (HS.out _ (Below.refl _ _).drew) ?_
      iterate 10
        refine plan_read (v := ?_) rfl (by rfl) ?_ ?_
        rotate_left
        · intro w' hS
          try dsimp only at hS
          go_simp
          try with_reducible rfl
        try simp only [Act.put, List.setIfInBounds_toArray, List.set_cons_zero, List.set_cons_succ, List.getElem_toArray, List.getElem_cons_zero, List.getElem_cons_succ]
      refine plan_call (F := 10) (args := ?_) rfl (by rfl) ?_ ?_
      rotate_left
      · go_simp
        rfl
      refine (HLN.out wr.drew (Below.refl _ _).drew).mono ?_
      rintro e w2 ⟨rfl, hb2⟩
      have HB2 : Hid (Below wr.heap.size wr w2) := Lib.hid ((Below.refl _ _).drew.trans hb2)
      clear hb2
      refine ⟨_, rfl, HS.out _ HB2.out, ?_⟩
      try simp only [Act.put, List.setIfInBounds_toArray, List.set_cons_zero, List.set_cons_succ, List.getElem_toArray, List.getElem_cons_zero, List.getElem_cons_succ]
      refine plan_nil ?_
      simp only [List.drop_succ_cons, List.drop_zero]
      have HA2 := Lib.hid (HAA.out.below HB2.out)
      have HC2 := Lib.hid (HCC.out.below HB2.out)
      have HB3 : Hid (Below w.heap.size w w2) := Lib.hid (HB.out.trans (HB2.out.mono HB.out.size))
      clear HS HLN HB2
      go_wp2_with fail
      go_roundw
      case rel => exact ⟨k + 1, by omega, by go_num, HA2.out, HC2.out, HB3.out⟩
      case measure => simp [intOf]; omega
    · have hkn : k = n := by omega
      subst hkn
      go_wp2_with fail
      go_ret
      exact ⟨rfl, HB.out⟩
end Go.Proofs.Ytoddmgaihggkjaa
