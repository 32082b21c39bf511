/- Whether banks are right, whether there is such a bank, such a word, and what is read; no condition but that they read. -/
import Derived.Test.YtkeemmedbbammaaParC
import Derived.Deep.CutBlock
import Derived.Deep.DeepCutAuto
import Derived.Deep.RegionHeld3
namespace Go.Proofs.Ytkeemmedbbammaa
set_option linter.unusedVariables false
open Go.ChangeShapes Go.WideShapes Go.ChangeAt Go.RowKit

/-- The cells of banks. -/
def bkv (p : Option Addr) (n c : Nat) (pp : Option Addr) (m cc : Nat) (z : Int) : Array Value := #[.slice p n c, .slice pp m cc, .int .i64 z]

set_option maxHeartbeats 4000000 in
theorem right_any (p : Option Addr) (n c : Nat) (xs : List Value) (pp : Option Addr) (m cc : Nat) (B : Bk) (w : World) (h : Bn w p n c xs pp m cc B) :
    Calls Try.prog 19 #[.agg #[.slice p n c, .slice pp m cc, .int .i64 B.lost]] w fun e w' => e = .returned (.bool (rightB B)) ∧ Below w.heap.size w w' := by
  have hm := h.m100
  have hn := h.n100
  have HH := Lib.hid h
  have hsz := fun w' hb => sized_any p n c xs pp m cc B w' (h.below hb)
  obtain ⟨r, hr⟩ : ∃ r, r = rightB B := ⟨_, rfl⟩
  obtain ⟨s, hs⟩ : ∃ s, s = sizedB B := ⟨_, rfl⟩
  have hr2 : r = (s && (decide (0 ≤ B.lost ∧ B.lost ≤ n) && fineB B)) := by rw [hr, hs]; unfold rightB; rw [h.zn]
  rw [← hr]
  rw [← hs] at hsz
  have HSZ := Lib.hid hsz
  have HS := Lib.hid hs
  have HR := Lib.hid hr2
  obtain ⟨z, hz⟩ : ∃ z, z = B.lost := ⟨_, rfl⟩
  rw [← hz] at HSZ HR ⊢
  have HZ := Lib.hid hz
  clear h hs hr hr2 hz hsz
  go_enter Try.func19, Try.ntmps19
  go_wp2_with fail
  have HB0 : Hid (Below w.heap.size w (w.alloc (.cells #[.slice p n c, .slice pp m cc, .int .i64 z] 25))) := Lib.hid ((Below.refl _ _).alloc (Nat.le_refl _) _)
  refine (HSZ.out _ HB0.out).mono ?_
  rintro e w1 ⟨rfl, hb1⟩
  have HK := Lib.hid (Blk.track1 hb1)
  have HB1 : Hid (Below w.heap.size w w1) := Lib.hid (HB0.out.trans (hb1.mono HB0.out.size))
  clear hb1 HB0
  have kc := HK.out.c
  have hnI : (0 : Int) ≤ (n : Int) := by omega
  cases s with
  | false =>
    go_wp2_with fail
    go_ret
    exact ⟨by rw [HR.out]; rfl, HB1.out⟩
  | true =>
    by_cases h0 : z < 0
    · have e0 : decide (z < 0) = true := decide_eq_true h0
      have hf : r = false := by rw [HR.out, decide_eq_false (by omega)]; rfl
      subst hf
      clear h0
      go_wp2_with fail
      go_ret
      exact ⟨rfl, HB1.out⟩
    · have e0 : decide (z < 0) = false := decide_eq_false h0
      by_cases h1 : (n : Int) < z
      · have e1 : decide ((n : Int) < z) = true := decide_eq_true h1
        have hf : r = false := by rw [HR.out, decide_eq_false (by omega)]; rfl
        subst hf
        clear h0 h1
        go_wp2_with fail
        go_ret
        exact ⟨rfl, HB1.out⟩
      · have e1 : decide ((n : Int) < z) = false := decide_eq_false h1
        have hr3 : r = fineB B := by rw [HR.out, decide_eq_true (by omega)]; rfl
        have hall : allB B.rows m = true := by
          have := HS.out
          unfold sizedB at this
          rw [HH.out.zm] at this
          simpa using (Bool.and_eq_true _ _ ▸ this.symm).2
        have HALL := Lib.hid hall
        clear hall
        by_cases hz0 : z = 0
        · have hr4 : r = decide (B.par = togL B.rows m) := by
            rw [hr3]; unfold fineB; rw [if_pos (by rw [← HZ.out]; exact hz0), HH.out.zm]
          have HR4 := Lib.hid hr4
          subst hz0
          clear hr3 hr4 HR HZ h0 h1 e0 e1
          have HH1 := Lib.hid (HH.out.below HB1.out)
          go_upto_region 4 with fail
          refine region_plan (fun w' : World => (∀ j, w'.cell? ⟨w.heap.size, j, none⟩ = (#[.slice p n c, .slice pp m cc, .int .i64 0] : Array Value)[j]?) ∧ Below w1.heap.size w1 w') 9 [(0, true), (1, true), (2, true), (3, true), (4, true), (5, true), (6, true), (7, false), (8, false)] (by kernel_rfl) (by kernel_rfl) (sOf HK ((Below.refl _ _).drew)) ?_
          iterate 7
            refine plan_read (v := ?_) rfl (by rfl) ?_ ?_
            rotate_left
            · intro w' hS
              try dsimp only at hS
              go_simp
              try with_reducible rfl
            try simp only [Act.put, List.setIfInBounds_toArray, List.set_cons_zero, List.set_cons_succ, List.getElem_toArray, List.getElem_cons_zero, List.getElem_cons_succ]
          refine plan_call (F := 27) (args := ?_) rfl (by rfl) ?_ ?_
          rotate_left
          · go_simp
            rfl
          refine (together_any p n c m xs B.rows _ HH1.out.zn (HH1.out.rw_.below (Below.refl _ _).drew) hm HALL.out).mono ?_
          rintro e w2 ⟨g, rfl, hwd, hb2⟩
          have HB2 : Hid (Below w1.heap.size w1 w2) := Lib.hid ((Below.refl _ _).drew.trans hb2)
          have HWD := Lib.hid hwd
          clear hwd hb2
          refine ⟨_, rfl, sOf HK HB2.out, ?_⟩
          try simp only [Act.put, List.setIfInBounds_toArray, List.set_cons_zero, List.set_cons_succ, List.getElem_toArray, List.getElem_cons_zero, List.getElem_cons_succ]
          refine plan_call (F := 30) (args := ?_) rfl (by rfl) ?_ ?_
          rotate_left
          · go_simp
            rfl
          refine (equal_any _ m cc _ m m B.par (togL B.rows m) _ HH1.out.zm (togL_len _ _) hm hm (HH1.out.nm.below HB2.out) HWD.out.nm).mono ?_
          rintro e w3 ⟨rfl, hb3⟩
          have HB3 : Hid (Below w1.heap.size w1 w3) := Lib.hid (HB2.out.trans (hb3.mono HB2.out.size))
          clear hb3
          rw [← HR4.out]
          refine ⟨_, rfl, sOf HK HB3.out, ?_⟩
          try simp only [Act.put, List.setIfInBounds_toArray, List.set_cons_zero, List.set_cons_succ, List.getElem_toArray, List.getElem_cons_zero, List.getElem_cons_succ]
          refine plan_nil ?_
          simp only [List.drop_succ_cons, List.drop_zero]
          go_wp2_with fail
          go_ret
          exact ⟨rfl, HB1.out.trans (HB3.out.mono HB1.out.size)⟩
        · have e2 : (z == 0) = false := by simpa using hz0
          have hr4 : r = zeroB (B.rows.getD (z - 1).toNat []) := by
            rw [hr3]; unfold fineB; rw [if_neg (by rw [← HZ.out]; exact hz0), HZ.out]
          obtain ⟨k, hk⟩ : ∃ k : Nat, z = (k : Int) + 1 := ⟨(z - 1).toNat, by omega⟩
          subst hk
          have hkn : k < n := by omega
          have e3 : ((k : Int) + 1 - 1).toNat = k := by omega
          rw [e3] at hr4
          have e4 : (k : Int) + 1 - 1 = (k : Int) := by omega
          have hkI : (0 : Int) ≤ (k : Int) := by omega
          have hkI2 : (k : Int) < (n : Int) := by omega
          obtain ⟨b, off, q, x, c2, rfl, hrow⟩ := (HH.out.rw_.below HB1.out).rowAt k (by rw [HH.out.zn]; exact hkn)
          have hck := hrow.cell
          have HROW := Lib.hid hrow
          have HR4 := Lib.hid hr4
          clear hrow hr4 hr3 hz0 h0 h1
          have wk : IntKind.i64.wrap ((k : Int) + 1 - 1) = (k : Int) := by rw [IntKind.wrap_i64]; omega
          go_wp2_with fail
          refine (containsz_any q x c2 _ _ HROW.out.len HROW.out.x100 HROW.out.nm).mono ?_
          rintro e w2 ⟨rfl, rfl⟩
          rw [← HR4.out]
          go_wp2_with fail
          go_ret
          exact ⟨by simp, HB1.out⟩
end Go.Proofs.Ytkeemmedbbammaa
