/- What the document's own Right is; no condition but that the banks read. -/
import Derived.Test.YtkeemmedbbammaaParM
namespace Go.Proofs.Ytkeemmedbbammaa
set_option linter.unusedVariables false
open Go.ChangeShapes Go.WideShapes Go.ChangeAt Go.RowKit

theorem right_eq {B : Bk} {n m : Nat} (hn : B.rows.length = n) (hm : B.par.length = m) : rightB B = (decide (1 ≤ n ∧ n ≤ 8 ∧ 1 ≤ m ∧ m ≤ 64 ∧ 0 ≤ B.lost ∧ B.lost ≤ n) && (allB B.rows m && fineB B)) := by
  unfold rightB sizedB mayN
  rw [hn, hm]
  by_cases h1 : 1 ≤ n ∧ n ≤ 8 ∧ 1 ≤ m ∧ m ≤ 64
  · rw [decide_eq_true (show (1 ≤ (n : Int) ∧ (n : Int) ≤ 8 ∧ 1 ≤ (m : Int) ∧ (m : Int) ≤ 64) by omega), Bool.true_and]
    by_cases h2 : 0 ≤ B.lost ∧ B.lost ≤ n
    · rw [decide_eq_true h2, decide_eq_true (show 1 ≤ n ∧ n ≤ 8 ∧ 1 ≤ m ∧ m ≤ 64 ∧ 0 ≤ B.lost ∧ B.lost ≤ n by omega), Bool.true_and, Bool.true_and]
    · rw [decide_eq_false h2, decide_eq_false (show ¬ (1 ≤ n ∧ n ≤ 8 ∧ 1 ≤ m ∧ m ≤ 64 ∧ 0 ≤ B.lost ∧ B.lost ≤ n) by omega), Bool.false_and, Bool.false_and, Bool.and_false]
  · rw [decide_eq_false (show ¬ (1 ≤ (n : Int) ∧ (n : Int) ≤ 8 ∧ 1 ≤ (m : Int) ∧ (m : Int) ≤ 64) by omega), decide_eq_false (show ¬ (1 ≤ n ∧ n ≤ 8 ∧ 1 ≤ m ∧ m ≤ 64 ∧ 0 ≤ B.lost ∧ B.lost ≤ n) by omega), Bool.false_and, Bool.false_and, Bool.false_and]
theorem right_no {B : Bk} {n m : Nat} (hn : B.rows.length = n) (hm : B.par.length = m) (h : ¬ (1 ≤ n ∧ n ≤ 8 ∧ 1 ≤ m ∧ m ≤ 64 ∧ 0 ≤ B.lost ∧ B.lost ≤ n)) : rightB B = false := by
  rw [right_eq hn hm, decide_eq_false h, Bool.false_and]
/-- Whether a column is fine. -/
def colOk (B : Bk) (a : Nat) : Prop := if B.lost = 0 then colX B.rows a (-1) = B.par.getD a 0 else (B.rows.getD (B.lost - 1).toNat []).getD a 0 = 0
theorem fine_of {B : Bk} {m : Nat} (hm : B.par.length = m) (hall : allB B.rows m = true) (hl : 0 ≤ B.lost ∧ B.lost ≤ B.rows.length) (h : ∀ a, a < m → colOk B a) : fineB B = true := by
  unfold fineB
  by_cases h0 : B.lost = 0
  · rw [if_pos h0, decide_eq_true_eq]
    refine ext_getD (by rw [togL_len]) fun a ha => ?_
    rw [hm] at ha ⊢
    have := h a ha
    unfold colOk at this
    rw [if_pos h0] at this
    rw [togL_at _ _ _ ha, this]
  · rw [if_neg h0]
    refine zero_of fun a ha => ?_
    rw [all_at hall _ (by omega)] at ha
    have := h a ha
    unfold colOk at this
    rwa [if_neg h0] at this
theorem fine_no {B : Bk} {m a : Nat} (hm : B.par.length = m) (ha : a < m) (h : ¬ colOk B a) : fineB B = false := by
  cases hf : fineB B with
  | false => rfl
  | true =>
    exfalso
    apply h
    unfold colOk
    unfold fineB at hf
    by_cases h0 : B.lost = 0
    · rw [if_pos h0] at hf ⊢
      rw [decide_eq_true_eq, hm] at hf
      conv => rhs; rw [hf]
      rw [togL_at _ _ _ ha]
    · rw [if_neg h0] at hf ⊢
      exact zero_inv hf a

set_option maxHeartbeats 4000000 in
theorem rright_any (p : Option Addr) (n c : Nat) (xs : List Value) (pp : Option Addr) (m cc : Nat) (B : Bk) (w : World) (h : Bn w p n c xs pp m cc B) :
    Calls Try.prog 20 #[.agg #[.slice p n c, .slice pp m cc, .int .i64 B.lost]] w fun e w' => e = .returned (.bool (rightB B)) ∧ Below w.heap.size w w' := by
  have hm := h.m100
  have hn := h.n100
  have HH := Lib.hid h
  obtain ⟨r, hr⟩ : ∃ r, r = rightB B := ⟨_, rfl⟩
  obtain ⟨z, hz⟩ : ∃ z, z = B.lost := ⟨_, rfl⟩
  rw [← hr, ← hz]
  have HR := Lib.hid hr
  have HZ := Lib.hid hz
  have HNO : Hid (¬ (1 ≤ n ∧ n ≤ 8 ∧ 1 ≤ m ∧ m ≤ 64 ∧ 0 ≤ z ∧ z ≤ n) → r = false) := Lib.hid (fun hh => by rw [hr]; exact right_no h.zn h.zm (by rw [← hz]; exact hh))
  have HB0 : Hid (Below w.heap.size w (w.alloc (.cells #[.slice p n c, .slice pp m cc, .int .i64 z] 25))) := Lib.hid ((Below.refl _ _).alloc (Nat.le_refl _) _)
  have HK0 : Hid (Blk (w.alloc (.cells #[.slice p n c, .slice pp m cc, .int .i64 z] 25)) w.heap.size #[.slice p n c, .slice pp m cc, .int .i64 z]) := Lib.hid (Blk.new _ _ _)
  clear h hr hz
  go_enter Try.func20, Try.ntmps20
  by_cases h1 : n = 0
  · subst h1
    have hf := HNO.out (by omega)
    subst hf
    go_wp2_with fail
    go_ret
    exact ⟨rfl, HB0.out⟩
  have d1 : ((n : Int) == 0) = false := by simp; exact h1
  by_cases h2 : 8 < n
  · have hf := HNO.out (by omega)
    subst hf
    have d2 : decide ((8 : Int) < (n : Int)) = true := decide_eq_true (by omega)
    clear h1 h2
    go_wp2_with fail
    go_ret
    exact ⟨rfl, HB0.out⟩
  have d2 : decide ((8 : Int) < (n : Int)) = false := decide_eq_false (by omega)
  by_cases h3 : m = 0
  · subst h3
    have hf := HNO.out (by omega)
    subst hf
    clear h1 h2
    go_wp2_with fail
    go_ret
    exact ⟨rfl, HB0.out⟩
  have d3 : ((m : Int) == 0) = false := by simp; exact h3
  by_cases h4 : 64 < m
  · have hf := HNO.out (by omega)
    subst hf
    have d4 : decide ((64 : Int) < (m : Int)) = true := decide_eq_true (by omega)
    clear h1 h2 h3 h4
    go_wp2_with fail
    go_ret
    exact ⟨rfl, HB0.out⟩
  have d4 : decide ((64 : Int) < (m : Int)) = false := decide_eq_false (by omega)
  by_cases h5 : z < 0
  · have hf := HNO.out (by omega)
    subst hf
    have d5 : decide (z < 0) = true := decide_eq_true (by omega)
    clear h1 h2 h3 h4 h5
    go_wp2_with fail
    go_ret
    exact ⟨rfl, HB0.out⟩
  have d5 : decide (z < 0) = false := decide_eq_false (by omega)
  by_cases h6 : (n : Int) < z
  · have hf := HNO.out (by omega)
    subst hf
    have d6 : decide ((n : Int) < z) = true := decide_eq_true (by omega)
    clear h1 h2 h3 h4 h5 h6
    go_wp2_with fail
    go_ret
    exact ⟨rfl, HB0.out⟩
  have d6 : decide ((n : Int) < z) = false := decide_eq_false (by omega)
  have HR2 : Hid (r = (allB B.rows m && fineB B)) := Lib.hid (by rw [HR.out, right_eq HH.out.zn HH.out.zm, decide_eq_true (by rw [← HZ.out]; omega), Bool.true_and])
  have HZN : Hid (0 ≤ z ∧ z ≤ n) := Lib.hid (by omega)
  clear HNO h1 h2 h3 h4 h5 h6
  go_wp2_with fail
  clear d1 d2 d3 d4 d5 d6
  obtain ⟨W, hW⟩ : ∃ W, W = w.alloc (.cells #[.slice p n c, .slice pp m cc, .int .i64 z] 25) := ⟨_, rfl⟩
  rw [← hW] at HB0 HK0 ⊢
  clear hW
  go_loopw [3] (fun i wr => ∃ k : Nat, k ≤ n ∧ i = .int .i64 k ∧ Hid (∀ j, j < k → (B.rows.getD j []).length = m) ∧ Below W.heap.size W wr) (fun i _ => n - (intOf i).toNat)
  case atStart => exact ⟨0, Nat.zero_le _, rfl, Lib.hid (fun j hj => absurd hj (Nat.not_lt_zero _)), Below.refl _ _⟩
  case round =>
    obtain ⟨k, hk, rfl, hi, hb⟩ := hrel
    have HB := Lib.hid hb
    have HKK := Lib.hid (HK0.out.below hb)
    clear hb
    have cK := HKK.out.c
    by_cases hlt : k < n
    · have hltI : decide ((k : Int) < n) = true := decide_eq_true (by omega)
      have hltk : k < B.rows.length := by rw [HH.out.zn]; exact hlt
      obtain ⟨b, off, q, x, c2, hp, hrow⟩ := (HH.out.rw_.below HB0.out).rowAt k hltk
      have hck := (hrow.below HB.out).cell
      have HXL := Lib.hid hrow.len
      subst hp
      clear hrow hltk
      by_cases hx : x = m
      · have e1 : ((x : Int) != (m : Int)) = false := by simp; omega
        have HI : Hid (∀ j, j < k + 1 → (B.rows.getD j []).length = m) := Lib.hid (fun j hj => by
          by_cases e : j = k
          · subst e; rw [HXL.out, hx]
          · exact hi.out j (by omega))
        have HX := Lib.hid hx
        clear hx hi
        go_wp2_with fail
        go_quiet (fail)
        go_wp2
        go_roundw
        case rel => exact ⟨k + 1, by omega, by go_num, HI, below_drewN HB.out _⟩
        case measure => simp [intOf]; omega
      · have e1 : ((x : Int) != (m : Int)) = true := by simp; omega
        have hf : r = false := by
          rw [HR2.out]
          cases ha : allB B.rows m with
          | false => rfl
          | true => exact absurd (HXL.out.symm.trans (all_at ha k (by rw [HH.out.zn]; exact hlt))) hx
        subst hf
        clear hx hi
        go_wp2_with fail
        go_quiet (fail)
        go_wp2
        go_ret
        exact ⟨rfl, HB0.out.trans ((below_drewN HB.out _).mono HB0.out.size)⟩
    · have hltI : decide ((k : Int) < n) = false := decide_eq_false (by omega)
      have hall : allB B.rows m = true := all_of (fun j hj => hi.out j (by rw [HH.out.zn] at hj; omega))
      have HALL := Lib.hid hall
      have HR3 : Hid (r = fineB B) := Lib.hid (by rw [HR2.out, hall, Bool.true_and])
      clear hall hi
      go_wp2_with fail
      obtain ⟨V, hV⟩ : ∃ V, V = wr := ⟨_, rfl⟩
      rw [← hV] at HB HKK ⊢
      have HBV : Hid (Below w.heap.size w V) := Lib.hid (HB0.out.trans (HB.out.mono HB0.out.size))
      have HHV := Lib.hid (HH.out.below HBV.out)
      clear hV cK HB
      go_loopw [4] (fun i wr => ∃ a : Nat, a ≤ m ∧ i = .int .i64 a ∧ Hid (∀ j, j < a → colOk B j) ∧ Below V.heap.size V wr) (fun i _ => m - (intOf i).toNat)
      case atStart => exact ⟨0, Nat.zero_le _, rfl, Lib.hid (fun j hj => absurd hj (Nat.not_lt_zero _)), Below.refl _ _⟩
      case round =>
        obtain ⟨a, ha, rfl, hi, hb⟩ := hrel
        have HB := Lib.hid hb
        have cK := (HKK.out.below hb).c
        clear hb
        by_cases hal : a < m
        · have halI : decide ((a : Int) < m) = true := decide_eq_true (by omega)
          by_cases hz0 : z = 0
          · have e0 : (z == 0) = true := by simpa using hz0
            subst hz0
            obtain ⟨b2, off2, hb2, hq, hc2⟩ := HHV.out.nm.cellAt a (by rw [HH.out.zm]; exact hal)
            subst hq
            have hcp := (HB.out.cell (p := ⟨b2, off2 + a, none⟩) hb2).trans hc2
            have hcol : ∀ i, Calls Try.prog 25 #[.slice p n c, .int .i64 a, .int .i64 (-1)] (wr.drewN i) fun e w' => e = .returned (.int .u32 (colX B.rows a (-1) : Nat)) ∧ w' = wr.drewN i := fun i =>
              (column_any p n c m a (-1) xs B.rows _ HH.out.zn ((HHV.out.below HB.out).rw_.below (below_drewN (Below.refl _ _) i)) HALL.out hal).mono fun e w' h => ⟨h.1, h.2.symm⟩
            obtain ⟨x, hx⟩ : ∃ x, x = colX B.rows a (-1) := ⟨_, rfl⟩
            obtain ⟨y, hy⟩ : ∃ y, y = B.par.getD a 0 := ⟨_, rfl⟩
            rw [← hx] at hcol
            rw [← hy] at hcp
            have HCOL := Lib.hid hcol
            have HX := Lib.hid hx
            have HY := Lib.hid hy
            clear hcol hb2 hc2 hx hy
            by_cases hxy : x = y
            · have e1 : ((x : Int) != (y : Int)) = false := by simp; omega
              have HI : Hid (∀ j, j < a + 1 → colOk B j) := Lib.hid (fun j hj => by
                by_cases e : j = a
                · subst e
                  unfold colOk
                  rw [if_pos HZ.out.symm, ← HX.out, ← HY.out]
                  exact hxy
                · exact hi.out j (by omega))
              clear hxy hi
              go_wp2_with fail
              go_quiet ((go_at_call 25; exact Calls.quiet_of_same (HCOL.out _)))
              go_wp2
              go_roundw
              case rel => exact ⟨a + 1, by omega, by go_num, HI, below_drewN HB.out _⟩
              case measure => simp [intOf]; omega
            · have e1 : ((x : Int) != (y : Int)) = true := by simp; omega
              have hf : r = false := by
                rw [HR3.out]
                refine fine_no HH.out.zm hal (fun h => hxy ?_)
                unfold colOk at h
                rw [if_pos HZ.out.symm, ← HX.out, ← HY.out] at h
                exact h
              subst hf
              clear hxy hi
              go_wp2_with fail
              go_quiet ((go_at_call 25; exact Calls.quiet_of_same (HCOL.out _)))
              go_wp2
              go_ret
              exact ⟨rfl, HBV.out.trans ((below_drewN HB.out _).mono HBV.out.size)⟩
          · have e0 : (z == 0) = false := by simpa using hz0
            have hzn := HZN.out
            obtain ⟨k1, hk1⟩ : ∃ k1 : Nat, z = (k1 : Int) + 1 := ⟨(z - 1).toNat, by omega⟩
            subst hk1
            have hkn : k1 < n := by omega
            have e2 : decide ((0 : Int) < (k1 : Int) + 1) = true := decide_eq_true (by omega)
            have e4 : (k1 : Int) + 1 - 1 = (k1 : Int) := by omega
            have wk : IntKind.i64.wrap (k1 : Int) = (k1 : Int) := by rw [IntKind.wrap_i64]; omega
            have hkI : (0 : Int) ≤ (k1 : Int) := by omega
            have hkI2 : (k1 : Int) < (n : Int) := by omega
            obtain ⟨b, off, q, x, c2, hp, hrow⟩ := (HHV.out.below HB.out).rw_.rowAt k1 (by rw [HH.out.zn]; exact hkn)
            subst hp
            have hck := hrow.cell
            have hxm : x = m := by rw [← hrow.len]; exact all_at HALL.out k1 (by rw [HH.out.zn]; exact hkn)
            subst hxm
            obtain ⟨b2, off2, hb2, hq, hc2⟩ := hrow.nm.cellAt a (by rw [hrow.len]; exact hal)
            subst hq
            obtain ⟨y, hy⟩ : ∃ y, y = (B.rows.getD k1 []).getD a 0 := ⟨_, rfl⟩
            rw [← hy] at hc2
            have HY := Lib.hid hy
            have HCO : Hid (colOk B a ↔ y = 0) := Lib.hid (by
              unfold colOk
              rw [← HZ.out, if_neg hz0, hy, show ((k1 : Int) + 1 - 1).toNat = k1 by omega])
            clear hrow hb2 hy hzn hz0
            by_cases hy0 : y = 0
            · have HI : Hid (∀ j, j < a + 1 → colOk B j) := Lib.hid (fun j hj => by
                by_cases e : j = a
                · subst e; exact HCO.out.2 hy0
                · exact hi.out j (by omega))
              have e1 : ((y : Int) != 0) = false := by simp; omega
              clear hy0 hi
              go_wp2_with fail
              go_quiet (fail)
              go_wp2
              go_roundw
              case rel => exact ⟨a + 1, by omega, by go_num, HI, below_drewN HB.out _⟩
              case measure => simp [intOf]; omega
            · have e1 : ((y : Int) != 0) = true := by simp; omega
              have hf : r = false := by
                rw [HR3.out]
                exact fine_no HH.out.zm hal (fun h => hy0 (HCO.out.1 h))
              subst hf
              clear hy0 hi
              go_wp2_with fail
              go_quiet (fail)
              go_wp2
              go_ret
              exact ⟨rfl, HBV.out.trans ((below_drewN HB.out _).mono HBV.out.size)⟩
        · have halI : decide ((a : Int) < m) = false := decide_eq_false (by omega)
          have hf : r = true := by
            rw [HR3.out]
            exact fine_of HH.out.zm HALL.out (by rw [← HZ.out, HH.out.zn]; exact HZN.out) (fun j hj => hi.out j (by omega))
          subst hf
          clear hi
          go_wp2_with fail
          go_ret
          exact ⟨rfl, HBV.out.trans (HB.out.mono HBV.out.size)⟩
end Go.Proofs.Ytkeemmedbbammaa
