/- All lines of a cache, one behind the other, in memory of one's own; no condition but that the cache reads. -/
import Derived.Test.YtoddmgaihggkjaaCacheO
import Derived.Test.YtoddmgaihggkjaaCacheB
import Derived.Shelf.Spec.SlicesGrow
namespace Go.Proofs.Ytoddmgaihggkjaa
set_option linter.unusedVariables false
open Go.ChangeShapes Go.WideShapes Go.ChangeAt Go.RowKit Go.Shelf

def Try.l41_ren : Go.Shelf.Ren := ⟨fun | 4 => 41 | n => n, fun | 22 => 28 | 25 => 30 | 3 => 3 | 4 => 4 | 9 => 9 | 20 => 20 | 0 => 0 | n => n, fun | n => n⟩
theorem Try.l41 : Go.Proofs.Lays8.n4 Try.prog Try.l41_ren := {
  mixed := by kernel_rfl
  f4 := ⟨Try.f41.name, by decide, Try.func41.trans (congrArg some (by kernel_rfl))⟩
  t0 := Try.underlying0
  a0 := Try.isAgg0
  z0 := Try.sizeOf0
  v0 := Try.zeroValue0
  t3 := Try.underlying3
  a3 := Try.isAgg3
  z3 := Try.sizeOf3
  v3 := Try.zeroValue3
  t4 := Try.underlying4
  a4 := Try.isAgg4
  z4 := Try.sizeOf4
  v4 := Try.zeroValue4
  t9 := Try.underlying9
  a9 := Try.isAgg9
  z9 := Try.sizeOf9
  v9 := Try.zeroValue9
  t20 := Try.underlying20
  a20 := Try.isAgg20
  z20 := Try.sizeOf20
  v20 := Try.zeroValue20
  t22 := Try.underlying28
  a22 := Try.isAgg28
  z22 := Try.sizeOf28
  v22 := Try.zeroValue28 }
theorem grow_any (n : Nat) (w : World) (h : n ≤ 10000) : Calls Try.prog 41 #[.slice none 0 0, .int .i64 (n : Int)] w fun e w' => ∃ p c, e = .returned (.slice p 0 c) ∧ w'.ownsRow w.heap.size 30 4 (.slice p 0 c) 0 [] ∧ Below w.heap.size w w' := by
  by_cases h0 : 0 < n
  · obtain ⟨i0, hi, hz0, hz1, hz2⟩ := info_parts info30
    have hcon := Any8.slices_Grow_grow Try.l41 i0 _ hi hz0 (by rw [hz1]; decide) none 0 0 n [] w (Nat.le_refl _) (by omega) (by rw [hz2]; omega) (by omega) (by simp) (fun _ => rfl) (fun a e => by cases e)
    have hG : grownCap w (0 + n) 0 30 ≤ maxLen := grownCap_le_maxLen w (0 + n) 0 30 (by unfold maxLen; omega)
    have hGn : 0 + n ≤ grownCap w (0 + n) 0 30 := grownCap_ge w _ _ _
    refine hcon.mono ?_
    rintro e w' ⟨rfl, rfl⟩
    refine ⟨_, _, rfl, ?_, (Below.refl _ _).drew.alloc (Nat.le_refl _) _⟩
    refine World.ownsRow_made w.drew _ _ (Nat.le_refl _) hG ?_
    have hGn' : 0 + n ≤ grownCap w (0 + n) 0 (Try.l41_ren.t 25) := hGn
    generalize grownCap w (0 + n) 0 (Try.l41_ren.t 25) = G at hGn' ⊢
    simp only [Array.size_append, size_zeroCells, Value.cells]
    show 0 + (0 + n - 0) * 4 + (G - (0 + n)) * 4 = G * 4
    omega
  · have e : n = 0 := by omega
    subst e
    exact (Any8.slices_Grow_room Try.l41 none 0 0 0 w (by omega) (by omega) (by omega) (by omega)).mono fun _ _ ⟨he, hw⟩ => ⟨none, 0, he, World.ownsRow_nil _ _ _ _, hw ▸ Below.refl _ _⟩

theorem tot_step (L : List (List Ln)) (k : Nat) (hk : k < L.length) : (L.take (k + 1)).flatten = (L.take k).flatten ++ L.getD k [] := by
  rw [take_getD L [] k hk, List.flatten_append]; simp
theorem tot_le (L : List (List Ln)) (k : Nat) (hk : k ≤ L.length) (hn : L.length ≤ 100) (hl : ∀ j, (L.getD j []).length ≤ 100) : (L.take k).flatten.length ≤ k * 100 := by
  induction k with
  | zero => simp
  | succ k ih =>
    rw [tot_step L k (by omega), List.length_append]
    have := ih (by omega)
    have := hl k
    omega

set_option maxHeartbeats 4000000 in
set_option maxRecDepth 100000 in
theorem concat_any (p : Option Addr) (n c : Nat) (xs : List Value) (C : Ch) (w : World) (h : Cc w p n c xs C) :
    Calls Try.prog 26 #[.slice p n c] w fun e w' => ∃ v, e = .returned v ∧ Lw w.heap.size w' v C.lines.flatten ∧ Below w.heap.size w w' := by
  have hn := h.n100
  have hz := h.zn
  have HH := Lib.hid h
  obtain ⟨L, hL⟩ : ∃ L, L = C.lines := ⟨_, rfl⟩
  have HLE := Lib.hid hL
  have HZ : Hid (L.length = n) := Lib.hid (by rw [hL]; exact hz)
  have HST : Hid (∀ k, k < n → (L.take (k + 1)).flatten = (L.take k).flatten ++ L.getD k []) := Lib.hid (fun k hk => tot_step L k (by rw [HZ.out]; exact hk))
  have HTL : Hid (∀ k, k ≤ n → (L.take k).flatten.length ≤ 10000) := Lib.hid (fun k hk => by
    have := tot_le L k (by rw [HZ.out]; exact hk) (by rw [HZ.out]; exact hn) (fun j => by rw [HLE.out]; exact HH.out.l100 j)
    omega)
  rw [← hL]
  obtain ⟨i0, hi, hz0, hz1, hz2⟩ := info_parts info30
  have HI := Lib.hid (And.intro hi (And.intro hz0 (And.intro hz1 hz2)))
  clear h hL hz hi hz0 hz1 hz2
  go_enter Try.func26, Try.ntmps26
  go_wp2_with fail
  go_loop [3, 11] (fun t i => ∃ k : Nat, k ≤ n ∧ i = .int .i64 k ∧ t = .int .i64 ((L.take k).flatten.length : Nat)) (fun _ i => n - (intOf i).toNat)
  case atStart => exact ⟨0, Nat.zero_le _, rfl, rfl⟩
  case round =>
    obtain ⟨k, hk, rfl, rfl⟩ := hrel
    have hT := HTL.out k hk
    obtain ⟨T, hTe⟩ : ∃ T, T = (L.take k).flatten.length := ⟨_, rfl⟩
    rw [← hTe] at hT ⊢
    have HTE := Lib.hid hTe
    clear hTe
    by_cases hlt : k < n
    · obtain ⟨b, off, q, x, c2, rfl, hat⟩ := HH.out.setAt k hlt
      obtain ⟨lt, cell, len, lm, cap, x100⟩ := hat
      have HX : Hid (x = (L.getD k []).length) := Lib.hid (by rw [HLE.out]; exact len.symm)
      have HS : Hid (((L.take (k + 1)).flatten.length : Nat) = T + x) := Lib.hid (by rw [HST.out k hlt, List.length_append, HTE.out, HX.out])
      clear len lm
      go_wp2_with fail
      go_round
      case rel => exact ⟨k + 1, by omega, by go_num, by rw [HS.out]; go_num⟩
      case measure => simp [intOf]; omega
    · have hkn : k = n := by omega
      have HK := Lib.hid hkn
      clear hkn
      go_wp2_with fail
      refine (grow_any T w hT).mono ?_
      rintro e w1 ⟨q, c2, rfl, ho, hb⟩
      have HO := Lib.hid ho
      have HB := Lib.hid hb
      clear ho hb
      go_wp2_with fail
      go_loopw [6, 27] (fun v i wr => ∃ k : Nat, k ≤ n ∧ i = .int .i64 k ∧ (∃ q c, v = .slice q ((L.take k).flatten.length) c ∧ wr.ownsRow w.heap.size 30 4 v ((L.take k).flatten.length) (lnC (L.take k).flatten)) ∧ Below w.heap.size w wr) (fun _ i _ => n - (intOf i).toNat)
      case atStart => exact ⟨0, Nat.zero_le _, rfl, ⟨q, c2, rfl, HO.out⟩, HB.out⟩
      case round =>
        obtain ⟨j, hj, rfl, ⟨q', c', rfl, ho⟩, hb⟩ := hrel
        clear HO HB
        have HO := Lib.hid ho
        have HB := Lib.hid hb
        clear ho hb
        by_cases hjl : j < n
        · have hT2 := HTL.out (j + 1) (by omega)
          obtain ⟨b, off, q2, x, cx, rfl, hat⟩ := HH.out.setAt j hjl
          obtain ⟨lt, cell, len, lm, cap, x100⟩ := hat.below HB.out
          have HX : Hid (L.getD j [] = C.lines.getD j []) := Lib.hid (by rw [HLE.out])
          obtain ⟨l, hl⟩ : ∃ l, l = C.lines.getD j [] := ⟨_, rfl⟩
          rw [← hl] at len lm HX
          have HSL : Hid (Sl wr q2 x (lnC l)) := Lib.hid (by rw [← len]; exact lm.sl)
          have HSF : Hid ((L.take (j + 1)).flatten = (L.take j).flatten ++ l) := Lib.hid (by rw [HST.out j hjl, HX.out])
          have HLL := Lib.hid len
          have hbd : (L.take j).flatten.length + x ≤ 10000 := by
            have := hT2
            rw [HSF.out, List.length_append, len] at this
            exact this
          clear len lm hl hT2 hat
          obtain ⟨F, hF⟩ : ∃ F, F = (L.take j).flatten := ⟨_, rfl⟩
          rw [← hF] at HSF HO hbd ⊢
          clear hF
          have hFl : F.length ≤ 10000 := by omega
          go_wp2_with (first
            | (at_builtin; refine wpList_append_sl rfl _ _ 28 rfl w.heap.size 30 i0 _ 4 32 Try.underlying28 HI.out.1 HI.out.2.1 HI.out.2.2.1 HI.out.2.2.2 rfl (by decide) _ F.length (lnC F) rfl HO.out q2 x cx (lnC l) rfl (by rw [lnC_len, HLL.out]) HSL.out (lnC_one _) (by unfold maxLen; omega) (by omega) (by have := HB.out.size; omega) ?_))
          intro v' w' g1 g2 g3
          have HO2 : Hid (w'.ownsRow w.heap.size 30 4 v' (L.take (j + 1)).flatten.length (lnC (L.take (j + 1)).flatten)) := Lib.hid (by
            rw [HSF.out, List.length_append, lnC_app, HLL.out]; exact g1)
          have HB2 : Hid (Below w.heap.size w w') := Lib.hid (HB.out.grown g2 HB.out.size (fun b hb => (HO.out.lt b hb).1))
          obtain ⟨q3, c3, rfl⟩ := own_sl HO2.out
          clear g1 g2 g3
          go_wp2_with fail
          go_roundw
          case rel => exact ⟨j + 1, by omega, by go_num, ⟨_, _, rfl, HO2.out⟩, HB2.out⟩
          case measure => simp [intOf]; omega
        · have hjn : j = n := by omega
          have hF : (L.take j).flatten = L.flatten := by rw [hjn, ← HZ.out, List.take_length]
          rw [hF] at HO ⊢
          clear hF hjn
          go_wp2_with fail
          go_ret
          exact ⟨_, rfl, HO.out, HB.out⟩
end Go.Proofs.Ytoddmgaihggkjaa
