/- The document's own: a list without one of its lines; no condition but that it reads. -/
import Derived.Test.YtoddmgaihggkjaaCacheRf
import Derived.Test.YtoddmgaihggkjaaCacheJ
namespace Go.Proofs.Ytoddmgaihggkjaa
set_option linter.unusedVariables false
open Go.ChangeShapes Go.WideShapes Go.ChangeAt Go.RowKit

theorem size30 (W : World) : (sizeOf (Try.prog.elem 28)).run Try.prog W = .ok 4 W := by
  obtain ⟨i0, hi, _, hz1, _⟩ := info_parts info30
  have e : Try.prog.elem 28 = 30 := by kernel_rfl
  rw [e]
  simp [sizeOf, typeInfo, hi, hz1]
theorem cut_lo (b off x c l : Nat) (hl : l ≤ x) (hc : x ≤ c) : ∃ q, (∀ W, (Instr.slice 28 (.slice (some ⟨b, off, none⟩) x c) (some (.int .i64 (l : Int))) none none).run Try.prog W = .ok (.slice q (x - l) (c - l)) W) ∧ (l < x → q = some ⟨b, off + l * 4, none⟩) := by
  have he : Try.prog.underlying 28 = some (.slice (Try.prog.elem 28)) := by kernel_rfl
  refine ⟨if c = l then some ⟨b, off, none⟩ else some ⟨b, off + l * 4, none⟩, fun W => ?_, fun h => by rw [if_neg (by omega)]⟩
  rw [run_slice_l W 28 _ x c he .i64 l (by omega) (by omega), size30]
  simp [Result.andThen, sliced, Addr.add]
  by_cases h1 : c = l
  · rw [if_pos h1, if_pos h1]
  · rw [if_neg h1, if_neg h1]
    by_cases h2 : l * 4 = 0
    · rw [if_pos h2, h2]; rfl
    · rw [if_neg h2]
theorem cut_hi (b off x c h : Nat) (hl : h ≤ c) (W : World) : (Instr.slice 28 (.slice (some ⟨b, off, none⟩) x c) none (some (.int .i64 (h : Int))) none).run Try.prog W = .ok (.slice (some ⟨b, off, none⟩) h c) W := by
  have he : Try.prog.underlying 28 = some (.slice (Try.prog.elem 28)) := by kernel_rfl
  rw [run_slice_h W 28 _ x c he .i64 h (by omega) (by omega), size30]
  simp [Result.andThen, sliced, Addr.add]
theorem Lm.take {w : World} {p : Option Addr} {l : List Ln} (h : Lm w p l) (j : Nat) (hj : j < l.length) : Lm w p (l.take j) := fun h0 => by
  obtain ⟨b, off, h1, h2, h3⟩ := h (by omega)
  refine ⟨b, off, h1, h2, fun k hk i hi => ?_⟩
  rw [List.length_take] at hk
  rw [h3 k (by omega) i hi, List.getD_eq_getElem?_getD, List.getD_eq_getElem?_getD, List.getElem?_take_of_lt (by omega)]
theorem Lm.drop {w : World} {b off : Nat} {l : List Ln} (h : Lm w (some ⟨b, off, none⟩) l) (j : Nat) {q : Option Addr} (hq : j < l.length → q = some ⟨b, off + j * 4, none⟩) : Lm w q (l.drop j) := fun h0 => by
  rw [List.length_drop] at h0
  obtain ⟨b', off', h1, h2, h3⟩ := h (by omega)
  injection h2 with h2
  injection h2 with e1 e2 _
  subst e1 e2
  refine ⟨b, off + j * 4, h1, hq (by omega), fun k hk i hi => ?_⟩
  rw [List.length_drop] at hk
  rw [show off + j * 4 + (k * 4 + i) = off + ((j + k) * 4 + i) by omega, h3 (j + k) (by omega) i hi, List.getD_eq_getElem?_getD, List.getD_eq_getElem?_getD, List.getElem?_drop]

set_option maxHeartbeats 4000000 in
set_option maxRecDepth 100000 in
theorem without_any (b off c : Nat) (l : List Ln) (j : Nat) (w : World) (hp : Lm w (some ⟨b, off, none⟩) l) (hj : j < l.length) (hc : l.length ≤ c) (hm : l.length ≤ 10000) :
    Calls Try.prog 31 #[.slice (some ⟨b, off, none⟩) l.length c, .int .i64 (j : Int)] w fun e w' => ∃ v, e = .returned v ∧ Lw w.heap.size w' v (l.eraseIdx j) ∧ Below w.heap.size w w' := by
  obtain ⟨q, hq, hq2⟩ := cut_lo b off l.length c (j + 1) (by omega) hc
  have hh := cut_hi b off l.length c j (by omega)
  have H1 : Hid (Sl w (some ⟨b, off, none⟩) j (lnC (l.take j))) := Lib.hid (by have := (hp.take j hj).sl; rw [List.length_take, Nat.min_eq_left (by omega)] at this; exact this)
  have H2 : Hid (Sl w q (l.length - (j + 1)) (lnC (l.drop (j + 1)))) := Lib.hid (by have := (hp.drop (j + 1) hq2).sl; rw [List.length_drop] at this; exact this)
  have HL1 : Hid ((lnC (l.take j)).length = j * 4) := Lib.hid (by rw [lnC_len, List.length_take, Nat.min_eq_left (by omega)])
  have HL2 : Hid ((lnC (l.drop (j + 1))).length = (l.length - (j + 1)) * 4) := Lib.hid (by rw [lnC_len, List.length_drop])
  have HE : Hid (∀ V base v, V.ownsRow base 30 4 v (0 + j + (l.length - (j + 1))) ([] ++ lnC (l.take j) ++ lnC (l.drop (j + 1))) → Lw base V v (l.eraseIdx j)) := Lib.hid (fun V base v h => by
    unfold Lw
    rw [List.eraseIdx_eq_take_drop_succ, lnC_app, List.length_append, List.length_take, List.length_drop, Nat.min_eq_left (by omega)]
    rw [Nat.zero_add, List.nil_append] at h
    exact h)
  obtain ⟨i0, hi, hz0, hz1, hz2⟩ := info_parts info30
  have HI := Lib.hid (And.intro hi (And.intro hz0 (And.intro hz1 hz2)))
  obtain ⟨J, hJ⟩ : ∃ J, J = j + 1 := ⟨_, rfl⟩
  rw [← hJ] at hq H2 HL2 HE
  have hj1 : wrap64 ((j : Int) + 1) = (J : Int) := by unfold wrap64; omega
  have hj2 : IntKind.i64.wrap ((j : Int) + 1) = (J : Int) := by rw [IntKind.wrap_i64]; omega
  have HJX : Hid (j < l.length ∧ J = j + 1) := Lib.hid ⟨hj, hJ⟩
  obtain ⟨x, hx⟩ : ∃ x, x = l.length := ⟨_, rfl⟩
  rw [← hx] at hq hh H2 HL2 HE hm HJX ⊢
  obtain ⟨A, hA⟩ : ∃ A, A = lnC (l.take j) := ⟨_, rfl⟩
  obtain ⟨B, hB⟩ : ∃ B, B = lnC (l.drop J) := ⟨_, rfl⟩
  have HA1 : Hid (∀ u ∈ A, u.oneCell' = true) := Lib.hid (by rw [hA]; exact lnC_one _)
  have HB1 : Hid (∀ u ∈ B, u.oneCell' = true) := Lib.hid (by rw [hB]; exact lnC_one _)
  rw [← hA] at H1 HL1 HE
  rw [← hB] at H2 HL2 HE
  clear hA hB hx hJ hi hz0 hz1 hz2 hp hj hc hq2
  go_enter Try.func31, Try.ntmps31
  go_upto_region 1 with fail
  refine region_planT (fun _ => True) 9 (.read 1 (.read 2 (.read 3 (.read 5 (.read 6 (.read 7 (.read 8 (.one 0 (.one 4 .stop))))))))) (by kernel_rfl) (by kernel_rfl) trivial ?_
  iterate 7
    refine planT_read (v := ?_) rfl (by rfl) ?_ ?_
    rotate_left
    · intro w' hS
      try dsimp only at hS
      go_simp
      try with_reducible rfl
    try simp only [Act.put, List.setIfInBounds_toArray, List.set_cons_zero, List.set_cons_succ, List.getElem_toArray, List.getElem_cons_zero, List.getElem_cons_succ]
  refine planT_one (op_make (v := .slice (some ⟨w.heap.size, 0, none⟩) 0 0) (w1 := w.drew.alloc (.cells #[] 30)) rfl (by rfl) (by go_simp) ⟨trivial, ?_⟩)
  try simp only [Act.put, List.setIfInBounds_toArray, List.set_cons_zero, List.set_cons_succ, List.getElem_toArray, List.getElem_cons_zero, List.getElem_cons_succ]
  refine planT_one (op_wp rfl (by rfl) (wp_append_sl (.tmp 5) (.tmp 8) 28 rfl w.heap.size 30 i0 _ 4 32 Try.underlying28 HI.out.1 HI.out.2.1 HI.out.2.2.1 HI.out.2.2.2 rfl (by decide) (.slice (some ⟨w.heap.size, 0, none⟩) 0 0) 0 [] rfl (fresh_made (w := w.drew) (Nat.le_refl _)) (some ⟨b, off, none⟩) j c A rfl HL1.out (H1.out.below ((Below.refl _ _).drew.alloc (Nat.le_refl _) _)) HA1.out (by have := HJX.out.1; have := HJX.out.2; unfold maxLen; omega) (by have := HJX.out.1; have := HJX.out.2; omega) (by simp) ?_))
  intro v' w' g1 g2 g3
  refine ⟨trivial, ?_⟩
  try simp only [Act.put, List.setIfInBounds_toArray, List.set_cons_zero, List.set_cons_succ, List.getElem_toArray, List.getElem_cons_zero, List.getElem_cons_succ]
  refine planT_stop ?_
  simp only [List.drop_succ_cons, List.drop_zero]
  obtain ⟨q3, c3, rfl, -⟩ := own_cap g1
  have HG : Hid (w'.ownsRow w.heap.size 30 4 (.slice q3 (0 + j) c3) (0 + j) ([] ++ A)) := Lib.hid g1
  have HBL : Hid (Below w.heap.size w w') := Lib.hid (((Below.refl w.heap.size w).drew.alloc (Nat.le_refl _) _).grown g2 (by simp) (fun k hk => by simp [Value.ownBlock] at hk; omega))
  clear g1 g2 g3
  go_wp2_with (first | (at_builtin; refine wpList_append_sl rfl _ _ 28 rfl w.heap.size 30 i0 _ 4 32 Try.underlying28 HI.out.1 HI.out.2.1 HI.out.2.2.1 HI.out.2.2.2 rfl (by decide) _ (0 + j) ([] ++ A) rfl HG.out q (x - J) (c - J) B rfl HL2.out (H2.out.below HBL.out) HB1.out (by have := HJX.out.1; have := HJX.out.2; unfold maxLen; omega) (by have := HJX.out.1; have := HJX.out.2; omega) HBL.out.size ?_))
  intro v2 w2 g1 g2 g3
  have HR := Lib.hid (HE.out w2 w.heap.size v2 (by rw [Nat.zero_add, List.nil_append]; exact g1))
  have HB2 : Hid (Below w.heap.size w w2) := Lib.hid (HBL.out.grown g2 HBL.out.size (fun k hk => by have h := HG.out; rw [Nat.zero_add] at h; exact (h.lt k hk).1))
  clear g1 g2 g3
  go_wp2_with fail
  go_ret
  exact ⟨_, rfl, HR.out, HB2.out⟩
end Go.Proofs.Ytoddmgaihggkjaa
