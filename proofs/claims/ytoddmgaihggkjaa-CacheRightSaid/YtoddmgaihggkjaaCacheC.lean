/- Who was used when, as a map; no condition but that the lines read. -/
import Derived.Test.YtoddmgaihggkjaaCacheB
import Derived.Maps.OwnSet
namespace Go.Proofs.Ytoddmgaihggkjaa
set_option linter.unusedVariables false
open Go.ChangeShapes Go.WideShapes Go.ChangeAt Go.RowKit Go.Maps

theorem law3 : Keyed Try.prog 3 := int_keyed Try.underlying3
theorem zero3 (w : World) : (zeroValue 3).run Try.prog w = .ok (.int .i64 0) w := by kernel_rfl
theorem run_makeHint (m : Int) (w : World) : (Instr.makeMap 73 (some (.int .i64 m))).run Try.prog w = .ok (.map (some w.heap.size)) (w.alloc (.map #[] 0)) := by
  simp [Instr.makeMap, run_underlying Try.underlying73, go_sem, asInt]
/-- An element as it reads. -/
def rawE (v : Value) : Option (DataW Unit × List MemPlace) := match v with
  | .int .i64 a => some (.lit (.int .i64 a), [])
  | _ => none
/-- The map of the first lines. -/
def usM (l : List Ln) (k : Nat) : DataW Unit := ((l.take k).map fun x => (x.used, x.addr)).foldl (fun D p => D.put (.int .i64 p.1) (.lit (.int .i64 p.2))) (.map [])
theorem usM_zero (l : List Ln) : usM l 0 = .map [] := rfl
theorem usM_step (l : List Ln) (k : Nat) (hk : k < l.length) : usM l (k + 1) = (usM l k).put (.int .i64 (l.getD k zL).used) (.lit (.int .i64 (l.getD k zL).addr)) := by
  unfold usM
  rw [take_getD l zL k hk, List.map_append, List.foldl_append]
  rfl
def i64L (l : List Ln) : Prop := ∀ x ∈ l, (Lit.int .i64 x.used).wf = true
theorem i64L_at {l : List Ln} (h : i64L l) (k : Nat) : (Lit.int .i64 (l.getD k zL).used).wf = true := by
  by_cases hk : k < l.length
  · exact h _ (mem_getD l zL k hk)
  · rw [List.getD_eq_getElem?_getD, List.getElem?_eq_none (by omega)]; exact rfl

theorem key_i64 (u : Int) : WideAt.IsKeyLit (.int .i64 u) := by simp [WideAt.IsKeyLit]
theorem us_tidy (l : List Ln) (k : Nat) (hk : k ≤ l.length) : Tidy (usM l k) := by
  induction k with
  | zero => exact tidy_empty
  | succ k ih => rw [usM_step l k hk]; exact (ih (by omega)).put (key_i64 _) _
theorem us_has (l : List Ln) (k : Nat) (hk : k ≤ l.length) (u : Int) : Maps.has (usM l k) (.int .i64 u) = true ↔ ∃ j, j < k ∧ (l.getD j zL).used = u := by
  induction k with
  | zero => exact ⟨fun h => by simp [usM_zero, Maps.has] at h, fun ⟨j, hj, _⟩ => absurd hj (Nat.not_lt_zero _)⟩
  | succ k ih =>
    rw [usM_step l k hk]
    have hi := ih (by omega)
    have hm := (us_tidy l k (by omega)).isMap
    by_cases e : (l.getD k zL).used = u
    · rw [e, has_put_same hm (key_i64 u)]
      exact ⟨fun _ => ⟨k, by omega, e⟩, fun _ => rfl⟩
    · rw [has_put_other (fun e2 => e (by injection e2 with _ e2; exact e2.symm)), hi]
      constructor
      · rintro ⟨j, hj, h⟩; exact ⟨j, by omega, h⟩
      · rintro ⟨j, hj, h⟩
        by_cases ejk : j = k
        · rw [ejk] at h; exact absurd h e
        · exact ⟨j, by omega, h⟩
theorem us_size (l : List Ln) (k : Nat) (hk : k ≤ l.length) : Maps.size (usM l k) ≤ k ∧ (Maps.size (usM l k) = k ↔ ∀ i j, i < j → j < k → (l.getD i zL).used ≠ (l.getD j zL).used) := by
  induction k with
  | zero => exact ⟨Nat.le_refl _, fun _ i j _ hj => absurd hj (Nat.not_lt_zero _), fun _ => rfl⟩
  | succ k ih =>
    rw [usM_step l k hk]
    obtain ⟨h1, h2⟩ := ih (by omega)
    have ht := us_tidy l k (by omega)
    have hh := us_has l k (by omega) (l.getD k zL).used
    rw [size_put ht]
    by_cases e : Maps.has (usM l k) (.int .i64 (l.getD k zL).used) = true
    · rw [if_pos e]
      obtain ⟨j, hj, he⟩ := hh.1 e
      exact ⟨by omega, fun h => by omega, fun h => absurd he (h j k hj (Nat.lt_succ_self _))⟩
    · rw [if_neg e]
      refine ⟨by omega, fun h i j hij hj => ?_, fun h => ?_⟩
      · by_cases ejk : j = k
        · subst ejk; exact fun e2 => e (hh.2 ⟨i, hij, e2⟩)
        · exact h2.1 (by omega) i j hij (by omega)
      · rw [h2.2 (fun i j hij hj => h i j hij (by omega))]
theorem us_at (l : List Ln) (k : Nat) (hk : k ≤ l.length) (hu : ∀ i j, i < j → j < k → (l.getD i zL).used ≠ (l.getD j zL).used) (j : Nat) (hj : j < k) (z : DataW Unit) : (usM l k).atKey (.int .i64 (l.getD j zL).used) z = .lit (.int .i64 (l.getD j zL).addr) := by
  induction k with
  | zero => exact absurd hj (Nat.not_lt_zero _)
  | succ k ih =>
    rw [usM_step l k hk]
    by_cases e : j = k
    · subst e; exact atKey_put_same (us_tidy l j (by omega)).isMap (key_i64 _) _ _
    · rw [atKey_put_other (fun e2 => hu j k (by omega) (Nat.lt_succ_self _) (by injection e2))]
      exact ih (by omega) (fun i j hij hj => hu i j hij (by omega)) (by omega)
theorem us_len (l : List Ln) : decide ((Maps.size (usM l l.length) : Int) = (l.length : Int)) = decide (l.Pairwise fun x y => x.used ≠ y.used) := by
  rw [Bool.eq_iff_iff, decide_eq_true_eq, decide_eq_true_eq, List.pairwise_iff_getElem]
  have h := (us_size l l.length (Nat.le_refl _)).2
  have g : ∀ j (h : j < l.length), l.getD j zL = l[j] := fun j h => by rw [List.getD_eq_getElem?_getD, List.getElem?_eq_getElem h]; rfl
  constructor
  · intro e i j hi hj hij
    rw [← g i hi, ← g j hj]
    exact h.1 (by omega) i j hij hj
  · intro e
    have := h.2 (fun i j hij hj => by rw [g i (by omega), g j hj]; exact e i j (by omega) hj hij)
    omega

set_option maxHeartbeats 2000000 in
set_option maxRecDepth 100000 in
theorem users_any (v : Value) (l : List Ln) (w : World) (h : Lv w v l) (hm : l.length ≤ 10000) (hi : i64L l) :
    Calls Try.prog 39 #[v] w fun e w' => e = .returned (.map (some w.heap.size)) ∧ w'.ownsMap Try.prog 3 rawE w.heap.size l.length (usM l l.length) ∧ Below w.heap.size w w' := by
  obtain ⟨p, c, rfl, hc, hl⟩ := h
  obtain ⟨n, hn⟩ : ∃ n, n = l.length := ⟨_, rfl⟩
  rw [← hn] at hm hc ⊢
  have HL := Lib.hid hl
  have HI := Lib.hid hi
  have HN := Lib.hid hn
  clear hl hi hn
  have hmm := fun w => run_makeHint n w
  go_enter Try.func39, Try.ntmps39
  go_wp2_with fail
  go_loopw [11] (fun i wr => ∃ k : Nat, k ≤ n ∧ i = .int .i64 k ∧ wr.ownsMap Try.prog 3 rawE w.heap.size k (usM l k) ∧ Below w.heap.size w wr) (fun i _ => n - (intOf i).toNat)
  case atStart => exact ⟨0, Nat.zero_le _, rfl, World.ownsMap_made _ _ _ _, (Below.refl _ _).alloc (Nat.le_refl _) _⟩
  case round =>
    obtain ⟨k, hk, rfl, hown, hb⟩ := hrel
    by_cases hlt : k < n
    · have hkl : k < l.length := by rw [← HN.out]; exact hlt
      obtain ⟨b, off, rfl, hat⟩ := HL.out.at_ k hkl
      have hat2 := hat.below hb
      obtain ⟨lt, c0, c1, c2, c3⟩ := hat2
      have hwf := i64L_at HI.out k
      have hst := usM_step l k hkl
      obtain ⟨x, hx⟩ : ∃ x, x = l.getD k zL := ⟨_, rfl⟩
      rw [← hx] at c0 c1 c2 c3 hwf hst
      obtain ⟨xa, xs, xv, xu⟩ := x
      dsimp only at c0 c1 c2 c3 hwf hst
      have HST := Lib.hid hst
      have HO := Lib.hid hown
      have HB := Lib.hid hb
      have HK : Hid (keyOf Try.prog 3 (.int .i64 xu) = some (.int .i64 xu)) := Lib.hid (keyOf_int_mk Try.underlying3 hwf)
      clear hst hown hb hwf hat hx
      go_wp2_with (first
        | (at_mapUpdate; refine wpList_mapUpdate_own _ rfl _ _ _ 73 rfl 3 3 law3 Try.underlying73 _ w.heap.size k _ rfl (HO.out.alloc _) (by unfold maxLen; omega) _ _ _ rfl rfl HK.out _ [] (show rawE (.int .i64 xa) = some (.lit (.int .i64 xa), []) from rfl) ?_; intro w1 hown1 hgrow1))
      have HO1 := Lib.hid hown1
      have HB1 : Hid (Below w.heap.size w w1) := Lib.hid ((HB.out.alloc HB.out.size _).grown hgrow1 (by have := HB.out.size; simp; omega) (fun j hj => by cases hj; exact Nat.le_refl _))
      clear hown1 hgrow1
      go_roundw
      case rel => exact ⟨k + 1, by omega, by go_num, by rw [HST.out]; exact HO1.out, HB1.out⟩
      case measure => simp [intOf]; omega
    · have : k = n := by omega
      subst this
      have HO := Lib.hid hown
      have HB := Lib.hid hb
      clear hown hb
      go_wp2_with fail
      go_ret
      exact ⟨rfl, HO.out, HB.out⟩
end Go.Proofs.Ytoddmgaihggkjaa
