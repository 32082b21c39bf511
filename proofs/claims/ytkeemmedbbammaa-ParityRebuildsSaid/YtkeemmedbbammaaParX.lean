/- Plain numbers for layer 7: words that are written, banks lost and rebuilt; no program is run here; no condition. -/
import Derived.Test.YtkeemmedbbammaaParNum
namespace Go.Proofs.Ytkeemmedbbammaa
set_option linter.unusedVariables false
open Go.RowKit

/-- Banks that are right, of which none is lost, n of m words. -/
structure Good (B : Bk) (n m : Nat) : Prop where
  right : rightB B = true
  lost : B.lost = 0
  zn : B.rows.length = n
  zm : B.par.length = m
def wd (B : Bk) (j i : Nat) : Nat := (B.rows.getD j []).getD i 0
theorem Good.all {B : Bk} {n m : Nat} (h : Good B n m) : ∀ k, k < n → (B.rows.getD k []).length = m := fun k hk => by
  rw [← h.zm]; exact all_at (right_inv h.right).2.2.2.2.1 k (by rw [h.zn]; exact hk)
theorem Good.par {B : Bk} {n m : Nat} (h : Good B n m) (a : Nat) (ha : a < m) : B.par.getD a 0 = colX B.rows a (-1) := fine_par h.right h.lost a (by rw [h.zm]; exact ha)
theorem Good.bd {B : Bk} {n m : Nat} (h : Good B n m) : 1 ≤ n ∧ n ≤ 8 ∧ 1 ≤ m ∧ m ≤ 64 := by
  have := right_inv h.right
  rw [h.zn, h.zm] at this
  exact ⟨this.1, this.2.1, this.2.2.1, this.2.2.2.1⟩
theorem good_of {B : Bk} {n m : Nat} (hl : B.lost = 0) (zn : B.rows.length = n) (zm : B.par.length = m) (hb : 1 ≤ n ∧ n ≤ 8 ∧ 1 ≤ m ∧ m ≤ 64) (hall : ∀ k, k < n → (B.rows.getD k []).length = m) (hp : ∀ a, a < m → B.par.getD a 0 = colX B.rows a (-1)) : Good B n m := by
  refine ⟨right_of (by omega) (by omega) (by omega) (by omega) (all_of (fun k hk => ?_)) (by omega) (by omega) ?_, hl, zn, zm⟩
  · rw [zm]; exact hall k (by rw [← zn]; exact hk)
  · unfold fineB
    rw [if_pos hl, decide_eq_true_eq]
    refine ext_getD (by rw [togL_len]) fun a ha => ?_
    rw [zm] at ha ⊢
    rw [togL_at _ _ _ ha]
    exact hp a ha
/-- They are known by their words. -/
theorem good_ext {B B' : Bk} {n m : Nat} (h : Good B n m) (h' : Good B' n m) (e : ∀ j i, j < n → i < m → wd B j i = wd B' j i) : B = B' := by
  have hr : B.rows = B'.rows := ext_rows (by rw [h.zn, h'.zn]) fun k hk => by
    rw [h.zn] at hk
    exact ext_getD (by rw [h.all k hk, h'.all k hk]) fun i hi => by
      rw [h.all k hk] at hi
      exact e k i hk hi
  have hp : B.par = B'.par := ext_getD (by rw [h.zm, h'.zm]) fun a ha => by
    rw [h.zm] at ha
    rw [h.par a ha, h'.par a ha, hr]
  obtain ⟨r, p, l⟩ := B
  obtain ⟨r', p', l'⟩ := B'
  have hl : l = l' := h.lost.trans h'.lost.symm
  simp only at hr hp
  rw [hr, hp, hl]
def put (B : Bk) (j i v : Nat) : Bk := putB B (j : Int) (i : Int) v
theorem put_form (B : Bk) (j i v : Nat) : put B j i v = ⟨B.rows.set j ((B.rows.getD j []).set i v), B.par.set i (B.par.getD i 0 ^^^ (wd B j i ^^^ v)), B.lost⟩ := by
  unfold put putB wordB wd; simp only [Int.toNat_natCast]
theorem wd_put {B : Bk} {n m : Nat} (h : Good B n m) {j i v : Nat} (hj : j < n) (hi : i < m) (j' i' : Nat) : wd (put B j i v) j' i' = if j' = j ∧ i' = i then v else wd B j' i' := by
  rw [put_form]
  unfold wd
  simp only
  rw [getD_set B.rows [] _ j j' (by rw [h.zn]; exact hj)]
  by_cases e : j' = j
  · subst e
    rw [if_pos rfl, getD_set _ 0 v i i' (by rw [h.all j' hj]; exact hi)]
    by_cases e2 : i' = i
    · rw [if_pos e2, if_pos ⟨rfl, e2⟩]
    · rw [if_neg e2, if_neg (fun h => e2 h.2)]
  · rw [if_neg e, if_neg (fun h => e h.1)]
theorem put_good {B : Bk} {n m : Nat} (h : Good B n m) {j i : Nat} (v : Nat) (hj : j < n) (hi : i < m) : Good (put B j i v) n m := by
  have hjl : j < B.rows.length := by rw [h.zn]; exact hj
  rw [put_form]
  refine good_of h.lost (by rw [List.length_set]; exact h.zn) (by rw [List.length_set]; exact h.zm) h.bd (fun k hk => ?_) (fun a ha => ?_)
  · show ((B.rows.set j _).getD k []).length = m
    rw [getD_set B.rows [] _ j k hjl]
    by_cases e : k = j
    · rw [if_pos e, List.length_set]; exact h.all j hj
    · rw [if_neg e]; exact h.all k hk
  · show (B.par.set i _).getD a 0 = colX (B.rows.set j _) a (-1)
    rw [colX_set _ _ _ _ hjl, getD_set _ 0 _ i a (by rw [h.zm]; exact hi), getD_set _ 0 v i a (by rw [h.all j hj]; exact hi)]
    by_cases e : a = i
    · subst e
      rw [if_pos rfl, if_pos rfl, h.par a ha]
      rfl
    · rw [if_neg e, if_neg e, h.par a ha, Nat.xor_self, Nat.xor_zero]
theorem put_turn {B : Bk} {n m : Nat} (h : Good B n m) {j i v j' i' v' : Nat} (hj : j < n) (hi : i < m) (hj' : j' < n) (hi' : i' < m) (hne : j ≠ j' ∨ i ≠ i') : put (put B j i v) j' i' v' = put (put B j' i' v') j i v := by
  refine good_ext (put_good (put_good h v hj hi) v' hj' hi') (put_good (put_good h v' hj' hi') v hj hi) fun a b ha hb => ?_
  rw [wd_put (put_good h v hj hi) hj' hi', wd_put h hj hi, wd_put (put_good h v' hj' hi') hj hi, wd_put h hj' hi']
  by_cases e1 : a = j' ∧ b = i'
  · rw [if_pos e1, if_neg (by omega), if_pos e1]
  · rw [if_neg e1, if_neg e1]
theorem put_same {B : Bk} {n m : Nat} (h : Good B n m) {j i : Nat} (hj : j < n) (hi : i < m) : put B j i (wd B j i) = B := by
  refine good_ext (put_good h _ hj hi) h fun a b ha hb => ?_
  rw [wd_put h hj hi]
  by_cases e : a = j ∧ b = i
  · rw [if_pos e, e.1, e.2]
  · rw [if_neg e]
theorem hasW_good {B : Bk} {n m : Nat} (h : Good B n m) {j i : Nat} (hj : j < n) (hi : i < m) : hasW B (j : Int) (i : Int) = true :=
  hasW_of h.right (by omega) (by rw [h.zn]; omega) (by omega) (by rw [h.zm]; omega)
theorem write_good {B : Bk} {n m : Nat} (h : Good B n m) {j i : Nat} (v : Nat) (hj : j < n) (hi : i < m) : writeB B (j : Int) (i : Int) v = put B j i v ∧ writeE B (j : Int) (i : Int) = 0 := by
  unfold writeB writeE
  rw [hasW_good h hj hi, if_pos rfl, if_pos rfl, if_pos h.lost, if_pos h.lost]
  exact ⟨rfl, rfl⟩
theorem read_good {B : Bk} {n m : Nat} (h : Good B n m) {j i : Nat} (hj : j < n) (hi : i < m) : readN B (j : Int) (i : Int) = wd B j i ∧ readE B (j : Int) (i : Int) = 0 := by
  unfold readN readE
  rw [hasW_good h hj hi, if_pos rfl, if_pos rfl, h.lost, if_neg (by omega), if_neg (by omega)]
  unfold wordB wd
  simp only [Int.toNat_natCast]
  exact ⟨trivial, trivial⟩
theorem new_good {n m : Nat} (hb : 1 ≤ n ∧ n ≤ 8 ∧ 1 ≤ m ∧ m ≤ 64) : Good (newB (n : Int) (m : Int)) n m ∧ newE (n : Int) (m : Int) = 0 ∧ ∀ j i, wd (newB (n : Int) (m : Int)) j i = 0 := by
  have e : mayN (n : Int) (m : Int) = true := by unfold mayN; exact decide_eq_true (by omega)
  have e1 : newB (n : Int) (m : Int) = ⟨List.replicate n (List.replicate m 0), List.replicate m 0, 0⟩ := by unfold newB; rw [e, if_pos rfl]; simp only [Int.toNat_natCast]
  have hw : ∀ j i, wd ⟨List.replicate n (List.replicate m 0), List.replicate m 0, 0⟩ j i = 0 := fun j i => by
    unfold wd
    by_cases hj : j < n
    · rw [getD_rep n _ _ j hj, getD_rep0]
    · show ((List.replicate n (List.replicate m 0)).getD j []).getD i 0 = 0
      rw [List.getD_eq_getElem?_getD (l := List.replicate n _), List.getElem?_eq_none (by simp; omega)]; rfl
  have hcol : ∀ (a k : Nat), colK (List.replicate n (List.replicate m 0)) a (-1) k = 0 := fun a k => by
    induction k with
    | zero => rfl
    | succ k ih =>
      unfold colK
      rw [if_neg (by omega), ih]
      have := hw k a
      unfold wd at this
      rw [this]
      rfl
  refine ⟨?_, by unfold newE; rw [e, if_pos rfl], by rw [e1]; exact hw⟩
  rw [e1]
  exact good_of rfl (by simp) (by simp) hb (fun k hk => by show ((List.replicate n _).getD k []).length = m; rw [getD_rep n _ _ k hk, List.length_replicate]) (fun a ha => by
    show (List.replicate m 0).getD a 0 = colX (List.replicate n (List.replicate m 0)) a (-1)
    rw [getD_rep0]
    unfold colX
    rw [hcol])
/-- Of one bank alone Par is the bank. -/
theorem par_one {B : Bk} {m : Nat} (h : Good B 1 m) {i : Nat} (hi : i < m) : B.par.getD i 0 = wd B 0 i := by
  rw [h.par i hi]
  unfold colX
  rw [h.zn]
  unfold colK colK wd
  rw [if_neg (by decide), Nat.zero_xor]

/-- The bank k is lost. -/
def gone (B : Bk) (k : Nat) : Bk := loseB B (k : Int)
theorem hasB_good {B : Bk} {n m : Nat} (h : Good B n m) {k : Nat} (hk : k < n) : hasB B (k : Int) = true := by
  unfold hasB
  rw [h.right, Bool.true_and]
  exact decide_eq_true (by rw [h.zn]; omega)
theorem gone_form {B : Bk} {n m : Nat} (h : Good B n m) {k : Nat} (hk : k < n) : gone B k = ⟨B.rows.set k (List.replicate m 0), B.par, (k : Int) + 1⟩ ∧ loseE B (k : Int) = 0 := by
  unfold gone loseB loseE
  rw [hasB_good h hk, if_pos rfl, if_pos rfl, if_pos h.lost, if_pos h.lost, h.zm]
  simp only [Int.toNat_natCast]
  exact ⟨trivial, trivial⟩
theorem gone_right {B : Bk} {n m : Nat} (h : Good B n m) {k : Nat} (hk : k < n) : rightB (gone B k) = true := by
  have hkl : k < B.rows.length := by rw [h.zn]; exact hk
  have hb := h.bd
  rw [(gone_form h hk).1]
  refine right_of (by show 1 ≤ (B.rows.set k _).length; rw [List.length_set, h.zn]; omega) (by show (B.rows.set k _).length ≤ 8; rw [List.length_set, h.zn]; omega) (by show 1 ≤ B.par.length; rw [h.zm]; omega) (by show B.par.length ≤ 64; rw [h.zm]; omega) (all_of (fun j hj => ?_)) (by show (0 : Int) ≤ (k : Int) + 1; omega) (by show (k : Int) + 1 ≤ ((B.rows.set k _).length : Int); rw [List.length_set, h.zn]; omega) ?_
  · show ((B.rows.set k _).getD j []).length = B.par.length
    rw [h.zm, getD_set B.rows [] _ k j hkl]
    by_cases e : j = k
    · rw [if_pos e, List.length_replicate]
    · rw [if_neg e]; exact h.all j (by rw [← h.zn]; rw [List.length_set] at hj; exact hj)
  · unfold fineB
    rw [if_neg (by show ¬ (k : Int) + 1 = 0; omega)]
    show zeroB ((B.rows.set k (List.replicate m 0)).getD ((k : Int) + 1 - 1).toNat []) = true
    rw [show ((k : Int) + 1 - 1).toNat = k by omega, getD_set B.rows [] _ k k hkl, if_pos rfl]
    exact zero_of (fun i hi => getD_rep0 _ _)
theorem wd_gone {B : Bk} {n m : Nat} (h : Good B n m) {k : Nat} (hk : k < n) (j i : Nat) : wd (gone B k) j i = if j = k then 0 else wd B j i := by
  rw [(gone_form h hk).1]
  unfold wd
  simp only
  rw [getD_set B.rows [] _ k j (by rw [h.zn]; exact hk)]
  by_cases e : j = k
  · rw [if_pos e, if_pos e, getD_rep0]
  · rw [if_neg e, if_neg e]
theorem gone_len {B : Bk} {n m : Nat} (h : Good B n m) {k : Nat} (hk : k < n) : (gone B k).rows.length = n ∧ (gone B k).par.length = m ∧ (gone B k).lost = (k : Int) + 1 := by
  rw [(gone_form h hk).1]
  exact ⟨by show (B.rows.set k _).length = n; rw [List.length_set]; exact h.zn, h.zm, rfl⟩
theorem gone_hasW {B : Bk} {n m : Nat} (h : Good B n m) {k j i : Nat} (hk : k < n) (hj : j < n) (hi : i < m) : hasW (gone B k) (j : Int) (i : Int) = true := by
  obtain ⟨h1, h2, h3⟩ := gone_len h hk
  exact hasW_of (gone_right h hk) (by omega) (by rw [h1]; omega) (by omega) (by rw [h2]; omega)
theorem gone_write {B : Bk} {n m : Nat} (h : Good B n m) {k j i : Nat} (hk : k < n) (hj : j < n) (hi : i < m) : writeE (gone B k) (j : Int) (i : Int) = 8 := by
  unfold writeE
  rw [gone_hasW h hk hj hi, if_pos rfl, (gone_len h hk).2.2, if_neg (by omega)]
theorem gone_lose {B : Bk} {n m : Nat} (h : Good B n m) {k : Nat} (hk : k < n) : loseE (gone B k) (k : Int) = 8 := by
  have hb : hasB (gone B k) (k : Int) = true := by
    unfold hasB
    rw [gone_right h hk, Bool.true_and]
    exact decide_eq_true (by rw [(gone_len h hk).1]; omega)
  unfold loseE
  rw [hb, if_pos rfl, (gone_len h hk).2.2, if_neg (by omega)]
theorem gone_read {B : Bk} {n m : Nat} (h : Good B n m) {k j i : Nat} (hk : k < n) (hj : j < n) (hi : i < m) : readN (gone B k) (j : Int) (i : Int) = (if j = k then 0 else wd B j i) ∧ readE (gone B k) (j : Int) (i : Int) = (if j = k then 8 else 0) := by
  unfold readN readE
  rw [gone_hasW h hk hj hi, if_pos rfl, if_pos rfl, (gone_len h hk).2.2]
  have hw : wordB (gone B k) (j : Int) (i : Int) = wd (gone B k) j i := by unfold wordB wd; simp only [Int.toNat_natCast]
  rw [hw, wd_gone h hk]
  by_cases e : j = k
  · subst e
    rw [if_pos rfl, if_pos rfl, if_pos rfl, if_pos rfl]
    exact ⟨rfl, rfl⟩
  · rw [if_neg e, if_neg e, if_neg (by omega), if_neg (by omega)]
    exact ⟨rfl, rfl⟩
/-- Rebuilt, they are as they were. -/
theorem gone_back {B : Bk} {n m : Nat} (h : Good B n m) {k : Nat} (hk : k < n) : rebuildB (gone B k) = B ∧ rebuildE (gone B k) = 0 := by
  have hkl : k < B.rows.length := by rw [h.zn]; exact hk
  have hr := gone_right h hk
  have hl := (gone_len h hk).2.2
  have hE : rebuildE (gone B k) = 0 := by unfold rebuildE; rw [hr, if_pos rfl, hl, if_neg (by omega)]
  refine ⟨?_, hE⟩
  have hc : ∀ a, a < m → B.par.getD a 0 ^^^ colX (B.rows.set k (List.replicate m 0)) a (-1) = (B.rows.getD k []).getD a 0 := fun a ha => by
    rw [colX_set _ _ _ _ hkl, getD_rep0, Nat.xor_zero, h.par a ha, ← Nat.xor_assoc, Nat.xor_self, Nat.zero_xor]
  have hback : backL (gone B k) = B.rows.getD k [] := by
    rw [(gone_form h hk).1]
    refine ext_getD ?_ fun a ha => ?_
    · show ((List.range B.par.length).map _).length = _
      rw [List.length_map, List.length_range, h.zm, h.all k hk]
    · have ha' : a < B.par.length := by
        have : ((List.range B.par.length).map fun a => B.par.getD a 0 ^^^ colX (B.rows.set k (List.replicate m 0)) a (-1)).length = B.par.length := by simp
        exact this ▸ ha
      show ((List.range B.par.length).map fun a => B.par.getD a 0 ^^^ colX (B.rows.set k (List.replicate m 0)) a (-1)).getD a 0 = _
      rw [getD_map _ _ _ _ ha']
      exact hc a (by rw [← h.zm]; exact ha')
  unfold rebuildB
  rw [hr, if_pos rfl, hl, if_neg (by omega), hback, show ((k : Int) + 1 - 1).toNat = k by omega, (gone_form h hk).1]
  show (⟨(B.rows.set k (List.replicate m 0)).set k (B.rows.getD k []), B.par, 0⟩ : Bk) = B
  have hs : (B.rows.set k (List.replicate m 0)).set k (B.rows.getD k []) = B.rows := ext_rows (by simp) fun j hj => by
    rw [getD_set _ [] _ k j (by rw [List.length_set]; exact hkl), getD_set B.rows [] _ k j hkl]
    by_cases e : j = k
    · rw [if_pos e, e]
    · rw [if_neg e, if_neg e]
  rw [hs]
  have h0 := h.lost
  obtain ⟨r, p, l⟩ := B
  simp only at h0
  rw [h0]
end Go.Proofs.Ytkeemmedbbammaa
