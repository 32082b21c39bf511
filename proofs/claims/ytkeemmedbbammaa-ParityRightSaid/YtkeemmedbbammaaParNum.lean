/- Plain numbers for layer 7: what banks are, when they are right, and what they become; no program is run here; no condition. -/
import Derived.Test.YtkeemmedbbammaaGen
namespace Go.Proofs.Ytkeemmedbbammaa
set_option linter.unusedVariables false
open Go.RowKit

/-- Banks. -/
structure Bk where
  rows : List (List Nat)
  par : List Nat
  lost : Int
/-- What the first k rows, but one, are together at a place. -/
def colK (rows : List (List Nat)) (a : Nat) (but : Int) : Nat → Nat
  | 0 => 0
  | k + 1 => if (k : Int) = but then colK rows a but k else colK rows a but k ^^^ (rows.getD k []).getD a 0
def colX (rows : List (List Nat)) (a : Nat) (but : Int) : Nat := colK rows a but rows.length
def togL (rows : List (List Nat)) (m : Nat) : List Nat := (List.range m).map fun a => colX rows a (-1)
def zeroB (l : List Nat) : Bool := l.all fun x => decide (x = 0)
def mayN (n m : Int) : Bool := decide (1 ≤ n ∧ n ≤ 8 ∧ 1 ≤ m ∧ m ≤ 64)
def allB (rows : List (List Nat)) (m : Nat) : Bool := rows.all fun r => decide (r.length = m)
def sizedB (B : Bk) : Bool := mayN B.rows.length B.par.length && allB B.rows B.par.length
def fineB (B : Bk) : Bool := if B.lost = 0 then decide (B.par = togL B.rows B.par.length) else zeroB (B.rows.getD (B.lost - 1).toNat [])
def rightB (B : Bk) : Bool := sizedB B && (decide (0 ≤ B.lost ∧ B.lost ≤ B.rows.length) && fineB B)
def hasB (B : Bk) (k : Int) : Bool := rightB B && decide (0 ≤ k ∧ k < B.rows.length)
def hasW (B : Bk) (k a : Int) : Bool := hasB B k && decide (0 ≤ a ∧ a < B.par.length)
def wordB (B : Bk) (k a : Int) : Nat := (B.rows.getD k.toNat []).getD a.toNat 0
def readN (B : Bk) (k a : Int) : Nat := if hasW B k a then (if B.lost = k + 1 then 0 else wordB B k a) else 0
def readE (B : Bk) (k a : Int) : Int := if hasW B k a then (if B.lost = k + 1 then 8 else 0) else 1
def putB (B : Bk) (k a : Int) (v : Nat) : Bk := ⟨B.rows.set k.toNat ((B.rows.getD k.toNat []).set a.toNat v), B.par.set a.toNat (B.par.getD a.toNat 0 ^^^ (wordB B k a ^^^ v)), B.lost⟩
def writeB (B : Bk) (k a : Int) (v : Nat) : Bk := if hasW B k a then (if B.lost = 0 then putB B k a v else B) else B
def writeE (B : Bk) (k a : Int) : Int := if hasW B k a then (if B.lost = 0 then 0 else 8) else 1
def loseB (B : Bk) (k : Int) : Bk := if hasB B k then (if B.lost = 0 then ⟨B.rows.set k.toNat (List.replicate B.par.length 0), B.par, k + 1⟩ else B) else B
def loseE (B : Bk) (k : Int) : Int := if hasB B k then (if B.lost = 0 then 0 else 8) else 1
def backL (B : Bk) : List Nat := (List.range B.par.length).map fun a => B.par.getD a 0 ^^^ colX B.rows a (-1)
def rebuildB (B : Bk) : Bk := if rightB B then (if B.lost = 0 then B else ⟨B.rows.set (B.lost - 1).toNat (backL B), B.par, 0⟩) else B
def rebuildE (B : Bk) : Int := if rightB B then (if B.lost = 0 then 8 else 0) else 1
def newB (n m : Int) : Bk := if mayN n m then ⟨List.replicate n.toNat (List.replicate m.toNat 0), List.replicate m.toNat 0, 0⟩ else ⟨[], [], 0⟩
def newE (n m : Int) : Int := if mayN n m then 0 else 1

theorem xor_lt (a b : Nat) (ha : a < 4294967296) (hb : b < 4294967296) : a ^^^ b < 4294967296 := Nat.xor_lt_two_pow (n := 32) ha hb
theorem mem_getD {α : Type} (L : List α) (d : α) (k : Nat) (h : k < L.length) : L.getD k d ∈ L := by
  rw [List.getD_eq_getElem?_getD, List.getElem?_eq_getElem h]; exact List.getElem_mem h
theorem drop_getD {α : Type} (L : List α) (d : α) (k : Nat) (h : k < L.length) : L.drop k = L.getD k d :: L.drop (k + 1) := by
  rw [List.drop_eq_getElem_cons h, List.getD_eq_getElem?_getD, List.getElem?_eq_getElem h]; rfl
theorem take_getD {α : Type} (L : List α) (d : α) (k : Nat) (h : k < L.length) : L.take (k + 1) = L.take k ++ [L.getD k d] := by
  rw [List.take_succ_eq_append_getElem h, List.getD_eq_getElem?_getD, List.getElem?_eq_getElem h]; rfl
theorem getD_set {α : Type} (L : List α) (d v : α) (k j : Nat) (hk : k < L.length) : (L.set k v).getD j d = if j = k then v else L.getD j d := by
  simp only [List.getD_eq_getElem?_getD, List.getElem?_set]
  by_cases h : j = k
  · subst h; simp [hk]
  · rw [if_neg h, if_neg (fun e => h e.symm)]
theorem getD_append1 {α : Type} (L : List α) (d v : α) (j : Nat) : (L ++ [v]).getD j d = if j < L.length then L.getD j d else if j = L.length then v else d := by
  simp only [List.getD_eq_getElem?_getD]
  by_cases h : j < L.length
  · rw [if_pos h, List.getElem?_append_left h]
  · rw [if_neg h, List.getElem?_append_right (by omega)]
    by_cases h2 : j = L.length
    · rw [if_pos h2]; subst h2; simp
    · rw [if_neg h2, List.getElem?_eq_none (by simp; omega)]; rfl
theorem getD_map {α : Type} (m : Nat) (f : Nat → α) (d : α) (k : Nat) (h : k < m) : ((List.range m).map f).getD k d = f k := by simp [List.getD, h]
theorem ext_getD {l l' : List Nat} (h : l.length = l'.length) (h2 : ∀ k, k < l.length → l.getD k 0 = l'.getD k 0) : l = l' := by
  refine List.ext_getElem h fun k h3 h4 => ?_
  have := h2 k h3
  rwa [List.getD_eq_getElem?_getD, List.getD_eq_getElem?_getD, List.getElem?_eq_getElem h3, List.getElem?_eq_getElem h4] at this
theorem ext_rows {l l' : List (List Nat)} (h : l.length = l'.length) (h2 : ∀ k, k < l.length → l.getD k [] = l'.getD k []) : l = l' := by
  refine List.ext_getElem h fun k h3 h4 => ?_
  have := h2 k h3
  rwa [List.getD_eq_getElem?_getD, List.getD_eq_getElem?_getD, List.getElem?_eq_getElem h3, List.getElem?_eq_getElem h4] at this
theorem getD_rep {α : Type} (n : Nat) (v d : α) (k : Nat) (h : k < n) : (List.replicate n v).getD k d = v := by simp [List.getD, h]
theorem getD_rep0 (n k : Nat) : (List.replicate n 0).getD k 0 = 0 := by
  by_cases h : k < n
  · exact getD_rep n 0 0 k h
  · simp [List.getD, List.getElem?_replicate, h]

theorem colK_lt (rows : List (List Nat)) (a : Nat) (but : Int) (h : ∀ r ∈ rows, ∀ x ∈ r, x < 4294967296) (k : Nat) (hk : k ≤ rows.length) : colK rows a but k < 4294967296 := by
  induction k with
  | zero => show 0 < 4294967296; decide
  | succ k ih =>
    unfold colK
    split
    · exact ih (by omega)
    · refine xor_lt _ _ (ih (by omega)) ?_
      by_cases ha : a < (rows.getD k []).length
      · exact h _ (mem_getD rows [] k (by omega)) _ (mem_getD _ 0 a ha)
      · rw [List.getD_eq_getElem?_getD, List.getElem?_eq_none (by omega)]; decide
theorem colK_congr {rows rows' : List (List Nat)} {a : Nat} {but : Int} (k : Nat) (h : ∀ j, j < k → (j : Int) ≠ but → (rows.getD j []).getD a 0 = (rows'.getD j []).getD a 0) : colK rows a but k = colK rows' a but k := by
  induction k with
  | zero => rfl
  | succ k ih =>
    unfold colK
    by_cases e : (k : Int) = but
    · rw [if_pos e, if_pos e]; exact ih fun j hj => h j (by omega)
    · rw [if_neg e, if_neg e, ih fun j hj => h j (by omega), h k (by omega) e]
/-- One of the rows, and the others. -/
theorem colK_but (rows : List (List Nat)) (a b : Nat) (k : Nat) : colK rows a (-1) k = if b < k then colK rows a (b : Int) k ^^^ (rows.getD b []).getD a 0 else colK rows a (b : Int) k := by
  induction k with
  | zero => rfl
  | succ k ih =>
    have e1 : colK rows a (-1) (k + 1) = colK rows a (-1) k ^^^ (rows.getD k []).getD a 0 := by
      show (if (k : Int) = -1 then _ else _) = _
      rw [if_neg (by omega)]
    rw [e1, ih]
    by_cases hb : b = k
    · subst hb
      have e2 : colK rows a (b : Int) (b + 1) = colK rows a (b : Int) b := by
        show (if (b : Int) = b then _ else _) = _
        rw [if_pos rfl]
      rw [if_neg (Nat.lt_irrefl b), if_pos (by omega), e2]
    · have e2 : colK rows a (b : Int) (k + 1) = colK rows a (b : Int) k ^^^ (rows.getD k []).getD a 0 := by
        show (if (k : Int) = b then _ else _) = _
        rw [if_neg (by omega)]
      rw [e2]
      by_cases hlt : b < k
      · rw [if_pos hlt, if_pos (by omega), Nat.xor_assoc, Nat.xor_comm ((rows.getD b []).getD a 0), ← Nat.xor_assoc]
      · rw [if_neg hlt, if_neg (by omega)]
theorem colX_but (rows : List (List Nat)) (a b : Nat) (h : b < rows.length) : colX rows a (-1) = colX rows a (b : Int) ^^^ (rows.getD b []).getD a 0 := by
  unfold colX; rw [colK_but rows a b, if_pos h]
/-- What is together, where one row becomes another one. -/
theorem colX_set (rows : List (List Nat)) (a b : Nat) (r : List Nat) (h : b < rows.length) : colX (rows.set b r) a (-1) = colX rows a (-1) ^^^ ((rows.getD b []).getD a 0 ^^^ r.getD a 0) := by
  have e : colX (rows.set b r) a (b : Int) = colX rows a (b : Int) := by
    unfold colX
    rw [List.length_set]
    refine colK_congr _ fun j hj hne => ?_
    rw [getD_set _ _ _ _ _ h, if_neg (by omega)]
  rw [colX_but _ a b (by rw [List.length_set]; exact h), colX_but rows a b h, e, getD_set _ _ _ _ _ h, if_pos rfl, Nat.xor_assoc, ← Nat.xor_assoc ((rows.getD b []).getD a 0), Nat.xor_self, Nat.zero_xor]
theorem togL_len (rows : List (List Nat)) (m : Nat) : (togL rows m).length = m := by unfold togL; simp
theorem togL_at (rows : List (List Nat)) (m a : Nat) (h : a < m) : (togL rows m).getD a 0 = colX rows a (-1) := by unfold togL; exact getD_map m _ 0 a h
theorem togL_lt (rows : List (List Nat)) (m : Nat) (h : ∀ r ∈ rows, ∀ x ∈ r, x < 4294967296) : ∀ x ∈ togL rows m, x < 4294967296 := by
  intro x hx
  obtain ⟨a, _, rfl⟩ := List.mem_map.1 hx
  exact colK_lt rows a _ h _ (Nat.le_refl _)

theorem may_inv {n m : Int} (h : mayN n m = true) : 1 ≤ n ∧ n ≤ 8 ∧ 1 ≤ m ∧ m ≤ 64 := by unfold mayN at h; simpa using h
theorem zero_inv {l : List Nat} (h : zeroB l = true) (k : Nat) : l.getD k 0 = 0 := by
  by_cases hk : k < l.length
  · unfold zeroB at h; rw [List.all_eq_true] at h; simpa using h _ (mem_getD l 0 k hk)
  · rw [List.getD_eq_getElem?_getD, List.getElem?_eq_none (by omega)]; rfl
theorem zero_of {l : List Nat} (h : ∀ k, k < l.length → l.getD k 0 = 0) : zeroB l = true := by
  unfold zeroB; rw [List.all_eq_true]
  intro x hx
  obtain ⟨k, hk, rfl⟩ := List.getElem_of_mem hx
  have := h k hk
  rw [List.getD_eq_getElem?_getD, List.getElem?_eq_getElem hk] at this
  simpa using this
theorem all_inv {rows : List (List Nat)} {m : Nat} (h : allB rows m = true) : ∀ r ∈ rows, r.length = m := by
  unfold allB at h; rw [List.all_eq_true] at h
  intro r hr; simpa using h r hr
theorem all_at {rows : List (List Nat)} {m : Nat} (h : allB rows m = true) (k : Nat) (hk : k < rows.length) : (rows.getD k []).length = m := all_inv h _ (mem_getD rows [] k hk)
theorem all_of {rows : List (List Nat)} {m : Nat} (h : ∀ k, k < rows.length → (rows.getD k []).length = m) : allB rows m = true := by
  unfold allB; rw [List.all_eq_true]
  intro r hr
  obtain ⟨k, hk, rfl⟩ := List.getElem_of_mem hr
  have := h k hk
  rw [List.getD_eq_getElem?_getD, List.getElem?_eq_getElem hk] at this
  simpa using this
theorem right_inv {B : Bk} (h : rightB B = true) : 1 ≤ B.rows.length ∧ B.rows.length ≤ 8 ∧ 1 ≤ B.par.length ∧ B.par.length ≤ 64 ∧ allB B.rows B.par.length = true ∧ 0 ≤ B.lost ∧ B.lost ≤ B.rows.length ∧ fineB B = true := by
  unfold rightB sizedB at h
  simp only [Bool.and_eq_true, decide_eq_true_eq] at h
  obtain ⟨⟨h1, h2⟩, h3, h4⟩ := h
  have := may_inv h1
  exact ⟨by omega, by omega, by omega, by omega, h2, h3.1, h3.2, h4⟩
theorem right_of {B : Bk} (h1 : 1 ≤ B.rows.length) (h2 : B.rows.length ≤ 8) (h3 : 1 ≤ B.par.length) (h4 : B.par.length ≤ 64) (h5 : allB B.rows B.par.length = true) (h6 : 0 ≤ B.lost) (h7 : B.lost ≤ B.rows.length) (h8 : fineB B = true) : rightB B = true := by
  unfold rightB sizedB mayN
  simp only [Bool.and_eq_true, decide_eq_true_eq]
  exact ⟨⟨by omega, h5⟩, ⟨h6, h7⟩, h8⟩
theorem hasB_inv {B : Bk} {k : Int} (h : hasB B k = true) : rightB B = true ∧ 0 ≤ k ∧ k < B.rows.length := by
  unfold hasB at h; simpa using h
theorem hasW_inv {B : Bk} {k a : Int} (h : hasW B k a = true) : rightB B = true ∧ 0 ≤ k ∧ k < B.rows.length ∧ 0 ≤ a ∧ a < B.par.length := by
  unfold hasW at h
  rw [Bool.and_eq_true, decide_eq_true_eq] at h
  have := hasB_inv h.1
  exact ⟨this.1, this.2.1, this.2.2, h.2.1, h.2.2⟩
theorem hasW_of {B : Bk} {k a : Int} (h : rightB B = true) (h1 : 0 ≤ k) (h2 : k < B.rows.length) (h3 : 0 ≤ a) (h4 : a < B.par.length) : hasW B k a = true := by
  unfold hasW hasB
  simp only [Bool.and_eq_true, decide_eq_true_eq]
  exact ⟨⟨h, h1, h2⟩, h3, h4⟩
theorem fine_par {B : Bk} (h : rightB B = true) (h0 : B.lost = 0) (a : Nat) (ha : a < B.par.length) : B.par.getD a 0 = colX B.rows a (-1) := by
  have := (right_inv h).2.2.2.2.2.2.2
  unfold fineB at this
  rw [if_pos h0, decide_eq_true_eq] at this
  conv => lhs; rw [this]
  exact togL_at _ _ _ ha
theorem fine_zero {B : Bk} (h : rightB B = true) (h0 : B.lost ≠ 0) (a : Nat) : (B.rows.getD (B.lost - 1).toNat []).getD a 0 = 0 := by
  have := (right_inv h).2.2.2.2.2.2.2
  unfold fineB at this
  rw [if_neg h0] at this
  exact zero_inv this a

/-- The place of the first word that isn't 0. -/
def idxZ : List Nat → Nat → Int
  | [], _ => -1
  | x :: r, k => if x = 0 then idxZ r (k + 1) else (k : Int)
theorem idxZ_any (l : List Nat) (k : Nat) : decide (0 ≤ idxZ l k) = !zeroB l := by
  induction l generalizing k with
  | nil => rfl
  | cons x r ih =>
    unfold idxZ
    show _ = !(decide (x = 0) && zeroB r)
    by_cases h : x = 0
    · rw [if_pos h, decide_eq_true h, Bool.true_and]; exact ih (k + 1)
    · rw [if_neg h, decide_eq_false h, Bool.false_and]; simp
/-- The place of the first row that isn't of m words. -/
def idxR (m : Nat) : List (List Nat) → Nat → Int
  | [], _ => -1
  | x :: r, k => if x.length = m then idxR m r (k + 1) else (k : Int)
theorem idxR_any (m : Nat) (L : List (List Nat)) (k : Nat) : decide (0 ≤ idxR m L k) = !allB L m := by
  induction L generalizing k with
  | nil => rfl
  | cons x r ih =>
    unfold idxR
    show _ = !(decide (x.length = m) && allB r m)
    by_cases h : x.length = m
    · rw [if_pos h, decide_eq_true h, Bool.true_and]; exact ih (k + 1)
    · rw [if_neg h, decide_eq_false h, Bool.false_and]; simp
end Go.Proofs.Ytkeemmedbbammaa
