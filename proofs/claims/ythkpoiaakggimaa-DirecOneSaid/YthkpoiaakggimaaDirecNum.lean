/- What may be known of a line, and what is known behind what is asked: plain values; no condition. -/
import Derived.Test.YthkpoiaakggimaaGen
namespace Go.Proofs.Ythkpoiaakggimaa
set_option linter.unusedVariables false

/-- What is known of a line. -/
structure En where
  owner : Int
  share : List Bool
def mayN (n : Int) : Bool := decide (1 ≤ n) && decide (n ≤ 4)
def ownB (E : En) : Bool := decide (E.owner = 0) || !(E.share.getD (E.owner - 1).toNat false)
def mayE (E : En) (n : Int) : Bool := mayN n && (decide ((E.share.length : Int) = n) && (decide (0 ≤ E.owner) && (decide (E.owner ≤ n) && ownB E)))
def hasE (E : En) (k : Int) : Bool := mayE E (E.share.length : Int) && (decide (0 ≤ k) && decide (k < (E.share.length : Int)))
def othB (l : List Bool) (k : Int) (i : Nat) : Bool := l.getD i false && decide ((i : Int) ≠ k)
def oth (l : List Bool) (k : Int) (n : Nat) : List Nat := (List.range n).filter (othB l k)
def othE (E : En) (k : Int) : List Nat := oth E.share k E.share.length
def loneE (E : En) (k : Int) : Bool := decide (E.owner = 0) && decide ((othE E k).length = 0)
def readC (E : En) (k : Int) : En := if hasE E k then (if loneE E k then ⟨k + 1, List.replicate E.share.length false⟩ else if E.owner = k + 1 then E else ⟨E.owner, E.share.set k.toNat true⟩) else E
def readF (E : En) (k : Int) : Int := if hasE E k then E.owner else 0
def askX (E : En) (k : Int) : Int := if hasE E k then 0 else 1
def writeC (E : En) (k : Int) : En := if hasE E k then ⟨k + 1, List.replicate E.share.length false⟩ else E
def writeT (E : En) (k : Int) : List Nat := if hasE E k then othE E k else []
def backC (E : En) (k : Int) : En := if hasE E k then (if E.owner = k + 1 then ⟨0, E.share⟩ else E) else E
def backX (E : En) (k : Int) : Int := if hasE E k then (if E.owner = k + 1 then 0 else 7) else 1
def newC (n : Int) : En := if mayN n then ⟨0, List.replicate n.toNat false⟩ else ⟨0, []⟩
def newX (n : Int) : Int := if mayN n then 0 else 1
def aloneE (E : En) : Bool := mayE E (E.share.length : Int) && (decide (0 < E.owner) && !(E.share.contains true))

theorem mayN_iff {n : Int} : mayN n = true ↔ 1 ≤ n ∧ n ≤ 4 := by
  unfold mayN
  rw [Bool.and_eq_true, decide_eq_true_iff, decide_eq_true_iff]
theorem ownB_iff {E : En} : ownB E = true ↔ (E.owner = 0 ∨ E.share.getD (E.owner - 1).toNat false = false) := by
  unfold ownB
  rw [Bool.or_eq_true, decide_eq_true_iff, Bool.not_eq_true']
theorem mayE_iff {E : En} {n : Int} : mayE E n = true ↔ (1 ≤ n ∧ n ≤ 4) ∧ (E.share.length : Int) = n ∧ 0 ≤ E.owner ∧ E.owner ≤ n ∧ ownB E = true := by
  unfold mayE
  rw [Bool.and_eq_true, Bool.and_eq_true, Bool.and_eq_true, Bool.and_eq_true, mayN_iff, decide_eq_true_iff, decide_eq_true_iff, decide_eq_true_iff]
theorem hasE_iff {E : En} {k : Int} : hasE E k = true ↔ mayE E (E.share.length : Int) = true ∧ 0 ≤ k ∧ k < (E.share.length : Int) := by
  unfold hasE
  rw [Bool.and_eq_true, Bool.and_eq_true, decide_eq_true_iff, decide_eq_true_iff]
theorem loneE_iff {E : En} {k : Int} : loneE E k = true ↔ E.owner = 0 ∧ (othE E k).length = 0 := by
  unfold loneE
  rw [Bool.and_eq_true, decide_eq_true_iff, decide_eq_true_iff]
theorem no_of {b : Bool} (h : ¬ b = true) : b = false := by cases b <;> simp_all
theorem getD_rep (n k : Nat) : (List.replicate n false).getD k false = false := by
  rw [List.getD_eq_getElem?_getD, List.getElem?_replicate]
  split <;> rfl
theorem getD_set (l : List Bool) (v : Bool) (k j : Nat) (hk : k < l.length) : (l.set k v).getD j false = if j = k then v else l.getD j false := by
  rw [List.getD_eq_getElem?_getD, List.getD_eq_getElem?_getD, List.getElem?_set]
  by_cases e : j = k
  · subst e; simp [hk]
  · rw [if_neg e, if_neg (fun h => e h.symm)]
theorem bool_ext {l m : List Bool} (h : l.length = m.length) (hk : ∀ k, k < l.length → l.getD k false = m.getD k false) : l = m := by
  refine List.ext_getElem h (fun k h1 h2 => ?_)
  have := hk k h1
  rw [List.getD_eq_getElem?_getD, List.getD_eq_getElem?_getD, List.getElem?_eq_getElem h1, List.getElem?_eq_getElem h2] at this
  exact this
theorem oth_mem {l : List Bool} {k : Int} {n i : Nat} : i ∈ oth l k n ↔ i < n ∧ l.getD i false = true ∧ (i : Int) ≠ k := by
  unfold oth othB
  rw [List.mem_filter, List.mem_range, Bool.and_eq_true, decide_eq_true_iff]
theorem oth_zero (l : List Bool) (k : Int) : oth l k 0 = [] := rfl
theorem oth_succ (l : List Bool) (k : Int) (n : Nat) : oth l k (n + 1) = oth l k n ++ (if othB l k n then [n] else []) := by
  unfold oth
  rw [List.range_succ, List.filter_append]
  congr 1
  cases h : othB l k n <;> simp [h]
theorem oth_le (l : List Bool) (k : Int) (n : Nat) : (oth l k n).length ≤ n := by
  have := List.length_filter_le (othB l k) (List.range n)
  rw [List.length_range] at this
  exact this
theorem oth_none {l : List Bool} {k : Int} (h : (oth l k l.length).length = 0) : ∀ i, i < l.length → (i : Int) ≠ k → l.getD i false = false := fun i hi hk => by
  cases hg : l.getD i false with
  | false => rfl
  | true =>
    have := oth_mem.2 ⟨hi, hg, hk⟩
    rw [List.length_eq_zero_iff.1 h] at this
    cases this
theorem lone_set {l : List Bool} {k : Nat} (hk : k < l.length) (h : (oth l (k : Int) l.length).length = 0) : l.set k false = List.replicate l.length false := by
  refine bool_ext (by simp) (fun j hj => ?_)
  rw [List.length_set] at hj
  rw [getD_set l false k j hk, getD_rep]
  by_cases e : j = k
  · rw [if_pos e]
  · rw [if_neg e]
    exact oth_none h j hj (fun h => e (by omega))
theorem contains_oth (l : List Bool) : l.contains true = !decide ((oth l (-1) l.length).length = 0) := by
  cases hc : l.contains true with
  | false =>
    symm
    rw [Bool.not_eq_false', decide_eq_true_iff]
    rcases Nat.eq_zero_or_pos (oth l (-1) l.length).length with h | h
    · exact h
    · exfalso
      have hm := List.getElem_mem h
      obtain ⟨h1, h2, _⟩ := oth_mem.1 hm
      rw [List.getD_eq_getElem?_getD, List.getElem?_eq_getElem h1] at h2
      have : true ∈ l := by
        have h3 := List.getElem_mem h1
        rw [show l[(oth l (-1) l.length)[0]] = true from h2] at h3
        exact h3
      rw [← List.contains_iff_mem] at this
      rw [this] at hc
      cases hc
  | true =>
    symm
    rw [Bool.not_eq_true', decide_eq_false_iff_not]
    intro h
    obtain ⟨i, hi, hg⟩ := List.mem_iff_getElem.1 (List.contains_iff_mem.1 hc)
    have := oth_none h i hi (by omega)
    rw [List.getD_eq_getElem?_getD, List.getElem?_eq_getElem hi] at this
    rw [show l[i] = false from this] at hg
    cases hg
theorem contains_rep (n : Nat) : (List.replicate n false).contains true = false := by
  cases h : (List.replicate n false).contains true with
  | false => rfl
  | true =>
    have := List.eq_of_mem_replicate (List.contains_iff_mem.1 h)
    cases this
theorem has_no {E : En} {k : Int} (h : ¬ hasE E k = true) : readC E k = E ∧ readF E k = 0 ∧ askX E k = 1 ∧ writeC E k = E ∧ writeT E k = [] ∧ backC E k = E ∧ backX E k = 1 := by
  have h := no_of h
  unfold readC readF askX writeC writeT backC backX
  rw [h]
  exact ⟨rfl, rfl, rfl, rfl, rfl, rfl, rfl⟩
theorem has_yes {E : En} {k : Int} (h : hasE E k = true) : readF E k = E.owner ∧ askX E k = 0 ∧ writeC E k = ⟨k + 1, List.replicate E.share.length false⟩ ∧ writeT E k = othE E k := by
  unfold readF askX writeC writeT
  rw [h]
  exact ⟨rfl, rfl, rfl, rfl⟩
end Go.Proofs.Ythkpoiaakggimaa
