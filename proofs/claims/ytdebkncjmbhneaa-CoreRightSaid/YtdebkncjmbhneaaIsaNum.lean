/- Instructions as five numbers, and when one, a program, and a list of programs may be: plain definitions and facts on them, no program in sight. -/
import Derived.Lib.Hide
namespace Go.Proofs.Ytdebkncjmbhneaa

structure I5 where
  op : Int
  a : Int
  b : Int
  c : Int
  k : Int

def usum (op : Int) : Int :=
  if op = 1 ∨ op = 14 then 9 else if 2 ≤ op ∧ op ≤ 8 ∨ op = 11 then 7 else if op = 9 ∨ op = 10 then 3 else if op = 13 then 8 else if op = 15 then 1 else 0
def isOp (op : Int) : Bool := decide (1 ≤ op ∧ op ≤ 16)
def useA (op : Int) : Bool := decide (1 ≤ op ∧ op ≤ 16 ∧ op ≠ 12 ∧ op ≠ 13 ∧ op ≠ 16)
def useB (op : Int) : Bool := decide (2 ≤ op ∧ op ≤ 11)
def useC (op : Int) : Bool := decide (2 ≤ op ∧ op ≤ 8 ∨ op = 11)
def useK (op : Int) : Bool := decide (op = 1 ∨ op = 13 ∨ op = 14)
def regB (r : Int) (u : Bool) : Bool := if u then decide (0 ≤ r ∧ r < 8) else decide (r = 0)
def conB (op k : Int) (u : Bool) (n : Int) : Bool := if u then decide (op = 1 ∨ k < n) else decide (k = 0)
def mayB (x : I5) (n : Int) : Bool :=
  isOp x.op && (regB x.a (useA x.op) && (regB x.b (useB x.op) && (regB x.c (useC x.op) && conB x.op x.k (useK x.op) n)))
def endB (x : I5) : Bool := decide (x.op = 16 ∨ x.op = 13)
def zero5 : I5 := ⟨0, 0, 0, 0, 0⟩
/-- The instruction at place i. -/
def at5 (l : List I5) (i : Nat) : I5 := l.getD i zero5
def rightB (l : List I5) : Bool := decide (1 ≤ l.length) && (decide (l.length ≤ 64) && (endB (at5 l (l.length - 1)) && l.all fun x => mayB x l.length))
def allB (l : List (List I5)) : Bool := decide (1 ≤ l.length) && (decide (l.length ≤ 4) && l.all rightB)
def shortB (l : List (List I5)) : Bool := decide (l.length ≤ 6) && l.all fun p => decide (p.length ≤ 80)

theorem op_cases (op : Int) : op = 1 ∨ op = 2 ∨ op = 3 ∨ op = 4 ∨ op = 5 ∨ op = 6 ∨ op = 7 ∨ op = 8 ∨ op = 9 ∨ op = 10 ∨ op = 11 ∨ op = 12 ∨ op = 13 ∨ op = 14 ∨ op = 15 ∨ op = 16 ∨ (op < 1 ∨ 16 < op) := by omega
theorem isOp_out {op : Int} (h : op < 1 ∨ 16 < op) : isOp op = false := by unfold isOp; exact decide_eq_false (by omega)
theorem usum_out {op : Int} (h : op < 1 ∨ 16 < op) : usum op = 0 := by
  unfold usum
  rw [if_neg (by omega), if_neg (by omega), if_neg (by omega), if_neg (by omega), if_neg (by omega)]

theorem all_at5 (l : List I5) (f : I5 → Bool) (h : ∀ i, i < l.length → f (at5 l i) = true) : l.all f = true := by
  rw [List.all_eq_true]
  intro x hx
  obtain ⟨i, hi, rfl⟩ := List.getElem_of_mem hx
  have h' := h i hi
  have e : at5 l i = l[i] := by unfold at5; simp [List.getD, hi]
  rwa [e] at h'
theorem at5_all (l : List I5) (f : I5 → Bool) (h : l.all f = true) (i : Nat) (hi : i < l.length) : f (at5 l i) = true := by
  have e : at5 l i = l[i] := by unfold at5; simp [List.getD, hi]
  rw [e]
  exact List.all_eq_true.1 h _ (List.getElem_mem hi)
theorem right_few {l : List I5} (h : l.length < 1 ∨ 64 < l.length) : rightB l = false := by
  unfold rightB
  rcases h with h | h
  · rw [decide_eq_false (by omega)]; rfl
  · rw [decide_eq_false (p := l.length ≤ 64) (by omega)]; simp
theorem right_end {l : List I5} (h : endB (at5 l (l.length - 1)) = false) : rightB l = false := by unfold rightB; rw [h]; simp
theorem right_not {l : List I5} {i : Nat} (hi : i < l.length) (h : mayB (at5 l i) l.length = false) : rightB l = false := by
  have e : (l.all fun x => mayB x l.length) = false := by
    cases h' : (l.all fun x => mayB x l.length) with
    | false => rfl
    | true => have := at5_all l _ h' i hi; rw [h] at this; cases this
  unfold rightB; rw [e]; simp
theorem right_yes {l : List I5} (h1 : 1 ≤ l.length) (h2 : l.length ≤ 64) (h3 : endB (at5 l (l.length - 1)) = true) (h : ∀ i, i < l.length → mayB (at5 l i) l.length = true) : rightB l = true := by
  unfold rightB; rw [all_at5 l _ h, h3, decide_eq_true h1, decide_eq_true h2]; rfl
theorem right_has {l : List I5} (h : rightB l = true) : 1 ≤ l.length ∧ l.length ≤ 64 ∧ endB (at5 l (l.length - 1)) = true ∧ ∀ i, i < l.length → mayB (at5 l i) l.length = true := by
  unfold rightB at h
  simp only [Bool.and_eq_true, decide_eq_true_eq] at h
  exact ⟨h.1, h.2.1, h.2.2.1, at5_all l _ h.2.2.2⟩

/-- The program at place i. -/
def atP (l : List (List I5)) (i : Nat) : List I5 := l.getD i []
theorem all_atP (l : List (List I5)) (f : List I5 → Bool) (h : ∀ i, i < l.length → f (atP l i) = true) : l.all f = true := by
  rw [List.all_eq_true]
  intro x hx
  obtain ⟨i, hi, rfl⟩ := List.getElem_of_mem hx
  have h' := h i hi
  have e : atP l i = l[i] := by unfold atP; simp [List.getD, hi]
  rwa [e] at h'
theorem atP_all (l : List (List I5)) (f : List I5 → Bool) (h : l.all f = true) (i : Nat) (hi : i < l.length) : f (atP l i) = true := by
  have e : atP l i = l[i] := by unfold atP; simp [List.getD, hi]
  rw [e]
  exact List.all_eq_true.1 h _ (List.getElem_mem hi)
theorem atP_not (l : List (List I5)) (f : List I5 → Bool) (i : Nat) (hi : i < l.length) (h : f (atP l i) = false) : l.all f = false := by
  cases h' : l.all f with
  | false => rfl
  | true => have := atP_all l f h' i hi; rw [h] at this; cases this
theorem all_few {l : List (List I5)} (h : l.length < 1 ∨ 4 < l.length) : allB l = false := by
  unfold allB
  rcases h with h | h
  · rw [decide_eq_false (by omega)]; rfl
  · rw [decide_eq_false (p := l.length ≤ 4) (by omega)]; simp
theorem all_not {l : List (List I5)} {i : Nat} (hi : i < l.length) (h : rightB (atP l i) = false) : allB l = false := by
  unfold allB; rw [atP_not l rightB i hi h]; simp
theorem all_yes {l : List (List I5)} (h1 : 1 ≤ l.length) (h2 : l.length ≤ 4) (h : ∀ i, i < l.length → rightB (atP l i) = true) : allB l = true := by
  unfold allB; rw [all_atP l _ h, decide_eq_true h1, decide_eq_true h2]; rfl
theorem short_many {l : List (List I5)} (h : 6 < l.length) : shortB l = false := by
  unfold shortB; rw [decide_eq_false (p := l.length ≤ 6) (by omega)]; rfl
theorem short_not {l : List (List I5)} {i : Nat} (hi : i < l.length) (h : 80 < (atP l i).length) : shortB l = false := by
  unfold shortB; rw [atP_not l _ i hi (decide_eq_false (by omega))]; simp
theorem short_yes {l : List (List I5)} (h1 : l.length ≤ 6) (h : ∀ i, i < l.length → (atP l i).length ≤ 80) : shortB l = true := by
  unfold shortB; rw [all_atP l _ (fun i hi => decide_eq_true (h i hi)), decide_eq_true h1]; rfl
theorem short_has {l : List (List I5)} (h : shortB l = true) : l.length ≤ 6 ∧ ∀ i, i < l.length → (atP l i).length ≤ 80 := by
  unfold shortB at h
  simp only [Bool.and_eq_true, decide_eq_true_eq] at h
  exact ⟨h.1, fun i hi => of_decide_eq_true (atP_all l _ h.2 i hi)⟩
end Go.Proofs.Ytdebkncjmbhneaa
