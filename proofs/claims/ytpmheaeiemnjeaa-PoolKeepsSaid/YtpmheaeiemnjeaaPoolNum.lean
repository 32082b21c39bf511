/- Plain numbers for layer 6: what a pool of frames is, and becomes; no program is run here; no condition. -/
import Derived.Test.YtpmheaeiemnjeaaFrameR
import Derived.Test.YtpmheaeiemnjeaaFrameT
namespace Go.Proofs.Ytpmheaeiemnjeaa
set_option linter.unusedVariables false
open Go.ChangeShapes Go.WideShapes Go.ChangeAt Go.RowKit

def rightP (L : List (List Nat)) : Bool := decide (L.length ≤ 64) && L.all (fun l => decide (l.length = 19))
def roomP (L : List (List Nat)) : Int := if rightP L then 64 - (L.length : Int) else 0
def checkP (L : List (List Nat)) (n : Int) : Int := if rightP L then (if n < 0 ∨ (L.length : Int) ≤ n then 7 else 0) else 1
def addP (L : List (List Nat)) (l : List Nat) : List (List Nat) := if 64 ≤ L.length then L else L ++ [l]
def addE (L : List (List Nat)) : Int := if 64 ≤ L.length then 6 else 0
def sendP (L : List (List Nat)) (m : Msg) : List (List Nat) := if rightP L && mayM m then addP L (outL m) else L
def sendE (L : List (List Nat)) (m : Msg) : Int := if rightP L && mayM m then addE L else 1
def atP (L : List (List Nat)) (n : Int) : List Nat := L.getD n.toNat []
def dropP (L : List (List Nat)) (n : Int) : List (List Nat) := if checkP L n = 0 then L.eraseIdx n.toNat else L
def takeM (L : List (List Nat)) (n : Int) : Msg := if checkP L n = 0 then readM (atP L n) else zeroM
def takeE (L : List (List Nat)) (n : Int) : Int := if checkP L n = 0 then readE (atP L n) else checkP L n
def twiceP (L : List (List Nat)) (n : Int) : List (List Nat) := if checkP L n = 0 then addP L (atP L n) else L
def twiceE (L : List (List Nat)) (n : Int) : Int := if checkP L n = 0 then addE L else checkP L n
def bitB (b : Int) : Bool := decide (b < 0 ∨ 152 ≤ b)
def spoilP (L : List (List Nat)) (n b : Int) : List (List Nat) := if checkP L n = 0 then (if bitB b then L else L.set n.toNat (turnL (atP L n) b.toNat)) else L
def spoilE (L : List (List Nat)) (n b : Int) : Int := if checkP L n = 0 then (if bitB b then 1 else 0) else checkP L n

theorem check_bad {L : List (List Nat)} {n : Int} (h : rightP L = false) : checkP L n = 1 := by unfold checkP; rw [h]; rfl
theorem check_none {L : List (List Nat)} {n : Int} (h : rightP L = true) (h2 : n < 0 ∨ (L.length : Int) ≤ n) : checkP L n = 7 := by unfold checkP; rw [h, if_pos rfl, if_pos h2]
theorem check_ok {L : List (List Nat)} {n : Int} (h : rightP L = true) (h2 : 0 ≤ n) (h3 : n < (L.length : Int)) : checkP L n = 0 := by unfold checkP; rw [h, if_pos rfl, if_neg (by omega)]
theorem check_inv {L : List (List Nat)} {n : Int} (h : checkP L n = 0) : rightP L = true ∧ 0 ≤ n ∧ n < (L.length : Int) := by
  unfold checkP at h
  cases hr : rightP L with
  | false => rw [hr] at h; cases h
  | true =>
    rw [hr, if_pos rfl] at h
    refine ⟨rfl, ?_⟩
    by_cases h2 : n < 0 ∨ (L.length : Int) ≤ n
    · rw [if_pos h2] at h; cases h
    · omega
theorem right_inv {L : List (List Nat)} (h : rightP L = true) : L.length ≤ 64 ∧ ∀ l ∈ L, l.length = 19 := by
  unfold rightP at h
  rw [Bool.and_eq_true, decide_eq_true_eq, List.all_eq_true] at h
  exact ⟨h.1, fun l hl => by simpa using h.2 l hl⟩
theorem right_of {L : List (List Nat)} (h : L.length ≤ 64) (h2 : ∀ l ∈ L, l.length = 19) : rightP L = true := by
  unfold rightP
  rw [Bool.and_eq_true, decide_eq_true_eq, List.all_eq_true]
  exact ⟨h, fun l hl => by simpa using h2 l hl⟩
theorem mem_getD {α : Type} (L : List α) (d : α) (k : Nat) (h : k < L.length) : L.getD k d ∈ L := by
  rw [List.getD_eq_getElem?_getD, List.getElem?_eq_getElem h]; exact List.getElem_mem h
theorem outL_len {m : Msg} (h : mayM m = true) : (outL m).length = 19 := by unfold outL; rw [if_pos h]; rfl

/-- The place of the first that isn't of 19 bytes. -/
def idxP : List (List Nat) → Nat → Int
  | [], _ => -1
  | x :: r, k => if x.length = 19 then idxP r (k + 1) else (k : Int)
theorem idxP_any (L : List (List Nat)) (k : Nat) : decide (0 ≤ idxP L k) = !(L.all fun l => decide (l.length = 19)) := by
  induction L generalizing k with
  | nil => rfl
  | cons x r ih =>
    unfold idxP
    rw [List.all_cons]
    by_cases h : x.length = 19
    · rw [if_pos h, decide_eq_true h, Bool.true_and]; exact ih (k + 1)
    · rw [if_neg h, decide_eq_false h, Bool.false_and]; simp
theorem drop_getD {α : Type} (L : List α) (d : α) (k : Nat) (h : k < L.length) : L.drop k = L.getD k d :: L.drop (k + 1) := by
  rw [List.drop_eq_getElem_cons h, List.getD_eq_getElem?_getD, List.getElem?_eq_getElem h]; rfl
theorem getD_set {α : Type} (L : List α) (d v : α) (k j : Nat) (hk : k < L.length) : (L.set k v).getD j d = if j = k then v else L.getD j d := by
  simp only [List.getD_eq_getElem?_getD, List.getElem?_set]
  by_cases h : j = k
  · subst h; simp [hk]
  · rw [if_neg h, if_neg (fun e => h e.symm)]
theorem getD_append1 {α : Type} (L : List α) (d v : α) (j : Nat) : (L ++ [v]).getD j d = if j < L.length then L.getD j d else if j = L.length then v else d := by
  simp only [List.getD_eq_getElem?_getD]
  by_cases h : j < L.length
  · rw [if_pos h, List.getElem?_append_left h]
  · rw [if_neg h, List.getElem?_append_right (by omega)]
    by_cases h2 : j = L.length
    · rw [if_pos h2]; subst h2; simp
    · rw [if_neg h2, List.getElem?_eq_none (by simp; omega)]; rfl
theorem getD_erase {α : Type} (L : List α) (d : α) (i j : Nat) : (L.eraseIdx i).getD j d = if j < i then L.getD j d else L.getD (j + 1) d := by
  simp only [List.getD_eq_getElem?_getD, List.getElem?_eraseIdx]
  split <;> rfl
end Go.Proofs.Ytpmheaeiemnjeaa
