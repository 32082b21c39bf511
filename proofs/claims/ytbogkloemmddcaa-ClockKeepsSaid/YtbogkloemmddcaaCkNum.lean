/- Clocks in plain numbers: when one is right, which of its marks is sure, and what it becomes; no program in sight; no condition. -/
import Derived.Test.YtbogkloemmddcaaGen
namespace Go.Proofs.Ytbogkloemmddcaa
set_option linter.unusedVariables false
open Go.RowKit

theorem mem_getD {α : Type} (l : List α) (d : α) (k : Nat) (hk : k < l.length) : l.getD k d ∈ l := by
  rw [List.getD_eq_getElem?_getD, List.getElem?_eq_getElem hk]; exact List.getElem_mem hk
theorem get_getD {α : Type} (l : List α) (d : α) (j : Nat) (h : j < l.length) : l[j] = l.getD j d := by rw [List.getD_eq_getElem?_getD, List.getElem?_eq_getElem h]; rfl
theorem take_getD {α : Type} (l : List α) (d : α) (k : Nat) (hk : k < l.length) : l.take (k + 1) = l.take k ++ [l.getD k d] := by
  rw [List.take_succ_eq_append_getElem hk, get_getD l d k hk]
theorem drop_getD {α : Type} (l : List α) (d : α) (k : Nat) (hk : k < l.length) : l.drop k = l.getD k d :: l.drop (k + 1) := by
  rw [List.drop_eq_getElem_cons hk, get_getD l d k hk]
theorem getD_map {α β : Type} (f : α → β) (l : List α) (d : α) (k : Nat) : (l.map f).getD k (f d) = f (l.getD k d) := by
  rw [List.getD_eq_getElem?_getD, List.getD_eq_getElem?_getD, List.getElem?_map]
  cases l[k]? <;> rfl
theorem getD_drop {α : Type} (l : List α) (d : α) (s k : Nat) : (l.drop s).getD k d = l.getD (s + k) d := by
  rw [List.getD_eq_getElem?_getD, List.getD_eq_getElem?_getD, List.getElem?_drop]
theorem getD_take {α : Type} (l : List α) (d : α) (s k : Nat) (h : k < s) : (l.take s).getD k d = l.getD k d := by
  rw [List.getD_eq_getElem?_getD, List.getD_eq_getElem?_getD, List.getElem?_take_of_lt h]

structure Cor where
  r : Nat → Int
  pc : Int
  h : Bool
def zcor : Cor := ⟨fun _ => 0, 0, false⟩
structure Mk where
  span : Int
  when : Int
  cs : List Cor
structure Ck where
  marks : List Mk
  wait : Int
def zM : Mk := ⟨0, 0, []⟩
def timeB (n : Int) : Bool := decide (0 ≤ n) && decide (n ≤ 1099511627776)
theorem time_iff {n : Int} : timeB n = true ↔ 0 ≤ n ∧ n ≤ 1099511627776 := by unfold timeB; simp only [Bool.and_eq_true, decide_eq_true_eq]
def lastM (l : List Mk) : Mk := l.getD (l.length - 1) zM
def behind (b m : Mk) : Bool := decide (b.span < m.span) && decide (b.when < m.when)
def fitB (l : List Mk) (m : Mk) : Bool := timeB m.span && (timeB m.when && (decide (m.cs.length ≤ 4) && (decide (l.length = 0) || behind (lastM l) m)))
def sizeB (C : Ck) : Bool := decide (1 ≤ C.marks.length) && (decide (C.marks.length ≤ 8) && (decide (1 ≤ C.wait) && decide (C.wait ≤ 1048576)))
def allB (l : List Mk) (k : Nat) : Bool := (List.range k).all fun j => fitB (l.take j) (l.getD j zM)
def rightC (C : Ck) : Bool := sizeB C && allB C.marks C.marks.length
theorem allB_iff {l : List Mk} {k : Nat} : allB l k = true ↔ ∀ j, j < k → fitB (l.take j) (l.getD j zM) = true := by
  unfold allB; simp only [List.all_eq_true, List.mem_range]
/-- A clock that is right. -/
structure Rt (C : Ck) : Prop where
  l1 : 1 ≤ C.marks.length
  l8 : C.marks.length ≤ 8
  w1 : 1 ≤ C.wait
  wb : C.wait ≤ 1048576
  sp : ∀ k, k < C.marks.length → 0 ≤ (C.marks.getD k zM).span ∧ (C.marks.getD k zM).span ≤ 1099511627776
  wh : ∀ k, k < C.marks.length → 0 ≤ (C.marks.getD k zM).when ∧ (C.marks.getD k zM).when ≤ 1099511627776
  co : ∀ k, k < C.marks.length → (C.marks.getD k zM).cs.length ≤ 4
  up : ∀ k, k + 1 < C.marks.length → (C.marks.getD k zM).span < (C.marks.getD (k + 1) zM).span ∧ (C.marks.getD k zM).when < (C.marks.getD (k + 1) zM).when
theorem lastM_take (l : List Mk) (k : Nat) (hk : k < l.length) : lastM (l.take (k + 1)) = l.getD k zM := by
  unfold lastM
  rw [List.length_take, show min (k + 1) l.length - 1 = k by omega, getD_take _ _ _ _ (Nat.lt_succ_self k)]
theorem right_iff {C : Ck} : rightC C = true ↔ Rt C := by
  unfold rightC sizeB
  simp only [Bool.and_eq_true, decide_eq_true_eq, allB_iff]
  constructor
  · rintro ⟨⟨h1, h8, hw, hb⟩, hf⟩
    have hd : ∀ j, j < C.marks.length → timeB (C.marks.getD j zM).span = true ∧ timeB (C.marks.getD j zM).when = true ∧ (C.marks.getD j zM).cs.length ≤ 4 ∧ (j = 0 ∨ behind (lastM (C.marks.take j)) (C.marks.getD j zM) = true) := fun j hj => by
      have := hf j hj
      unfold fitB at this
      simp only [Bool.and_eq_true, decide_eq_true_eq, Bool.or_eq_true, List.length_take] at this
      refine ⟨this.1, this.2.1, this.2.2.1, ?_⟩
      rcases this.2.2.2 with h | h
      · left; omega
      · exact .inr h
    refine ⟨h1, h8, hw, hb, fun k hk => time_iff.1 (hd k hk).1, fun k hk => time_iff.1 (hd k hk).2.1, fun k hk => (hd k hk).2.2.1, fun k hk => ?_⟩
    rcases (hd (k + 1) hk).2.2.2 with h | h
    · omega
    · rw [lastM_take _ _ (by omega)] at h
      unfold behind at h
      simpa only [Bool.and_eq_true, decide_eq_true_eq] using h
  · intro h
    refine ⟨⟨h.l1, h.l8, h.w1, h.wb⟩, fun j hj => ?_⟩
    unfold fitB
    simp only [Bool.and_eq_true, decide_eq_true_eq, Bool.or_eq_true, List.length_take]
    refine ⟨time_iff.2 (h.sp j hj), time_iff.2 (h.wh j hj), h.co j hj, ?_⟩
    cases j with
    | zero => left; omega
    | succ j =>
      right
      rw [lastM_take _ _ (by omega)]
      unfold behind
      simpa only [Bool.and_eq_true, decide_eq_true_eq] using h.up j hj
/-- The last mark, of the first k, that is sure; the first one where none is. -/
def sureN (l : List Mk) (wait now : Int) : Nat → Nat
  | 0 => 0
  | k + 1 => if now - (l.getD k zM).when ≥ wait then k else sureN l wait now k
def sureC (C : Ck) (now : Int) : Nat := sureN C.marks C.wait now C.marks.length
theorem sureN_lt (l : List Mk) (wait now : Int) (k : Nat) (h : 0 < k) : sureN l wait now k < k := by
  induction k with
  | zero => omega
  | succ k ih =>
    unfold sureN
    split
    · omega
    · cases k with
      | zero => exact Nat.zero_lt_one
      | succ k => have := ih (by omega); omega
theorem sureN_le (l : List Mk) (wait now : Int) (k : Nat) : sureN l wait now k ≤ k := by
  cases k with
  | zero => exact Nat.le_refl _
  | succ k => exact Nat.le_of_lt (sureN_lt _ _ _ _ (Nat.succ_pos k))
/-- None behind it is sure. -/
theorem sureN_not (l : List Mk) (wait now : Int) (k j : Nat) (h1 : sureN l wait now k < j) (h2 : j < k) : now - (l.getD j zM).when < wait := by
  induction k with
  | zero => omega
  | succ k ih =>
    unfold sureN at h1
    split at h1
    · omega
    · by_cases e : j = k
      · subst e; omega
      · exact ih h1 (by omega)
theorem sureN_is (l : List Mk) (wait now : Int) (k : Nat) (h : 0 < sureN l wait now k) : now - (l.getD (sureN l wait now k) zM).when ≥ wait := by
  induction k with
  | zero => unfold sureN at h; omega
  | succ k ih =>
    unfold sureN at h ⊢
    split
    · assumption
    · rename_i hh
      rw [if_neg hh] at h
      exact ih h
/-- It is just that one. -/
theorem sureN_eq {l : List Mk} {wait now : Int} {n k : Nat} (hk : k < n) (h1 : k = 0 ∨ now - (l.getD k zM).when ≥ wait) (h2 : ∀ j, k < j → j < n → now - (l.getD j zM).when < wait) : sureN l wait now n = k := by
  rcases Nat.lt_trichotomy (sureN l wait now n) k with h | h | h
  · have := sureN_not l wait now n k h hk
    rcases h1 with h1 | h1
    · omega
    · omega
  · exact h
  · have h3 := h2 _ h (sureN_lt l wait now n (by omega))
    have h4 := sureN_is l wait now n (by omega)
    omega
def okC (C : Ck) (now : Int) : Bool := rightC C && timeB now
def errC (C : Ck) (now : Int) : Int := if okC C now then 0 else 1
def keepC (C : Ck) (now : Int) : Ck := if okC C now then ⟨C.marks.drop (sureC C now), C.wait⟩ else C
def sureM (C : Ck) (now : Int) : Mk := if okC C now then C.marks.getD (sureC C now) zM else zM
def backC (C : Ck) (now : Int) : Ck := if okC C now then ⟨[C.marks.getD (sureC C now) zM], C.wait⟩ else C
def tickB (C : Ck) (m : Mk) : Bool := decide (C.marks.length ≠ 8) && fitB C.marks m
def tickC (C : Ck) (span now : Int) (cs : List Cor) : Ck := if okC C now && tickB C ⟨span, now, cs⟩ then ⟨C.marks ++ [⟨span, now, cs⟩], C.wait⟩ else C
def tickE (C : Ck) (span now : Int) (cs : List Cor) : Int := if okC C now then (if C.marks.length = 8 then 6 else if fitB C.marks ⟨span, now, cs⟩ then 0 else 1) else 1
def newK (wait : Int) (cs : List Cor) : Ck := ⟨[⟨0, 0, cs⟩], wait⟩
def newC (wait : Int) (cs : List Cor) : Ck := if rightC (newK wait cs) then newK wait cs else ⟨[], 0⟩
def newE (wait : Int) (cs : List Cor) : Int := if rightC (newK wait cs) then 0 else 1
end Go.Proofs.Ytbogkloemmddcaa
