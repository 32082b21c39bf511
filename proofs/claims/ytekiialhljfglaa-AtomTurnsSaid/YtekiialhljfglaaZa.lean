/- Laid together, in this order: IsaNum, IsaUsed, IsaMay, IsaMay2, IsaRight, IsaAll, IsaOpen, Num, RefNum, CoreNum, Base, Ref, RefDo, CoreA, CoreOpen, NumsOpen. -/
import Derived.Lib.Hide
import Derived.Test.YtekiialhljfglaaRows
import Derived.WalkKit
import Derived.ProofKit
import Derived.WalkSpells
import Derived.Outline
import Derived.Deep.WholeRow
import Derived.Deep.Slices
import Derived.OpenShut
import Derived.Laws.BitsAllLaws
import Derived.Laws.CopyOwn
import Derived.BigGuardPart
import Derived.LoopTactic
/- Instructions as five numbers, and when one, a program, and a list of programs may be: plain definitions and facts on them, no program in sight. -/
namespace Go.Proofs.Ytekiialhljfglaa

structure I5 where
  op : Int
  a : Int
  b : Int
  c : Int
  k : Int

def usum (op : Int) : Int :=
  if op = 1 ∨ op = 14 then 9 else if 2 ≤ op ∧ op ≤ 8 ∨ op = 11 then 7 else if op = 9 ∨ op = 10 then 3 else if op = 13 then 8 else if op = 15 then 1 else 0
def isOp (op : Int) : Bool := decide (1 ≤ op ∧ op ≤ 16)
def useA (op : Int) : Bool := decide (1 ≤ op ∧ op ≤ 16 ∧ op ≠ 12 ∧ op ≠ 13 ∧ op ≠ 16)
def useB (op : Int) : Bool := decide (2 ≤ op ∧ op ≤ 11)
def useC (op : Int) : Bool := decide (2 ≤ op ∧ op ≤ 8 ∨ op = 11)
def useK (op : Int) : Bool := decide (op = 1 ∨ op = 13 ∨ op = 14)
def regB (r : Int) (u : Bool) : Bool := if u then decide (0 ≤ r ∧ r < 8) else decide (r = 0)
def conB (op k : Int) (u : Bool) (n : Int) : Bool := if u then decide (op = 1 ∨ k < n) else decide (k = 0)
def mayB (x : I5) (n : Int) : Bool :=
  isOp x.op && (regB x.a (useA x.op) && (regB x.b (useB x.op) && (regB x.c (useC x.op) && conB x.op x.k (useK x.op) n)))
def endB (x : I5) : Bool := decide (x.op = 16 ∨ x.op = 13)
def zero5 : I5 := ⟨0, 0, 0, 0, 0⟩
/-- The instruction at place i. -/
def at5 (l : List I5) (i : Nat) : I5 := l.getD i zero5
def rightB (l : List I5) : Bool := decide (1 ≤ l.length) && (decide (l.length ≤ 64) && (endB (at5 l (l.length - 1)) && l.all fun x => mayB x l.length))
def allB (l : List (List I5)) : Bool := decide (1 ≤ l.length) && (decide (l.length ≤ 4) && l.all rightB)
def shortB (l : List (List I5)) : Bool := decide (l.length ≤ 6) && l.all fun p => decide (p.length ≤ 80)

theorem op_cases (op : Int) : op = 1 ∨ op = 2 ∨ op = 3 ∨ op = 4 ∨ op = 5 ∨ op = 6 ∨ op = 7 ∨ op = 8 ∨ op = 9 ∨ op = 10 ∨ op = 11 ∨ op = 12 ∨ op = 13 ∨ op = 14 ∨ op = 15 ∨ op = 16 ∨ (op < 1 ∨ 16 < op) := by omega
theorem isOp_out {op : Int} (h : op < 1 ∨ 16 < op) : isOp op = false := by unfold isOp; exact decide_eq_false (by omega)
theorem usum_out {op : Int} (h : op < 1 ∨ 16 < op) : usum op = 0 := by
  unfold usum
  rw [if_neg (by omega), if_neg (by omega), if_neg (by omega), if_neg (by omega), if_neg (by omega)]

theorem all_at5 (l : List I5) (f : I5 → Bool) (h : ∀ i, i < l.length → f (at5 l i) = true) : l.all f = true := by
  rw [List.all_eq_true]
  intro x hx
  obtain ⟨i, hi, rfl⟩ := List.getElem_of_mem hx
  have h' := h i hi
  have e : at5 l i = l[i] := by unfold at5; simp [List.getD, hi]
  rwa [e] at h'
theorem at5_all (l : List I5) (f : I5 → Bool) (h : l.all f = true) (i : Nat) (hi : i < l.length) : f (at5 l i) = true := by
  have e : at5 l i = l[i] := by unfold at5; simp [List.getD, hi]
  rw [e]
  exact List.all_eq_true.1 h _ (List.getElem_mem hi)
theorem right_few {l : List I5} (h : l.length < 1 ∨ 64 < l.length) : rightB l = false := by
  unfold rightB
  rcases h with h | h
  · rw [decide_eq_false (by omega)]; rfl
  · rw [decide_eq_false (p := l.length ≤ 64) (by omega)]; simp
theorem right_end {l : List I5} (h : endB (at5 l (l.length - 1)) = false) : rightB l = false := by unfold rightB; rw [h]; simp
theorem right_not {l : List I5} {i : Nat} (hi : i < l.length) (h : mayB (at5 l i) l.length = false) : rightB l = false := by
  have e : (l.all fun x => mayB x l.length) = false := by
    cases h' : (l.all fun x => mayB x l.length) with
    | false => rfl
    | true => have := at5_all l _ h' i hi; rw [h] at this; cases this
  unfold rightB; rw [e]; simp
theorem right_yes {l : List I5} (h1 : 1 ≤ l.length) (h2 : l.length ≤ 64) (h3 : endB (at5 l (l.length - 1)) = true) (h : ∀ i, i < l.length → mayB (at5 l i) l.length = true) : rightB l = true := by
  unfold rightB; rw [all_at5 l _ h, h3, decide_eq_true h1, decide_eq_true h2]; rfl
theorem right_has {l : List I5} (h : rightB l = true) : 1 ≤ l.length ∧ l.length ≤ 64 ∧ endB (at5 l (l.length - 1)) = true ∧ ∀ i, i < l.length → mayB (at5 l i) l.length = true := by
  unfold rightB at h
  simp only [Bool.and_eq_true, decide_eq_true_eq] at h
  exact ⟨h.1, h.2.1, h.2.2.1, at5_all l _ h.2.2.2⟩

/-- The program at place i. -/
def atP (l : List (List I5)) (i : Nat) : List I5 := l.getD i []
theorem all_atP (l : List (List I5)) (f : List I5 → Bool) (h : ∀ i, i < l.length → f (atP l i) = true) : l.all f = true := by
  rw [List.all_eq_true]
  intro x hx
  obtain ⟨i, hi, rfl⟩ := List.getElem_of_mem hx
  have h' := h i hi
  have e : atP l i = l[i] := by unfold atP; simp [List.getD, hi]
  rwa [e] at h'
theorem atP_all (l : List (List I5)) (f : List I5 → Bool) (h : l.all f = true) (i : Nat) (hi : i < l.length) : f (atP l i) = true := by
  have e : atP l i = l[i] := by unfold atP; simp [List.getD, hi]
  rw [e]
  exact List.all_eq_true.1 h _ (List.getElem_mem hi)
theorem atP_not (l : List (List I5)) (f : List I5 → Bool) (i : Nat) (hi : i < l.length) (h : f (atP l i) = false) : l.all f = false := by
  cases h' : l.all f with
  | false => rfl
  | true => have := atP_all l f h' i hi; rw [h] at this; cases this
theorem all_few {l : List (List I5)} (h : l.length < 1 ∨ 4 < l.length) : allB l = false := by
  unfold allB
  rcases h with h | h
  · rw [decide_eq_false (by omega)]; rfl
  · rw [decide_eq_false (p := l.length ≤ 4) (by omega)]; simp
theorem all_not {l : List (List I5)} {i : Nat} (hi : i < l.length) (h : rightB (atP l i) = false) : allB l = false := by
  unfold allB; rw [atP_not l rightB i hi h]; simp
theorem all_yes {l : List (List I5)} (h1 : 1 ≤ l.length) (h2 : l.length ≤ 4) (h : ∀ i, i < l.length → rightB (atP l i) = true) : allB l = true := by
  unfold allB; rw [all_atP l _ h, decide_eq_true h1, decide_eq_true h2]; rfl
theorem short_many {l : List (List I5)} (h : 6 < l.length) : shortB l = false := by
  unfold shortB; rw [decide_eq_false (p := l.length ≤ 6) (by omega)]; rfl
theorem short_not {l : List (List I5)} {i : Nat} (hi : i < l.length) (h : 80 < (atP l i).length) : shortB l = false := by
  unfold shortB; rw [atP_not l _ i hi (decide_eq_false (by omega))]; simp
theorem short_yes {l : List (List I5)} (h1 : l.length ≤ 6) (h : ∀ i, i < l.length → (atP l i).length ≤ 80) : shortB l = true := by
  unfold shortB; rw [all_atP l _ (fun i hi => decide_eq_true (h i hi)), decide_eq_true h1]; rfl
theorem short_has {l : List (List I5)} (h : shortB l = true) : l.length ≤ 6 ∧ ∀ i, i < l.length → (atP l i).length ≤ 80 := by
  unfold shortB at h
  simp only [Bool.and_eq_true, decide_eq_true_eq] at h
  exact ⟨h.1, fun i hi => of_decide_eq_true (atP_all l _ h.2 i hi)⟩
end Go.Proofs.Ytekiialhljfglaa
/- What isa.used and isa.Uses answer, for every operation's number; no condition. -/
namespace Go.Proofs.Ytekiialhljfglaa
open Go.ChangeShapes Go.WideShapes Go.ChangeAt Go.RowKit

theorem neq_out {op : Int} (h : op < 1 ∨ 16 < op) (k : Int) (h1 : 1 ≤ k) (h2 : k ≤ 16) : (op == k) = false := by simp; omega

theorem used_any (op : Int) (w : World) : Calls Try.prog 51 #[.int .i64 op] w fun e w' => e = .returned (.tuple #[.int .i64 (usum op), .bool (isOp op)]) ∧ w = w' := by
  rcases op_cases op with rfl | rfl | rfl | rfl | rfl | rfl | rfl | rfl | rfl | rfl | rfl | rfl | rfl | rfl | rfl | rfl | h
  case inr.inr.inr.inr.inr.inr.inr.inr.inr.inr.inr.inr.inr.inr.inr.inr =>
    rw [isOp_out h, usum_out h]
    have e1 := neq_out h 1 (by omega) (by omega)
    have e2 := neq_out h 2 (by omega) (by omega)
    have e3 := neq_out h 3 (by omega) (by omega)
    have e4 := neq_out h 4 (by omega) (by omega)
    have e5 := neq_out h 5 (by omega) (by omega)
    have e6 := neq_out h 6 (by omega) (by omega)
    have e7 := neq_out h 7 (by omega) (by omega)
    have e8 := neq_out h 8 (by omega) (by omega)
    have e9 := neq_out h 9 (by omega) (by omega)
    have e10 := neq_out h 10 (by omega) (by omega)
    have e11 := neq_out h 11 (by omega) (by omega)
    have e12 := neq_out h 12 (by omega) (by omega)
    have e13 := neq_out h 13 (by omega) (by omega)
    have e14 := neq_out h 14 (by omega) (by omega)
    have e15 := neq_out h 15 (by omega) (by omega)
    have e16 := neq_out h 16 (by omega) (by omega)
    clear h
    go_enter Try.func51, Try.ntmps51
    go_wp2
    go_ret2
    exact ⟨rfl, rfl⟩
  all_goals
    go_enter Try.func51, Try.ntmps51
    go_wp2
    go_ret2
    exact ⟨rfl, rfl⟩
end Go.Proofs.Ytekiialhljfglaa
/- What isa.Uses, isa.registerMay, isa.constantMay, isa.May and isa.ends answer, for every instruction; they write nothing that was there. -/
namespace Go.Proofs.Ytekiialhljfglaa
open Go.ChangeShapes Go.WideShapes Go.ChangeAt Go.RowKit

theorem results_tmp4 {fn : Func} {t u v x : Tmp} (h : fn.results = #[.tmp t, .tmp u, .tmp v, .tmp x]) (tmps : Array Value) (P : Program) (w : World) :
    (results fn tmps).run P w = .ok (.tuple #[tmps.getD t undef, tmps.getD u undef, tmps.getD v undef, tmps.getD x undef]) w := by simp [results, h]

theorem reg_any (r : Int) (u : Bool) (w : World) : Calls Try.prog 52 #[.int .i64 r, .bool u] w fun e w' => e = .returned (.bool (regB r u)) ∧ w = w' := by
  cases u with
  | false =>
    have e : regB r false = (r == 0) := by
      unfold regB; rw [if_neg (by decide)]; rw [Bool.eq_iff_iff]; simp
    rw [e]
    go_enter Try.func52, Try.ntmps52
    go_wp2
    go_ret
    exact ⟨rfl, rfl⟩
  | true =>
    by_cases h : 0 ≤ r
    · have e : regB r true = decide (r < 8) := by
        unfold regB; rw [if_pos rfl]; rw [Bool.eq_iff_iff]; simp; omega
      rw [e]
      clear e
      have h' : decide (0 ≤ r) = true := decide_eq_true h
      go_enter Try.func52, Try.ntmps52
      go_wp2
      go_ret
      exact ⟨rfl, rfl⟩
    · have e : regB r true = false := by
        unfold regB; rw [if_pos rfl]; exact decide_eq_false (by omega)
      rw [e]
      clear e
      have h' : decide (0 ≤ r) = false := decide_eq_false h
      go_enter Try.func52, Try.ntmps52
      go_wp2
      go_ret
      exact ⟨rfl, rfl⟩

/-- An instruction as a value, and as the block that a parameter of its kind is laid in. -/
def I5.row (x : I5) : Array Value := #[.int .i64 x.op, .int .i64 x.a, .int .i64 x.b, .int .i64 x.c, .int .u32 x.k]

theorem con_any (op a b c k : Int) (u : Bool) (n : Int) (w : World) (hk0 : 0 ≤ k) (hk1 : k ≤ 4294967295) :
    Calls Try.prog 53 #[.agg #[.int .i64 op, .int .i64 a, .int .i64 b, .int .i64 c, .int .u32 k], .bool u, .int .i64 n] w fun e w' => e = .returned (.bool (conB op k u n)) ∧ w' = w.alloc (.cells #[.int .i64 op, .int .i64 a, .int .i64 b, .int .i64 c, .int .u32 k] 61) := by
  cases u with
  | false =>
    have e : conB op k false n = (k == 0) := by
      unfold conB; rw [if_neg (by decide)]; rw [Bool.eq_iff_iff]; simp
    rw [e]
    clear e
    go_enter Try.func53, Try.ntmps53
    go_wp2
    go_ret
    exact ⟨rfl, rfl⟩
  | true =>
    by_cases h : op = 1
    · have e : conB op k true n = true := by
        unfold conB; rw [if_pos rfl]; exact decide_eq_true (Or.inl h)
      rw [e]
      clear e
      have h' : (op == 1) = true := by simpa using h
      clear h
      go_enter Try.func53, Try.ntmps53
      go_wp2
      go_ret
      exact ⟨rfl, rfl⟩
    · have e : conB op k true n = decide (k < n) := by
        unfold conB; rw [if_pos rfl]; rw [Bool.eq_iff_iff]; simp [h]
      rw [e]
      clear e
      have h' : (op == 1) = false := by simpa using h
      clear h
      go_enter Try.func53, Try.ntmps53
      go_wp2
      go_ret
      exact ⟨rfl, rfl⟩

theorem ends_any (op a b c k : Int) (w : World) :
    Calls Try.prog 45 #[.agg #[.int .i64 op, .int .i64 a, .int .i64 b, .int .i64 c, .int .u32 k]] w fun e w' => e = .returned (.bool (decide (op = 16 ∨ op = 13))) ∧ Below w.heap.size w w' := by
  by_cases h : op = 16
  · have e : decide (op = 16 ∨ op = 13) = true := decide_eq_true (Or.inl h)
    rw [e]
    clear e
    have h' : (op == 16) = true := by simpa using h
    clear h
    go_enter Try.func45, Try.ntmps45
    go_wp2
    go_ret
    exact ⟨rfl, (Below.refl _ _).alloc (Nat.le_refl _) _⟩
  · have e : decide (op = 16 ∨ op = 13) = (op == 13) := by rw [Bool.eq_iff_iff]; simp [h]
    rw [e]
    clear e
    have h' : (op == 16) = false := by simpa using h
    clear h
    go_enter Try.func45, Try.ntmps45
    go_wp2
    go_ret
    exact ⟨rfl, (Below.refl _ _).alloc (Nat.le_refl _) _⟩

theorem bit_a (op : Int) : (bits .and .i64 (usum op) 1 != 0) = useA op := by
  rcases op_cases op with rfl | rfl | rfl | rfl | rfl | rfl | rfl | rfl | rfl | rfl | rfl | rfl | rfl | rfl | rfl | rfl | h
  case inr.inr.inr.inr.inr.inr.inr.inr.inr.inr.inr.inr.inr.inr.inr.inr =>
    rw [usum_out h, show useA op = false from decide_eq_false (by omega)]; rfl
  all_goals rfl
theorem bit_b (op : Int) : (bits .and .i64 (usum op) 2 != 0) = useB op := by
  rcases op_cases op with rfl | rfl | rfl | rfl | rfl | rfl | rfl | rfl | rfl | rfl | rfl | rfl | rfl | rfl | rfl | rfl | h
  case inr.inr.inr.inr.inr.inr.inr.inr.inr.inr.inr.inr.inr.inr.inr.inr =>
    rw [usum_out h, show useB op = false from decide_eq_false (by omega)]; rfl
  all_goals rfl
theorem bit_c (op : Int) : (bits .and .i64 (usum op) 4 != 0) = useC op := by
  rcases op_cases op with rfl | rfl | rfl | rfl | rfl | rfl | rfl | rfl | rfl | rfl | rfl | rfl | rfl | rfl | rfl | rfl | h
  case inr.inr.inr.inr.inr.inr.inr.inr.inr.inr.inr.inr.inr.inr.inr.inr =>
    rw [usum_out h, show useC op = false from decide_eq_false (by omega)]; rfl
  all_goals rfl
theorem bit_k (op : Int) : (bits .and .i64 (usum op) 8 != 0) = useK op := by
  rcases op_cases op with rfl | rfl | rfl | rfl | rfl | rfl | rfl | rfl | rfl | rfl | rfl | rfl | rfl | rfl | rfl | rfl | h
  case inr.inr.inr.inr.inr.inr.inr.inr.inr.inr.inr.inr.inr.inr.inr.inr =>
    rw [usum_out h, show useK op = false from decide_eq_false (by omega)]; rfl
  all_goals rfl
end Go.Proofs.Ytekiialhljfglaa
/- What isa.May answers, for every instruction and however many; it writes nothing that was there. -/
namespace Go.Proofs.Ytekiialhljfglaa
open Go.ChangeShapes Go.WideShapes Go.ChangeAt Go.RowKit

set_option maxHeartbeats 400000 in
theorem may_core (op a b c k n : Int) (w : World) (hk0 : 0 ≤ k) (hk1 : k ≤ 4294967295) (o ra rb rc rk : Bool) (ho : isOp op = o) (ha : regB a (useA op) = ra) (hb : regB b (useB op) = rb) (hc : regB c (useC op) = rc) (hk : conB op k (useK op) n = rk) :
    Calls Try.prog 46 #[.agg #[.int .i64 op, .int .i64 a, .int .i64 b, .int .i64 c, .int .u32 k], .int .i64 n] w fun e w' => e = .returned (.bool (o && (ra && (rb && (rc && rk))))) ∧ Below w.heap.size w w' := by
  have ea := bit_a op
  have eb := bit_b op
  have ec := bit_c op
  have ek := bit_k op
  have HK := Lib.hid hk
  clear hk
  cases o with
  | false =>
    go_enter Try.func46, Try.ntmps46
    go_wp2_with fail
    refine (used_any _ _).mono ?_
    rintro e w' ⟨rfl, rfl⟩
    rw [ho]
    go_wp2
    go_ret
    exact ⟨rfl, (Below.refl _ _).alloc (Nat.le_refl _) _⟩
  | true =>
    cases ra with
    | false =>
      go_enter Try.func46, Try.ntmps46
      go_wp2_with fail
      refine (used_any _ _).mono ?_
      rintro e w' ⟨rfl, rfl⟩
      rw [ho]
      go_wp2_with fail
      refine (reg_any _ _ _).mono ?_
      rintro e w' ⟨rfl, rfl⟩
      go_wp2
      go_ret
      exact ⟨rfl, (Below.refl _ _).alloc (Nat.le_refl _) _⟩
    | true =>
      cases rb with
      | false =>
        go_enter Try.func46, Try.ntmps46
        go_wp2_with fail
        refine (used_any _ _).mono ?_
        rintro e w' ⟨rfl, rfl⟩
        rw [ho]
        go_wp2_with fail
        refine (reg_any _ _ _).mono ?_
        rintro e w' ⟨rfl, rfl⟩
        go_wp2_with fail
        refine (reg_any _ _ _).mono ?_
        rintro e w' ⟨rfl, rfl⟩
        go_wp2
        go_ret
        exact ⟨rfl, (Below.refl _ _).alloc (Nat.le_refl _) _⟩
      | true =>
        cases rc with
        | false =>
          go_enter Try.func46, Try.ntmps46
          go_wp2_with fail
          refine (used_any _ _).mono ?_
          rintro e w' ⟨rfl, rfl⟩
          rw [ho]
          go_wp2_with fail
          refine (reg_any _ _ _).mono ?_
          rintro e w' ⟨rfl, rfl⟩
          go_wp2_with fail
          refine (reg_any _ _ _).mono ?_
          rintro e w' ⟨rfl, rfl⟩
          go_wp2_with fail
          refine (reg_any _ _ _).mono ?_
          rintro e w' ⟨rfl, rfl⟩
          go_wp2
          go_ret
          exact ⟨rfl, (Below.refl _ _).alloc (Nat.le_refl _) _⟩
        | true =>
          go_enter Try.func46, Try.ntmps46
          go_wp2_with fail
          refine (used_any _ _).mono ?_
          rintro e w' ⟨rfl, rfl⟩
          rw [ho]
          go_wp2_with fail
          refine (reg_any _ _ _).mono ?_
          rintro e w' ⟨rfl, rfl⟩
          go_wp2_with fail
          refine (reg_any _ _ _).mono ?_
          rintro e w' ⟨rfl, rfl⟩
          go_wp2_with fail
          refine (reg_any _ _ _).mono ?_
          rintro e w' ⟨rfl, rfl⟩
          go_wp2_with fail
          refine (con_any _ _ _ _ _ _ _ _ hk0 hk1).mono ?_
          rintro e w' ⟨rfl, rfl⟩
          rw [HK.out]
          go_wp2
          go_ret
          exact ⟨rfl, ((Below.refl _ _).alloc (Nat.le_refl _) _).alloc (by simp) _⟩

theorem may_any (x : I5) (n : Int) (w : World) (hk0 : 0 ≤ x.k) (hk1 : x.k ≤ 4294967295) :
    Calls Try.prog 46 #[.agg x.row, .int .i64 n] w fun e w' => e = .returned (.bool (mayB x n)) ∧ Below w.heap.size w w' :=
  may_core x.op x.a x.b x.c x.k n w hk0 hk1 _ _ _ _ _ rfl rfl rfl rfl rfl
end Go.Proofs.Ytekiialhljfglaa
/- What isa.Right answers, for every program; it writes nothing that was there. -/
namespace Go.Proofs.Ytekiialhljfglaa
open Go.ChangeShapes Go.WideShapes Go.ChangeAt Go.RowKit

/-- The instruction x lies in the five cells from o on, and its number fits. -/
structure Lies (w : World) (b o : Nat) (x : I5) : Prop where
  c0 : w.cell? ⟨b, o, none⟩ = some (.int .i64 x.op)
  c1 : w.cell? ⟨b, o + 1, none⟩ = some (.int .i64 x.a)
  c2 : w.cell? ⟨b, o + 2, none⟩ = some (.int .i64 x.b)
  c3 : w.cell? ⟨b, o + 3, none⟩ = some (.int .i64 x.c)
  c4 : w.cell? ⟨b, o + 4, none⟩ = some (.int .u32 x.k)
  k0 : 0 ≤ x.k
  k1 : x.k ≤ 4294967295

theorem Lies.below {w w' : World} {B b o : Nat} {x : I5} (h : Lies w b o x) (hb : Below B w w') (hlt : b < B) : Lies w' b o x :=
  ⟨(hb.cell (p := ⟨b, o, none⟩) hlt).trans h.c0, (hb.cell (p := ⟨b, o + 1, none⟩) hlt).trans h.c1, (hb.cell (p := ⟨b, o + 2, none⟩) hlt).trans h.c2,
    (hb.cell (p := ⟨b, o + 3, none⟩) hlt).trans h.c3, (hb.cell (p := ⟨b, o + 4, none⟩) hlt).trans h.c4, h.k0, h.k1⟩

/-- The program l lies behind p: nothing is asked of p where there is none. -/
def Prg (w : World) (p : Option Addr) (l : List I5) : Prop :=
  0 < l.length → ∃ b off, b < w.heap.size ∧ p = some ⟨b, off, none⟩ ∧ ∀ i, i < l.length → Lies w b (off + i * 5) (at5 l i)

theorem Prg.below {w w' : World} {p : Option Addr} {l : List I5} (h : Prg w p l) (hb : Below w.heap.size w w') : Prg w' p l := fun h0 => by
  obtain ⟨b, off, h1, h2, h3⟩ := h h0
  exact ⟨b, off, Nat.lt_of_lt_of_le h1 hb.size, h2, fun i hi => (h3 i hi).below hb h1⟩

theorem right_few_any (p : Option Addr) (len cap : Nat) (w : World) (h : len < 1 ∨ 64 < len) :
    Calls Try.prog 40 #[.slice p len cap] w fun e w' => e = .returned (.bool false) ∧ Below w.heap.size w w' := by
  rcases h with h | h
  · have d1 : decide ((len : Int) < 1) = true := decide_eq_true (by omega)
    go_enter Try.func40, Try.ntmps40
    go_wp2
    go_ret
    exact ⟨rfl, Below.refl _ _⟩
  · have d1 : decide ((len : Int) < 1) = false := decide_eq_false (by omega)
    have d2 : decide (64 < (len : Int)) = true := decide_eq_true (by omega)
    go_enter Try.func40, Try.ntmps40
    go_wp2
    go_ret
    exact ⟨rfl, Below.refl _ _⟩

set_option maxHeartbeats 400000 in
theorem right_end_any (b off len cap : Nat) (x : I5) (w : World) (h1 : 1 ≤ len) (h2 : len ≤ 64) (hx : Lies w b (off + (len - 1) * 5) x) (he : endB x = false) :
    Calls Try.prog 40 #[.slice (some ⟨b, off, none⟩) len cap] w fun e w' => e = .returned (.bool false) ∧ Below w.heap.size w w' := by
  obtain ⟨op, a, bb, c, k⟩ := x
  obtain ⟨c0, c1, c2, c3, c4, _, _⟩ := hx
  have d1 : decide ((len : Int) < 1) = false := decide_eq_false (by omega)
  have d2 : decide (64 < (len : Int)) = false := decide_eq_false (by omega)
  have HE : Hid (decide (op = 16 ∨ op = 13) = false) := he
  clear he
  go_enter Try.func40, Try.ntmps40
  go_wp2_with fail
  refine (ends_any _ _ _ _ _ _).mono ?_
  rintro e w' ⟨rfl, hb⟩
  rw [HE.out]
  have HB := Lib.hid hb
  clear hb
  go_wp2
  go_ret
  exact ⟨rfl, HB.out⟩

set_option maxHeartbeats 800000 in
theorem right_loop_any (b off len cap : Nat) (l : List I5) (w : World) (hl : l.length = len) (h1 : 1 ≤ len) (h2 : len ≤ 64) (hlt : b < w.heap.size) (hx : ∀ i, i < len → Lies w b (off + i * 5) (at5 l i)) (he : endB (at5 l (len - 1)) = true) :
    Calls Try.prog 40 #[.slice (some ⟨b, off, none⟩) len cap] w fun e w' => e = .returned (.bool (rightB l)) ∧ Below w.heap.size w w' := by
  have HL := Lib.hid hl
  have HX := Lib.hid hx
  have HE := Lib.hid he
  have hlast := hx (len - 1) (by omega)
  clear hx hl he
  obtain ⟨op, a, bb, c, k, hat⟩ : ∃ op a bb c k, at5 l (len - 1) = ⟨op, a, bb, c, k⟩ := ⟨_, _, _, _, _, rfl⟩
  rw [hat] at hlast
  have he' : decide (op = 16 ∨ op = 13) = true := by have h := HE.out; rw [hat] at h; exact h
  have HE' := Lib.hid he'
  clear he' hat
  obtain ⟨c0, c1, c2, c3, c4, _, _⟩ := hlast
  have d1 : decide ((len : Int) < 1) = false := decide_eq_false (by omega)
  have d2 : decide (64 < (len : Int)) = false := decide_eq_false (by omega)
  go_enter Try.func40, Try.ntmps40
  go_wp2_with fail
  refine (ends_any _ _ _ _ _ _).mono ?_
  rintro e w1 ⟨rfl, hb⟩
  rw [HE'.out]
  have HB := Lib.hid hb
  clear hb c0 c1 c2 c3 c4
  go_wp2_with fail
  go_loopw [25] (fun i wr => ∃ k : Nat, k ≤ len ∧ i = .int .i64 k ∧ (∀ j, j < k → mayB (at5 l j) len = true) ∧ Below w.heap.size w wr) (fun i _ => len - (intOf i).toNat)
  case atStart => exact ⟨0, Nat.zero_le _, rfl, fun j hj => absurd hj (by omega), HB.out⟩
  case round =>
    obtain ⟨i, hi, rfl, hall, hbel⟩ := hrel
    have HA := Lib.hid hall
    have HBE := Lib.hid hbel
    clear hall hbel
    by_cases hlt' : i < len
    · have hl5 := ((HX.out) i hlt').below HBE.out hlt
      obtain ⟨op, a, bb, c, k, hat⟩ : ∃ op a bb c k, at5 l i = ⟨op, a, bb, c, k⟩ := ⟨_, _, _, _, _, rfl⟩
      rw [hat] at hl5
      have HAT := Lib.hid hat
      clear hat
      obtain ⟨c0, c1, c2, c3, c4, g0, g1⟩ := hl5
      go_wp2_with fail
      refine (may_any ⟨op, a, bb, c, k⟩ _ _ g0 g1).mono ?_
      rintro e w2 ⟨rfl, hb2⟩
      rw [← HAT.out]
      have HB2 := Lib.hid hb2
      clear hb2 c0 c1 c2 c3 c4
      cases hm : mayB (at5 l i) len with
      | true =>
        have HM := Lib.hid hm
        go_wp2
        go_roundw
        case rel =>
          refine ⟨i + 1, by omega, by go_num, fun j hj => ?_, (HBE.out.alloc HBE.out.size _).trans (HB2.out.mono (by have := HBE.out.size; simp; omega))⟩
          by_cases hji : j = i
          · rw [hji]; exact HM.out
          · exact HA.out j (by omega)
        case measure => simp [intOf]; omega
      | false =>
        have HM := Lib.hid hm
        go_wp2
        go_ret
        refine ⟨?_, (HBE.out.alloc HBE.out.size _).trans (HB2.out.mono (by have := HBE.out.size; simp; omega))⟩
        rw [right_not (l := l) (i := i) (by rw [HL.out]; exact hlt') (by rw [HL.out]; exact HM.out)]
        rfl
    · go_wp2
      go_ret
      refine ⟨?_, HBE.out⟩
      rw [right_yes (l := l) (by rw [HL.out]; exact h1) (by rw [HL.out]; exact h2) (by rw [HL.out]; exact HE.out) (fun j hj => by rw [HL.out] at hj ⊢; exact HA.out j (by omega))]
      rfl

theorem right_any (p : Option Addr) (cap : Nat) (l : List I5) (w : World) (h : Prg w p l) :
    Calls Try.prog 40 #[.slice p l.length cap] w fun e w' => e = .returned (.bool (rightB l)) ∧ Below w.heap.size w w' := by
  by_cases h0 : l.length < 1 ∨ 64 < l.length
  · rw [right_few h0]
    exact right_few_any p _ cap w h0
  · obtain ⟨b, off, hlt, rfl, hx⟩ := h (by omega)
    cases he : endB (at5 l (l.length - 1)) with
    | false =>
      rw [right_end he]
      exact right_end_any b off _ cap _ w (by omega) (by omega) (hx (l.length - 1) (by omega)) he
    | true => exact right_loop_any b off _ cap l w rfl (by omega) (by omega) hlt hx he
end Go.Proofs.Ytekiialhljfglaa
/- What isa.All answers, for every list of programs; it writes nothing that was there. -/
namespace Go.Proofs.Ytekiialhljfglaa
open Go.ChangeShapes Go.WideShapes Go.ChangeAt Go.RowKit

/-- The programs ls lie behind p: nothing is asked of p where there are none. -/
def Prgs (w : World) (p : Option Addr) (ls : List (List I5)) : Prop :=
  0 < ls.length → ∃ b off, b < w.heap.size ∧ p = some ⟨b, off, none⟩ ∧ ∀ i, i < ls.length → ∃ q cap, w.cell? ⟨b, off + i, none⟩ = some (.slice q (atP ls i).length cap) ∧ Prg w q (atP ls i)

theorem Prgs.below {w w' : World} {p : Option Addr} {ls : List (List I5)} (h : Prgs w p ls) (hb : Below w.heap.size w w') : Prgs w' p ls := fun h0 => by
  obtain ⟨b, off, h1, h2, h3⟩ := h h0
  refine ⟨b, off, Nat.lt_of_lt_of_le h1 hb.size, h2, fun i hi => ?_⟩
  obtain ⟨q, cap, h4, h5⟩ := h3 i hi
  exact ⟨q, cap, (hb.cell (p := ⟨b, off + i, none⟩) h1).trans h4, h5.below hb⟩

theorem all_few_any (p : Option Addr) (len cap : Nat) (w : World) (h : len < 1 ∨ 4 < len) :
    Calls Try.prog 28 #[.slice p len cap] w fun e w' => e = .returned (.bool false) ∧ Below w.heap.size w w' := by
  rcases h with h | h
  · have d1 : decide ((len : Int) < 1) = true := decide_eq_true (by omega)
    go_enter Try.func28, Try.ntmps28
    go_wp2
    go_ret
    exact ⟨rfl, Below.refl _ _⟩
  · have d1 : decide ((len : Int) < 1) = false := decide_eq_false (by omega)
    have d2 : decide (4 < (len : Int)) = true := decide_eq_true (by omega)
    go_enter Try.func28, Try.ntmps28
    go_wp2
    go_ret
    exact ⟨rfl, Below.refl _ _⟩

set_option maxHeartbeats 800000 in
theorem all_loop_any (b off len cap : Nat) (ls : List (List I5)) (w : World) (hl : ls.length = len) (h1 : 1 ≤ len) (h2 : len ≤ 4) (hlt : b < w.heap.size)
    (hx : ∀ i, i < len → ∃ q cap, w.cell? ⟨b, off + i, none⟩ = some (.slice q (atP ls i).length cap) ∧ Prg w q (atP ls i)) :
    Calls Try.prog 28 #[.slice (some ⟨b, off, none⟩) len cap] w fun e w' => e = .returned (.bool (allB ls)) ∧ Below w.heap.size w w' := by
  have HL := Lib.hid hl
  have HX := Lib.hid hx
  clear hx hl
  have d1 : decide ((len : Int) < 1) = false := decide_eq_false (by omega)
  have d2 : decide (4 < (len : Int)) = false := decide_eq_false (by omega)
  go_enter Try.func28, Try.ntmps28
  go_wp2_with fail
  go_loopw [15] (fun i wr => ∃ k : Nat, k ≤ len ∧ i = .int .i64 k ∧ (∀ j, j < k → rightB (atP ls j) = true) ∧ Below w.heap.size w wr) (fun i _ => len - (intOf i).toNat)
  case atStart => exact ⟨0, Nat.zero_le _, rfl, fun j hj => absurd hj (by omega), Below.refl _ _⟩
  case round =>
    obtain ⟨i, hi, rfl, hall, hbel⟩ := hrel
    have HA := Lib.hid hall
    have HBE := Lib.hid hbel
    clear hall hbel
    by_cases hlt' : i < len
    · obtain ⟨q, qc, hcell, hprg⟩ := HX.out i hlt'
      have hc := (HBE.out.cell (p := ⟨b, off + i, none⟩) hlt).trans hcell
      have HP := Lib.hid (hprg.below HBE.out)
      clear hcell hprg
      obtain ⟨n, hn⟩ : ∃ n, n = (atP ls i).length := ⟨_, rfl⟩
      rw [← hn] at hc
      have HN := Lib.hid hn
      clear hn
      go_wp2_with fail
      rw [HN.out]
      refine (right_any _ _ _ _ HP.out).mono ?_
      rintro e w2 ⟨rfl, hb2⟩
      have HB2 := Lib.hid hb2
      clear hb2 hc
      rw [← HN.out]
      cases hm : rightB (atP ls i) with
      | true =>
        have HM := Lib.hid hm
        go_wp2
        go_roundw
        case rel =>
          refine ⟨i + 1, by omega, by go_num, fun j hj => ?_, HBE.out.trans (HB2.out.mono HBE.out.size)⟩
          by_cases hji : j = i
          · rw [hji]; exact HM.out
          · exact HA.out j (by omega)
        case measure => simp [intOf]; omega
      | false =>
        have HM := Lib.hid hm
        go_wp2
        go_ret
        refine ⟨?_, HBE.out.trans (HB2.out.mono HBE.out.size)⟩
        rw [all_not (l := ls) (i := i) (by rw [HL.out]; exact hlt') HM.out]
        rfl
    · go_wp2
      go_ret
      refine ⟨?_, HBE.out⟩
      rw [all_yes (l := ls) (by rw [HL.out]; exact h1) (by rw [HL.out]; exact h2) (fun j hj => by rw [HL.out] at hj; exact HA.out j (by omega))]
      rfl

theorem all_any (p : Option Addr) (cap : Nat) (ls : List (List I5)) (w : World) (h : Prgs w p ls) :
    Calls Try.prog 28 #[.slice p ls.length cap] w fun e w' => e = .returned (.bool (allB ls)) ∧ Below w.heap.size w w' := by
  by_cases h0 : ls.length < 1 ∨ 4 < ls.length
  · rw [all_few h0]
    exact all_few_any p _ cap w h0
  · obtain ⟨b, off, hlt, rfl, hx⟩ := h (by omega)
    exact all_loop_any b off _ cap ls w rfl (by omega) (by omega) hlt hx
end Go.Proofs.Ytekiialhljfglaa
/- What an argument that is an instruction, a program or a list of programs reads as: numbers in cells; no condition. -/
namespace Go.Proofs.Ytekiialhljfglaa
open Go.ChangeShapes Go.WideShapes Go.ChangeAt Go.RowKit Go.Deep

theorem cells3 : Try.prog.cellsOf 3 = 1 := by kernel_rfl
theorem cells22 : Try.prog.cellsOf 28 = 1 := by kernel_rfl
theorem cells24 : Try.prog.cellsOf 61 = 5 := by kernel_rfl
theorem cells29 : Try.prog.cellsOf 58 = 1 := by kernel_rfl

section
variable {H : Type} {enc : TypeId × Value → H} {w : World} {base : Nat} {spare : Nat → Bool} {held : Bool}

/-- The five cells of an instruction are five numbers. -/
theorem ins_of_cells {fuel : Nat} {cs : List Value} {x : DataW H × List MemPlace} (h : DataW.trod enc Try.prog w base spare held fuel 61 cs = some x) :
    ∃ y : I5, cs = y.row.toList ∧ 0 ≤ y.k ∧ y.k ≤ 4294967295 := by
  obtain ⟨xs, n, _, _, hlen, hxl, hf⟩ := DataW.trod_struct Try.underlying61 h
  rw [cells24] at hlen
  match cs, hlen with
  | [v0, v1, v2, v3, v4], _ =>
    match xs, hxl with
    | [y0, y1, y2, y3, y4], _ =>
      have e0 : DataW.trod enc Try.prog w base spare held n 3 [v0] = some y0 := by simpa [cells3] using hf 0 _ rfl
      have e1 : DataW.trod enc Try.prog w base spare held n 3 [v1] = some y1 := by simpa [cells3] using hf 1 _ rfl
      have e2 : DataW.trod enc Try.prog w base spare held n 3 [v2] = some y2 := by simpa [cells3] using hf 2 _ rfl
      have e3 : DataW.trod enc Try.prog w base spare held n 3 [v3] = some y3 := by simpa [cells3] using hf 3 _ rfl
      have e4 : DataW.trod enc Try.prog w base spare held n 28 [v4] = some y4 := by simpa [cells22] using hf 4 _ rfl
      obtain ⟨n0, q0, _, _⟩ := DataW.trod_int Try.underlying3 e0
      obtain ⟨n1, q1, _, _⟩ := DataW.trod_int Try.underlying3 e1
      obtain ⟨n2, q2, _, _⟩ := DataW.trod_int Try.underlying3 e2
      obtain ⟨n3, q3, _, _⟩ := DataW.trod_int Try.underlying3 e3
      obtain ⟨n4, q4, _, wf4⟩ := DataW.trod_int Try.underlying28 e4
      simp at q0 q1 q2 q3 q4
      subst q0 q1 q2 q3 q4
      have b4 := bounds_u32 wf4
      exact ⟨⟨n0, n1, n2, n3, n4⟩, rfl, b4.1, b4.2⟩

theorem add_zero_spot {a : Addr} {v : Value} (h : w.cell? (a.add 0) = some v) : a.block < w.heap.size ∧ a = ⟨a.block, a.off, none⟩ := by
  have hs : a.spot = none := by simpa [Addr.add] using World.cell?_spot h
  obtain ⟨b, o, s⟩ := a
  simp only at hs
  subst hs
  refine ⟨?_, rfl⟩
  have h0 : w.cell? ⟨b, o, none⟩ = some v := by simpa [Addr.add] using h
  by_cases hb : b < w.heap.size
  · exact hb
  · simp [World.cell?, Array.getElem?_eq_none (show w.heap.size ≤ b by omega)] at h0

theorem add_plain (b o k : Nat) : (⟨b, o, none⟩ : Addr).add k = ⟨b, o + k, none⟩ := by unfold Addr.add; split <;> simp_all

theorem prg_of_cells {fuel : Nat} {p : Option Addr} {len cap : Nat} {x : DataW H × List MemPlace} (h : DataW.trod enc Try.prog w base spare held fuel 58 [.slice p len cap] = some x) :
    ∃ l : List I5, l.length = len ∧ len ≤ maxLen ∧ Prg w p l := by
  rcases open_slice Try.underlying58 h with ⟨hcs, _⟩ | ⟨a, len', cap', m, n, D, Pl, hcs, _, hl, hm, hmm, _, hi⟩
  · simp at hcs
    obtain ⟨rfl, rfl, rfl⟩ := hcs
    exact ⟨[], rfl, Nat.zero_le _, fun h0 => absurd h0 (by simp)⟩
  · simp at hcs
    obtain ⟨rfl, rfl, rfl⟩ := hcs
    have hlm : len ≤ m := by rw [hmm]; split <;> omega
    have hex : ∀ i, i < len → ∃ y : I5, (∀ j, j < 5 → w.cell? ((a.add (i * 5)).add j) = y.row.toList[j]?) ∧ 0 ≤ y.k ∧ y.k ≤ 4294967295 := fun i hlt => by
      obtain ⟨cs', hc, ht⟩ := hi i (by omega)
      rw [cells24] at hc
      obtain ⟨y, rfl, hy0, hy1⟩ := ins_of_cells ht
      exact ⟨y, (World.cells?_some hc).2.2, hy0, hy1⟩
    have : Inhabited I5 := ⟨zero5⟩
    obtain ⟨f, hf⟩ := choose_lt hex
    refine ⟨(List.range len).map f, by simp, Nat.le_trans hl hm, fun h0 => ?_⟩
    have h0' : 0 < len := by simpa using h0
    have hc0 := (hf 0 h0').1 0 (by omega)
    have hz : (a.add (0 * 5)).add 0 = a.add 0 := by simp [Addr.add]
    rw [hz] at hc0
    obtain ⟨hlt, ha⟩ := add_zero_spot hc0
    refine ⟨a.block, a.off, hlt, by rw [← ha], fun i hi' => ?_⟩
    have hi'' : i < len := by simpa using hi'
    obtain ⟨hcell, hk0, hk1⟩ := hf i hi''
    have e : at5 ((List.range len).map f) i = f i := by unfold at5; simp [List.getD, hi'']
    rw [e]
    have hat : ∀ j, j < 5 → w.cell? ⟨a.block, a.off + i * 5 + j, none⟩ = (f i).row.toList[j]? := fun j hj => by
      have := hcell j hj
      rw [ha, add_plain, add_plain] at this
      exact this
    exact ⟨hat 0 (by omega), hat 1 (by omega), hat 2 (by omega), hat 3 (by omega), hat 4 (by omega), hk0, hk1⟩

theorem prgs_of_cells {fuel : Nat} {p : Option Addr} {len cap : Nat} {x : DataW H × List MemPlace} (h : DataW.trod enc Try.prog w base spare held fuel 22 [.slice p len cap] = some x) :
    ∃ l : List (List I5), l.length = len ∧ len ≤ maxLen ∧ (∀ i, i < len → (atP l i).length ≤ maxLen) ∧ Prgs w p l := by
  rcases open_slice1 Try.underlying22 cells29 h with ⟨hcs, _⟩ | ⟨a, len', cap', m, n, V, D, Pl, hcs, _, hl, hm, hmm, _, hi⟩
  · simp at hcs
    obtain ⟨rfl, rfl, rfl⟩ := hcs
    exact ⟨[], rfl, Nat.zero_le _, fun i h0 => absurd h0 (by simp), fun h0 => absurd h0 (by simp)⟩
  · simp at hcs
    obtain ⟨rfl, rfl, rfl⟩ := hcs
    have hlm : len ≤ m := by rw [hmm]; split <;> omega
    have hex : ∀ i, i < len → ∃ y : List I5, y.length ≤ maxLen ∧ ∃ q c, w.cell? (a.add i) = some (.slice q y.length c) ∧ Prg w q y := fun i hlt => by
      obtain ⟨hc, ht⟩ := hi i (by omega)
      have hform : ∃ q k c, V i = .slice q k c := by
        rcases open_slice Try.underlying58 ht with ⟨hcs, _⟩ | ⟨a', l', c', _, _, _, _, hcs, _⟩
        · exact ⟨none, 0, 0, by simpa using hcs⟩
        · exact ⟨some a', l', c', by simpa using hcs⟩
      obtain ⟨q, k, c, hv⟩ := hform
      rw [hv] at ht hc
      obtain ⟨y, rfl, hy, hp⟩ := prg_of_cells ht
      exact ⟨y, hy, q, c, hc, hp⟩
    obtain ⟨f, hf⟩ := choose_lt hex
    have e : ∀ i, i < len → atP ((List.range len).map f) i = f i := fun i hi' => by unfold atP; simp [List.getD, hi']
    refine ⟨(List.range len).map f, by simp, Nat.le_trans hl hm, fun i hi' => by rw [e i hi']; exact (hf i hi').1, fun h0 => ?_⟩
    have h0' : 0 < len := by simpa using h0
    obtain ⟨q, c, hc0, _⟩ := (hf 0 h0').2
    obtain ⟨hlt, ha⟩ := add_zero_spot hc0
    refine ⟨a.block, a.off, hlt, by rw [← ha], fun i hi' => ?_⟩
    have hi'' : i < len := by simpa using hi'
    obtain ⟨q, c, hcell, hp⟩ := (hf i hi'').2
    rw [e i hi'']
    rw [ha, add_plain] at hcell
    exact ⟨q, c, hcell, hp⟩
end
end Go.Proofs.Ytekiialhljfglaa
/- Plain numbers for layer 1: what the operations of word answer, as functions of integers, and what is true of them; no program is run here; no condition but the numbers' bounds. -/
namespace Go.Proofs.Ytekiialhljfglaa
open Go.RowKit

def uadd (b c : Int) : Int := IntKind.u32.wrap (b + c)
def usub (b c : Int) : Int := IntKind.u32.wrap (b - c)
def umul (b c : Int) : Int := IntKind.u32.wrap (b * c)
def uand (b c : Int) : Int := bits .and .u32 b c
def uxor (b c : Int) : Int := bits .xor .u32 b c
def ueq (b c : Int) : Int := if b = c then 1 else 0
def ult (b c : Int) : Int := if b < c then 1 else 0
def of4 (z0 z1 z2 z3 : Int) : Int := ((z0 * 256 + z1) * 256 + z2) * 256 + z3

theorem wrap_u32 (n : Int) : IntKind.u32.wrap n = n % 4294967296 := by
  simp [IntKind.wrap, IntKind.bits, IntKind.signed]

theorem ueq_bd (b c : Int) : 0 ≤ ueq b c ∧ ueq b c ≤ 1 := by unfold ueq; split <;> omega
theorem ult_bd (b c : Int) : 0 ≤ ult b c ∧ ult b c ≤ 1 := by unfold ult; split <;> omega
theorem one_of (b c : Int) : ueq b c + ult b c + ult c b = 1 := by
  unfold ueq ult; split <;> split <;> split <;> omega
theorem sub_add (a b : Int) (h0 : 0 ≤ a) (h1 : a ≤ 4294967295) : usub (uadd a b) b = a := by
  unfold usub uadd; rw [wrap_u32, wrap_u32]; omega
theorem xor_xor (a b : Int) (h0 : 0 ≤ a) (h1 : a ≤ 4294967295) (h2 : 0 ≤ b) (h3 : b ≤ 4294967295) : uxor (uxor a b) b = a := by
  obtain ⟨n, rfl⟩ := Int.eq_ofNat_of_zero_le h0
  obtain ⟨m, rfl⟩ := Int.eq_ofNat_of_zero_le h2
  unfold uxor
  have hx : n ^^^ m < 4294967296 := Nat.xor_lt_two_pow (n := 32) (by omega) (by omega)
  rw [u32_xor_nat n m (by omega) (by omega), u32_xor_nat _ m hx (by omega), Nat.xor_assoc, Nat.xor_self, Nat.xor_zero]
theorem and_le (a b : Int) (h0 : 0 ≤ a) (h1 : a ≤ 4294967295) (h2 : 0 ≤ b) (h3 : b ≤ 4294967295) : uand a b ≤ a ∧ uand a b ≤ b := by
  obtain ⟨n, rfl⟩ := Int.eq_ofNat_of_zero_le h0
  obtain ⟨m, rfl⟩ := Int.eq_ofNat_of_zero_le h2
  unfold uand
  rw [u32_and_nat n m (by omega) (by omega)]
  have := Nat.and_le_left (n := n) (m := m)
  have := Nat.and_le_right (n := n) (m := m)
  omega
theorem or_mul (a b i m : Nat) (hm : m = 2 ^ i) (h : a < m) : (b * m) ||| a = b * m + a := by
  subst hm
  rw [← Nat.shiftLeft_eq, Nat.shiftLeft_add_eq_or_of_lt h]
theorem or_sum (x0 x1 x2 x3 : Int) (a0 : 0 ≤ x0) (b0 : x0 ≤ 255) (a1 : 0 ≤ x1) (b1 : x1 ≤ 255) (a2 : 0 ≤ x2) (b2 : x2 ≤ 255) (a3 : 0 ≤ x3) (b3 : x3 ≤ 255) :
    bits BinOp.or IntKind.u32 (bits BinOp.or IntKind.u32 (bits BinOp.or IntKind.u32 (x0 * 16777216) (x1 * 65536)) (x2 * 256)) x3 = of4 x0 x1 x2 x3 := by
  obtain ⟨n0, rfl⟩ := Int.eq_ofNat_of_zero_le a0
  obtain ⟨n1, rfl⟩ := Int.eq_ofNat_of_zero_le a1
  obtain ⟨n2, rfl⟩ := Int.eq_ofNat_of_zero_le a2
  obtain ⟨n3, rfl⟩ := Int.eq_ofNat_of_zero_le a3
  have e2 : ((n2 : Int) * 256) = ((n2 * 256 : Nat) : Int) := by omega
  have e1 : ((n1 : Int) * 65536) = ((n1 * 65536 : Nat) : Int) := by omega
  have e0 : ((n0 : Int) * 16777216) = ((n0 * 16777216 : Nat) : Int) := by omega
  rw [e2, e1, e0, u32_or_nat (n0 * 16777216) (n1 * 65536) (by omega) (by omega), or_mul (n1 * 65536) n0 24 16777216 (by decide) (by omega),
    u32_or_nat _ (n2 * 256) (by omega) (by omega), show n0 * 16777216 + n1 * 65536 = (n0 * 256 + n1) * 65536 by omega, or_mul (n2 * 256) (n0 * 256 + n1) 16 65536 (by decide) (by omega),
    u32_or_nat _ n3 (by omega) (by omega), show (n0 * 256 + n1) * 65536 + n2 * 256 = ((n0 * 256 + n1) * 256 + n2) * 256 by omega, or_mul n3 ((n0 * 256 + n1) * 256 + n2) 8 256 (by decide) (by omega)]
  unfold of4
  omega
theorem of4_bytes (n : Int) (_h0 : 0 ≤ n) (_h1 : n ≤ 4294967295) : of4 (n / 16777216) (n / 65536 % 256) (n / 256 % 256) (n % 256) = n := by
  unfold of4; omega
theorem place_next (n w : Int) (_h0 : 0 ≤ n) (h1 : 1 ≤ w) : (n + 1) % w = n % w + 1 ∨ n % w = w - 1 ∧ (n + 1) % w = 0 := by
  have h2 : 0 ≤ n % w := Int.emod_nonneg _ (by omega)
  have h3 : n % w < w := Int.emod_lt_of_pos _ (by omega)
  have e : (n + 1) % w = (n % w + 1) % w := by rw [Int.emod_add_emod]
  by_cases h : n % w + 1 < w
  · left; rw [e, Int.emod_eq_of_lt (by omega) h]
  · right; refine ⟨by omega, ?_⟩; rw [e, show n % w + 1 = w by omega, Int.emod_self]
theorem mul_comm' (a b : Int) : umul a b = umul b a := by unfold umul; rw [Int.mul_comm]
theorem add_comm' (a b : Int) : uadd a b = uadd b a := by unfold uadd; rw [Int.add_comm]
theorem mul_sum (a b c : Int) : umul (uadd a b) c = uadd (umul a c) (umul b c) := by
  unfold umul uadd; simp only [wrap_u32]
  rw [Int.mul_emod, Int.emod_emod_of_dvd _ (Int.dvd_refl _), ← Int.mul_emod, Int.add_mul]
  exact Int.add_emod _ _ _
end Go.Proofs.Ytekiialhljfglaa
/- Plain numbers for the document's answers of layer 1: bit by bit it is the same as at once; what an operation answers, by its number; no program is run here; no condition but the numbers' bounds. -/
namespace Go.Proofs.Ytekiialhljfglaa
set_option linter.unusedVariables false
open Go.RowKit

/-- What operation op makes of b and c, and whether there is one. -/
def doV (op b c : Int) : Int := if op = 2 then uadd b c else if op = 3 then usub b c else if op = 4 then umul b c else if op = 5 then uand b c else if op = 6 then uxor b c else if op = 7 then ueq b c else if op = 8 then ult b c else 0
def doOk (op : Int) : Bool := decide (2 ≤ op ∧ op ≤ 8)

/-- The number both of whose arguments' bits are met, bit by bit. -/
def bitN (same : Bool) (b c : Nat) : Nat := if same then b &&& c else b ^^^ c
def bitT (same x y : Bool) : Bool := if same then x && y else x != y

theorem bitN_test (same : Bool) (b c k : Nat) : (bitN same b c).testBit k = bitT same (b.testBit k) (c.testBit k) := by
  cases same <;> simp [bitN, bitT, Nat.testBit_and, Nat.testBit_xor]
theorem bitN_lt (same : Bool) (b c : Nat) (hb : b < 4294967296) (hc : c < 4294967296) : bitN same b c < 4294967296 := by
  cases same
  · exact Nat.xor_lt_two_pow (n := 32) hb hc
  · exact Nat.lt_of_le_of_lt Nat.and_le_left hb
theorem bitN_step (same : Bool) (b c k : Nat) :
    bitN same b c % 2 ^ (k + 1) = bitN same b c % 2 ^ k + (if bitT same (decide (b / 2 ^ k % 2 = 1)) (decide (c / 2 ^ k % 2 = 1)) then 2 ^ k else 0) := by
  have e : ∀ n : Nat, n.testBit k = decide (n / 2 ^ k % 2 = 1) := fun n => by rw [Nat.testBit_eq_decide_div_mod_eq]
  have hx := e (bitN same b c)
  rw [bitN_test, e b, e c] at hx
  rw [Nat.pow_succ, Nat.mod_mul, hx]
  have h2 : bitN same b c / 2 ^ k % 2 = 0 ∨ bitN same b c / 2 ^ k % 2 = 1 := by omega
  rcases h2 with h | h <;> simp [h]
theorem half (b k : Nat) : b / 2 ^ k / 2 = b / 2 ^ (k + 1) := by rw [Nat.div_div_eq_div_mul, Nat.pow_succ]
theorem and_of (b c : Nat) (hb : b < 4294967296) (hc : c < 4294967296) : uand b c = (bitN true b c : Nat) := u32_and_nat b c hb hc
theorem xor_of (b c : Nat) (hb : b < 4294967296) (hc : c < 4294967296) : uxor b c = (bitN false b c : Nat) := u32_xor_nat b c hb hc
theorem pow_le_31 (k : Nat) (h : k ≤ 31) : 2 ^ k ≤ 2147483648 := Nat.pow_le_pow_right (n := 2) (j := 31) (by decide) h
theorem pow_le_30 (k : Nat) (h : k ≤ 30) : 2 ^ k ≤ 1073741824 := Nat.pow_le_pow_right (n := 2) (j := 30) (by decide) h
/-- All that one round of the loop over the bits needs. -/
theorem bit_round (same : Bool) (b c X k : Nat) (hb : b < 4294967296) (hc : c < 4294967296) (hX : X = bitN same b c) (hk : k < 32) :
    ∃ B C N P : Nat, b / 2 ^ k = B ∧ c / 2 ^ k = C ∧ X % 2 ^ k = N ∧ 2 ^ k = P ∧ B ≤ 4294967295 ∧ C ≤ 4294967295 ∧ N < P ∧ P ≤ 2147483648 ∧ (k < 31 → P ≤ 1073741824) ∧ (k = 31 → P = 2147483648) ∧
      b / 2 ^ (k + 1) = B / 2 ∧ c / 2 ^ (k + 1) = C / 2 ∧ X % 2 ^ (k + 1) = N + (if bitT same (decide (B % 2 = 1)) (decide (C % 2 = 1)) then P else 0) ∧ 2 ^ (k + 1) = P * 2 :=
  ⟨_, _, _, _, rfl, rfl, rfl, rfl, Nat.le_trans (Nat.div_le_self _ _) (by omega), Nat.le_trans (Nat.div_le_self _ _) (by omega), Nat.mod_lt _ (Nat.pow_pos (by decide)), pow_le_31 k (by omega), fun h => pow_le_30 k (by omega),
    fun h => by subst h; rfl, (half b k).symm, (half c k).symm, by rw [hX]; exact bitN_step same b c k, Nat.pow_succ 2 k⟩
end Go.Proofs.Ytekiialhljfglaa
/- A core as eight numbers, a place and a yes or no; when one may be, what it wants, and how it goes on: plain definitions and facts on them, no program in sight. -/
namespace Go.Proofs.Ytekiialhljfglaa

structure Cor where
  r : Nat → Int
  pc : Int
  h : Bool

/-- Each register's number fits, and so does the place. -/
structure Cor.Fits (c : Cor) : Prop where
  r0 : ∀ i, i < 8 → 0 ≤ c.r i
  r1 : ∀ i, i < 8 → c.r i ≤ 4294967295

def Cor.set (c : Cor) (n : Nat) (v : Int) : Cor := ⟨fun i => if i = n then v else c.r i, c.pc, c.h⟩
def Cor.go (c : Cor) (p : Int) : Cor := ⟨c.r, p, c.h⟩
def Cor.stop (c : Cor) : Cor := ⟨c.r, c.pc, true⟩

structure Wnt where
  kind : Int
  at_ : Int
  val : Int
  old : Int

def coreB (l : List I5) (c : Cor) : Bool := decide (0 ≤ c.pc) && (decide (c.pc < l.length) && rightB l)
/-- The instruction at the core's place. -/
def insAt (l : List I5) (c : Cor) : I5 := at5 l c.pc.toNat
def placeN (n words : Int) : Int := if words < 1 then 0 else n % words
def wantX (x : I5) (c : Cor) (words : Int) : Wnt :=
  if x.op = 9 then ⟨1, placeN (c.r x.b.toNat) words, 0, 0⟩
  else if x.op = 10 then ⟨2, placeN (c.r x.b.toNat) words, c.r x.a.toNat, 0⟩
  else if x.op = 11 then ⟨3, placeN (c.r x.b.toNat) words, c.r x.c.toNat, c.r x.a.toNat⟩
  else if x.op = 15 then ⟨4, 0, c.r x.a.toNat, 0⟩
  else if x.op = 16 then ⟨5, 0, 0, 0⟩
  else ⟨0, 0, 0, 0⟩
def wantOf (l : List I5) (c : Cor) (words : Int) : Wnt := if c.h || !coreB l c then ⟨5, 0, 0, 0⟩ else wantX (insAt l c) c words
def nextX (x : I5) (c : Cor) : Int := if x.op = 13 ∨ x.op = 14 ∧ c.r x.a.toNat = 0 then x.k else c.pc + 1
def madeV (x : I5) (c : Cor) (was : Int) : Int := if x.op = 1 then x.k else if x.op = 9 ∨ x.op = 11 then was else doV x.op (c.r x.b.toNat) (c.r x.c.toNat)
def madeOk (x : I5) : Bool := decide (1 ≤ x.op ∧ x.op ≤ 9 ∨ x.op = 11)
def doneX (x : I5) (c : Cor) (was : Int) : Cor :=
  if x.op = 16 then c.stop else if madeOk x then (c.go (nextX x c)).set x.a.toNat (madeV x c was) else c.go (nextX x c)
def doneOf (l : List I5) (c : Cor) (was : Int) : Cor := if c.h || !coreB l c then c else doneX (insAt l c) c was

/-- All that the walks need of an instruction of a program that may be: its registers are there. -/
theorem may_regs {x : I5} {n : Int} (h : mayB x n = true) : 0 ≤ x.a ∧ x.a < 8 ∧ 0 ≤ x.b ∧ x.b < 8 ∧ 0 ≤ x.c ∧ x.c < 8 ∧ 1 ≤ x.op ∧ x.op ≤ 16 := by
  unfold mayB at h
  simp only [Bool.and_eq_true] at h
  obtain ⟨h0, h1, h2, h3, _⟩ := h
  have ho := of_decide_eq_true h0
  have reg : ∀ (r : Int) (u : Bool), regB r u = true → 0 ≤ r ∧ r < 8 := fun r u hr => by
    unfold regB at hr
    cases u with
    | true => rw [if_pos rfl] at hr; exact of_decide_eq_true hr
    | false => rw [if_neg (by decide)] at hr; have := of_decide_eq_true hr; omega
  have a := reg _ _ h1
  have b := reg _ _ h2
  have c := reg _ _ h3
  omega

theorem core_has {l : List I5} {c : Cor} (h : coreB l c = true) : 0 ≤ c.pc ∧ c.pc < l.length ∧ rightB l = true := by
  unfold coreB at h
  simp only [Bool.and_eq_true, decide_eq_true_eq] at h
  exact h
theorem core_ins {l : List I5} {c : Cor} (h : coreB l c = true) : mayB (insAt l c) l.length = true := by
  obtain ⟨h0, h1, h2⟩ := core_has h
  exact (right_has h2).2.2.2 c.pc.toNat (by omega)
end Go.Proofs.Ytekiialhljfglaa
/- What the functions of layer 1 answer, one contract each: word.Do by operation, word.Place, word.Bytes, word.Of, and the fixed answers that each statement begins with; no condition but that the numbers fit their kinds. -/
namespace Go.Proofs.Ytekiialhljfglaa
open Go.ChangeShapes Go.WideShapes Go.ChangeAt Go.RowKit

theorem do_add (b c : Int) (w : World) : Calls Try.prog 56 #[.int .i64 2, .int .u32 b, .int .u32 c] w fun e w' => e = .returned (.tuple #[.int .u32 (uadd b c), .bool true]) ∧ w = w' := by
  go_enter Try.func56, Try.ntmps56
  go_wp2
  go_ret2
  exact ⟨rfl, rfl⟩
theorem do_sub (b c : Int) (w : World) : Calls Try.prog 56 #[.int .i64 3, .int .u32 b, .int .u32 c] w fun e w' => e = .returned (.tuple #[.int .u32 (usub b c), .bool true]) ∧ w = w' := by
  go_enter Try.func56, Try.ntmps56
  go_wp2
  go_ret2
  exact ⟨rfl, rfl⟩
theorem do_mul (b c : Int) (w : World) : Calls Try.prog 56 #[.int .i64 4, .int .u32 b, .int .u32 c] w fun e w' => e = .returned (.tuple #[.int .u32 (umul b c), .bool true]) ∧ w = w' := by
  go_enter Try.func56, Try.ntmps56
  go_wp2
  go_ret2
  exact ⟨rfl, rfl⟩
theorem do_and (b c : Int) (w : World) : Calls Try.prog 56 #[.int .i64 5, .int .u32 b, .int .u32 c] w fun e w' => e = .returned (.tuple #[.int .u32 (uand b c), .bool true]) ∧ w = w' := by
  go_enter Try.func56, Try.ntmps56
  go_wp2
  go_ret2
  exact ⟨rfl, rfl⟩
theorem do_xor (b c : Int) (w : World) : Calls Try.prog 56 #[.int .i64 6, .int .u32 b, .int .u32 c] w fun e w' => e = .returned (.tuple #[.int .u32 (uxor b c), .bool true]) ∧ w = w' := by
  go_enter Try.func56, Try.ntmps56
  go_wp2
  go_ret2
  exact ⟨rfl, rfl⟩
theorem do_eq (b c : Int) (w : World) : Calls Try.prog 56 #[.int .i64 7, .int .u32 b, .int .u32 c] w fun e w' => e = .returned (.tuple #[.int .u32 (ueq b c), .bool true]) ∧ w = w' := by
  by_cases h : b = c
  · have e : ueq b c = 1 := by unfold ueq; rw [if_pos h]
    rw [e]; clear e
    have h' : (b == c) = true := by simpa using h
    clear h
    go_enter Try.func56, Try.ntmps56
    go_wp2
    go_ret2
    exact ⟨rfl, rfl⟩
  · have e : ueq b c = 0 := by unfold ueq; rw [if_neg h]
    rw [e]; clear e
    have h' : (b == c) = false := by simpa using h
    clear h
    go_enter Try.func56, Try.ntmps56
    go_wp2
    go_ret2
    exact ⟨rfl, rfl⟩
theorem do_lt (b c : Int) (w : World) : Calls Try.prog 56 #[.int .i64 8, .int .u32 b, .int .u32 c] w fun e w' => e = .returned (.tuple #[.int .u32 (ult b c), .bool true]) ∧ w = w' := by
  by_cases h : b < c
  · have e : ult b c = 1 := by unfold ult; rw [if_pos h]
    rw [e]; clear e
    go_enter Try.func56, Try.ntmps56
    go_wp2
    go_ret2
    exact ⟨rfl, rfl⟩
  · have e : ult b c = 0 := by unfold ult; rw [if_neg h]
    rw [e]; clear e
    go_enter Try.func56, Try.ntmps56
    go_wp2
    go_ret2
    exact ⟨rfl, rfl⟩

theorem place_pos (n k : Int) (w : World) (h0 : 0 ≤ n) (h1 : n ≤ 4294967295) (h2 : 1 ≤ k) (h3 : k ≤ 9223372036854775807) : Calls Try.prog 39 #[.int .u32 n, .int .i64 k] w fun e w' => e = .returned (.int .i64 (n % k)) ∧ w = w' := by
  have h4 : 0 ≤ n % k := Int.emod_nonneg _ (by omega)
  have h5 : n % k < k := Int.emod_lt_of_pos _ (by omega)
  go_enter Try.func39, Try.ntmps39
  go_wp2
  go_ret
  exact ⟨rfl, rfl⟩
theorem place_none (n k : Int) (w : World) (h2 : k < 1) : Calls Try.prog 39 #[.int .u32 n, .int .i64 k] w fun e w' => e = .returned (.int .i64 0) ∧ w = w' := by
  go_enter Try.func39, Try.ntmps39
  go_wp2
  go_ret
  exact ⟨rfl, rfl⟩

def row4 (z0 z1 z2 z3 : Int) : Array Value := #[.int .u8 z0, .int .u8 z1, .int .u8 z2, .int .u8 z3]

theorem size5 : (Try.prog.info? 5).map (·.size) = some 1 := by kernel_rfl

theorem fill4_eq (zs : List Int) (m : Nat) (hm : m = min zs.length 4) :
    ((#[.int .u8 0, .int .u8 0, .int .u8 0, .int .u8 0] : Array Value).toList.take 0 ++ ((zs.take m).map (Value.int .u8)) ++ (#[.int .u8 0, .int .u8 0, .int .u8 0, .int .u8 0] : Array Value).toList.drop (0 + m)).toArray = row4 (zs.getD 0 0) (zs.getD 1 0) (zs.getD 2 0) (zs.getD 3 0) := by
  subst hm
  match zs with
  | [] => rfl
  | [_] => rfl
  | [_, _] => rfl
  | [_, _, _] => rfl
  | _ :: _ :: _ :: _ :: r =>
    have e : min (r.length + 1 + 1 + 1 + 1) 4 = 4 := by omega
    simp [row4, e]

theorem add_fixed : uadd 4294967295 3 = 2 := by decide
theorem of_fixed : of4 0 0 1 2 = 258 := by decide

end Go.Proofs.Ytekiialhljfglaa
/- What the document's own answers of layer 1 (backstayref01) are, one contract each: bits, Do by operation, Bytes, Of; and word.Do for whatever operation; no condition but that the numbers fit their kinds. -/
namespace Go.Proofs.Ytekiialhljfglaa
set_option linter.unusedVariables false
open Go.ChangeShapes Go.WideShapes Go.ChangeAt Go.RowKit

theorem ret_int {k : IntKind} {a b : Int} (h : a = b) : Ending.returned (.int k a) = .returned (.int k b) := by rw [h]

theorem bool_of {n : Nat} (h : n % 2 = 1) : ((n : Int) % 2 == 1) = true := by simp; omega
theorem bool_no {n : Nat} (h : ¬ n % 2 = 1) : ((n : Int) % 2 == 1) = false := by simp; omega

theorem val_half (B b k : Nat) (h : B / 2 = b / 2 ^ (k + 1)) : Value.int .u32 ((B : Int) / 2) = .int .u32 (b / 2 ^ (k + 1) : Nat) := by
  rw [← h]; congr 1
theorem val_eq {x y : Int} (h : x = y) : Value.int .u32 x = .int .u32 y := by rw [h]

set_option maxHeartbeats 4000000 in
theorem bits_any (same : Bool) (b c : Nat) (w : World) (hb : b < 4294967296) (hc : c < 4294967296) :
    Calls Try.prog 50 #[.int .u32 b, .int .u32 c, .bool same] w fun e w' => e = .returned (.int .u32 (bitN same b c : Nat)) ∧ w = w' := by
  have hN := bitN_lt same b c hb hc
  obtain ⟨X, eX⟩ : ∃ X, X = bitN same b c := ⟨_, rfl⟩
  have HX := Lib.hid eX
  rw [← eX] at hN ⊢
  clear eX
  go_enter Try.func50, Try.ntmps50
  go_wp2
  go_loop [0, 1, 7, 8, 9] (fun tb tc n wt i => ∃ k : Nat, k ≤ 32 ∧ tb = .int .u32 (b / 2 ^ k : Nat) ∧ tc = .int .u32 (c / 2 ^ k : Nat) ∧ n = .int .u32 (X % 2 ^ k : Nat) ∧ (∃ W : Nat, W ≤ 2147483648 ∧ (k < 32 → W = 2 ^ k) ∧ wt = .int .u32 W) ∧ i = .int .i64 k) (fun _ _ _ _ i => 32 - (intOf i).toNat)
  case atStart => exact ⟨0, by omega, by simp, by simp, by simp [Nat.mod_one], ⟨1, by omega, by simp, rfl⟩, rfl⟩
  case round =>
    obtain ⟨k, hk, rfl, rfl, rfl, ⟨W, hW, eW, rfl⟩, rfl⟩ := hrel
    by_cases hlt : k < 32
    · obtain rfl := eW hlt
      obtain ⟨B, C, N, P, eB, eC, eN, eP, h1, h2, h3, h4, h5, h6, q1, q2, q3, q4⟩ := bit_round same b c X k hb hc HX.out hlt
      rw [eB, eC, eN, eP]
      have Q1 := Lib.hid q1
      have Q2 := Lib.hid q2
      have Q3 := Lib.hid q3
      have Q4 := Lib.hid q4
      clear eB eC eN eP eW hW q1 q2 q3 q4 HX hb hc hN
      rcases Decidable.em (B % 2 = 1) with hx | hx
      all_goals rcases Decidable.em (C % 2 = 1) with hy | hy
      all_goals rcases (show k < 31 ∨ k = 31 by omega) with hm | hm
      all_goals cases same
      all_goals
        first | have tx := bool_of hx | have tx := bool_no hx
        first | have ty := bool_of hy | have ty := bool_no hy
        first | (have p30 := h5 hm; have HM := Lib.hid hm; clear hm) | (have HM := Lib.hid (And.intro hm (h6 hm)); clear hm)
        have hs := Q3.out
        simp only [hx, hy, bitT, decide_true, decide_false, Bool.and_true, Bool.and_false, if_true, if_false, bne_self_eq_false, Bool.false_eq_true, Bool.true_bne, Bool.false_bne, Bool.not_true, Bool.not_false, Nat.add_zero, Bool.and_self] at hs
        have HS := Lib.hid hs
        clear hs hx hy h5 h6 Q3
        go_wp2
        go_round
        case rel =>
          refine ⟨k + 1, by omega, val_eq (by rw [Q1.out]; rfl), val_eq (by rw [Q2.out]; rfl), val_eq (by rw [HS.out]; try rfl), ?_, by go_num⟩
          first
            | (have hk31 : k < 31 := HM.out
               exact ⟨2 ^ (k + 1), by rw [Q4.out]; omega, fun _ => rfl, val_eq (by rw [Q4.out]; omega)⟩)
            | (obtain ⟨h, h'⟩ := HM.out
               exact ⟨0, by omega, fun h => by omega, val_eq (by rw [h']; rfl)⟩)
        case measure => simp [intOf]; omega
    · have e32 : k = 32 := by omega
      subst e32
      clear eW
      go_wp2
      go_ret
      exact ⟨ret_int (by omega), rfl⟩
end Go.Proofs.Ytekiialhljfglaa
/- word.Do and the document's own Do, for whatever operation and numbers, answer one and the same; the document's Bytes and Of; no condition but that the numbers fit their kinds. -/
namespace Go.Proofs.Ytekiialhljfglaa
set_option linter.unusedVariables false
open Go.ChangeShapes Go.WideShapes Go.ChangeAt Go.RowKit

theorem do_other (op b c : Int) (w : World) (h2 : (op == 2) = false) (h3 : (op == 3) = false) (h4 : (op == 4) = false) (h5 : (op == 5) = false) (h6 : (op == 6) = false) (h7 : (op == 7) = false) (h8 : (op == 8) = false) :
    Calls Try.prog 56 #[.int .i64 op, .int .u32 b, .int .u32 c] w fun e w' => e = .returned (.tuple #[.int .u32 0, .bool false]) ∧ w = w' := by
  go_enter Try.func56, Try.ntmps56
  go_wp2
  go_ret2
  exact ⟨rfl, rfl⟩

theorem ret_pair {a b : Int} {x y : Bool} (h : a = b) (k : x = y) : Ending.returned (.tuple #[.int .u32 a, .bool x]) = .returned (.tuple #[.int .u32 b, .bool y]) := by rw [h, k]

theorem do_any (op b c : Int) (w : World) : Calls Try.prog 56 #[.int .i64 op, .int .u32 b, .int .u32 c] w fun e w' => e = .returned (.tuple #[.int .u32 (doV op b c), .bool (doOk op)]) ∧ w = w' := by
  by_cases h2 : op = 2
  · subst h2; exact (do_add b c w).mono fun e w' h => ⟨h.1.trans (ret_pair rfl rfl), h.2⟩
  by_cases h3 : op = 3
  · subst h3; exact (do_sub b c w).mono fun e w' h => ⟨h.1.trans (ret_pair rfl rfl), h.2⟩
  by_cases h4 : op = 4
  · subst h4; exact (do_mul b c w).mono fun e w' h => ⟨h.1.trans (ret_pair rfl rfl), h.2⟩
  by_cases h5 : op = 5
  · subst h5; exact (do_and b c w).mono fun e w' h => ⟨h.1.trans (ret_pair rfl rfl), h.2⟩
  by_cases h6 : op = 6
  · subst h6; exact (do_xor b c w).mono fun e w' h => ⟨h.1.trans (ret_pair rfl rfl), h.2⟩
  by_cases h7 : op = 7
  · subst h7; exact (do_eq b c w).mono fun e w' h => ⟨h.1.trans (ret_pair rfl rfl), h.2⟩
  by_cases h8 : op = 8
  · subst h8; exact (do_lt b c w).mono fun e w' h => ⟨h.1.trans (ret_pair rfl rfl), h.2⟩
  refine (do_other op b c w (by simpa using h2) (by simpa using h3) (by simpa using h4) (by simpa using h5) (by simpa using h6) (by simpa using h7) (by simpa using h8)).mono fun e w' h => ⟨h.1.trans (ret_pair ?_ ?_), h.2⟩
  · unfold doV; rw [if_neg h2, if_neg h3, if_neg h4, if_neg h5, if_neg h6, if_neg h7, if_neg h8]
  · unfold doOk; symm; apply decide_eq_false; omega

theorem rdo_add (b c : Int) (w : World) (hb : 0 ≤ b ∧ b ≤ 4294967295) (hc : 0 ≤ c ∧ c ≤ 4294967295) : Calls Try.prog 44 #[.int .i64 2, .int .u32 b, .int .u32 c] w fun e w' => e = .returned (.tuple #[.int .u32 (uadd b c), .bool true]) ∧ w = w' := by
  have e : uadd b c = (b + c) % 4294967296 := wrap_u32 _
  rw [e]; clear e
  go_enter Try.func44, Try.ntmps44
  go_wp2
  go_ret2
  exact ⟨rfl, rfl⟩
theorem rdo_sub (b c : Int) (w : World) (hb : 0 ≤ b ∧ b ≤ 4294967295) (hc : 0 ≤ c ∧ c ≤ 4294967295) : Calls Try.prog 44 #[.int .i64 3, .int .u32 b, .int .u32 c] w fun e w' => e = .returned (.tuple #[.int .u32 (usub b c), .bool true]) ∧ w = w' := by
  have e : usub b c = (b + 4294967296 - c) % 4294967296 := by unfold usub; rw [wrap_u32]; omega
  rw [e]; clear e
  go_enter Try.func44, Try.ntmps44
  go_wp2
  go_ret2
  exact ⟨rfl, rfl⟩
theorem rdo_mul (b c : Int) (w : World) (hb : 0 ≤ b ∧ b ≤ 4294967295) (hc : 0 ≤ c ∧ c ≤ 4294967295) : Calls Try.prog 44 #[.int .i64 4, .int .u32 b, .int .u32 c] w fun e w' => e = .returned (.tuple #[.int .u32 (umul b c), .bool true]) ∧ w = w' := by
  have e : umul b c = b * c % 4294967296 := wrap_u32 _
  have m0 : 0 ≤ b * c := Int.mul_nonneg hb.1 hc.1
  have m1 : b * c ≤ 18446744065119617025 := by
    have := Int.mul_le_mul hb.2 hc.2 hc.1 (by omega : (0 : Int) ≤ 4294967295)
    omega
  rw [e]; clear e
  go_enter Try.func44, Try.ntmps44
  go_wp2
  go_ret2
  exact ⟨rfl, rfl⟩
theorem rdo_and (b c : Int) (w : World) (hb : 0 ≤ b ∧ b ≤ 4294967295) (hc : 0 ≤ c ∧ c ≤ 4294967295) : Calls Try.prog 44 #[.int .i64 5, .int .u32 b, .int .u32 c] w fun e w' => e = .returned (.tuple #[.int .u32 (uand b c), .bool true]) ∧ w = w' := by
  obtain ⟨n, rfl⟩ := Int.eq_ofNat_of_zero_le hb.1
  obtain ⟨m, rfl⟩ := Int.eq_ofNat_of_zero_le hc.1
  rw [and_of n m (by omega) (by omega)]
  go_enter Try.func44, Try.ntmps44
  go_wp2_with fail
  refine (bits_any true n m _ (by omega) (by omega)).mono ?_
  rintro e w' ⟨rfl, rfl⟩
  go_wp2
  go_ret2
  exact ⟨rfl, rfl⟩
theorem rdo_xor (b c : Int) (w : World) (hb : 0 ≤ b ∧ b ≤ 4294967295) (hc : 0 ≤ c ∧ c ≤ 4294967295) : Calls Try.prog 44 #[.int .i64 6, .int .u32 b, .int .u32 c] w fun e w' => e = .returned (.tuple #[.int .u32 (uxor b c), .bool true]) ∧ w = w' := by
  obtain ⟨n, rfl⟩ := Int.eq_ofNat_of_zero_le hb.1
  obtain ⟨m, rfl⟩ := Int.eq_ofNat_of_zero_le hc.1
  rw [xor_of n m (by omega) (by omega)]
  go_enter Try.func44, Try.ntmps44
  go_wp2_with fail
  refine (bits_any false n m _ (by omega) (by omega)).mono ?_
  rintro e w' ⟨rfl, rfl⟩
  go_wp2
  go_ret2
  exact ⟨rfl, rfl⟩
theorem rdo_eq (b c : Int) (w : World) (hb : 0 ≤ b ∧ b ≤ 4294967295) (hc : 0 ≤ c ∧ c ≤ 4294967295) : Calls Try.prog 44 #[.int .i64 7, .int .u32 b, .int .u32 c] w fun e w' => e = .returned (.tuple #[.int .u32 (ueq b c), .bool true]) ∧ w = w' := by
  by_cases h : b = c
  · have e : ueq b c = 1 := by unfold ueq; rw [if_pos h]
    rw [e]; clear e
    have h' : (b == c) = true := by simpa using h
    clear h
    go_enter Try.func44, Try.ntmps44
    go_wp2
    go_ret2
    exact ⟨rfl, rfl⟩
  · have e : ueq b c = 0 := by unfold ueq; rw [if_neg h]
    rw [e]; clear e
    have h' : (b == c) = false := by simpa using h
    clear h
    go_enter Try.func44, Try.ntmps44
    go_wp2
    go_ret2
    exact ⟨rfl, rfl⟩
theorem rdo_lt (b c : Int) (w : World) (hb : 0 ≤ b ∧ b ≤ 4294967295) (hc : 0 ≤ c ∧ c ≤ 4294967295) : Calls Try.prog 44 #[.int .i64 8, .int .u32 b, .int .u32 c] w fun e w' => e = .returned (.tuple #[.int .u32 (ult b c), .bool true]) ∧ w = w' := by
  by_cases h : b < c
  · have e : ult b c = 1 := by unfold ult; rw [if_pos h]
    rw [e]; clear e
    go_enter Try.func44, Try.ntmps44
    go_wp2
    go_ret2
    exact ⟨rfl, rfl⟩
  · have e : ult b c = 0 := by unfold ult; rw [if_neg h]
    rw [e]; clear e
    go_enter Try.func44, Try.ntmps44
    go_wp2
    go_ret2
    exact ⟨rfl, rfl⟩
theorem rdo_other (b c : Int) (w : World) (hb : 0 ≤ b ∧ b ≤ 4294967295) (hc : 0 ≤ c ∧ c ≤ 4294967295) (op : Int) (h2 : (op == 2) = false) (h3 : (op == 3) = false) (h4 : (op == 4) = false) (h5 : (op == 5) = false) (h6 : (op == 6) = false) (h7 : (op == 7) = false) (h8 : (op == 8) = false) :
    Calls Try.prog 44 #[.int .i64 op, .int .u32 b, .int .u32 c] w fun e w' => e = .returned (.tuple #[.int .u32 0, .bool false]) ∧ w = w' := by
  go_enter Try.func44, Try.ntmps44
  go_wp2
  go_ret2
  exact ⟨rfl, rfl⟩

theorem rdo_any (b c : Int) (w : World) (hb : 0 ≤ b ∧ b ≤ 4294967295) (hc : 0 ≤ c ∧ c ≤ 4294967295) (op : Int) : Calls Try.prog 44 #[.int .i64 op, .int .u32 b, .int .u32 c] w fun e w' => e = .returned (.tuple #[.int .u32 (doV op b c), .bool (doOk op)]) ∧ w = w' := by
  by_cases h2 : op = 2
  · subst h2; exact (rdo_add b c w hb hc).mono fun e w' h => ⟨h.1.trans (ret_pair rfl rfl), h.2⟩
  by_cases h3 : op = 3
  · subst h3; exact (rdo_sub b c w hb hc).mono fun e w' h => ⟨h.1.trans (ret_pair rfl rfl), h.2⟩
  by_cases h4 : op = 4
  · subst h4; exact (rdo_mul b c w hb hc).mono fun e w' h => ⟨h.1.trans (ret_pair rfl rfl), h.2⟩
  by_cases h5 : op = 5
  · subst h5; exact (rdo_and b c w hb hc).mono fun e w' h => ⟨h.1.trans (ret_pair rfl rfl), h.2⟩
  by_cases h6 : op = 6
  · subst h6; exact (rdo_xor b c w hb hc).mono fun e w' h => ⟨h.1.trans (ret_pair rfl rfl), h.2⟩
  by_cases h7 : op = 7
  · subst h7; exact (rdo_eq b c w hb hc).mono fun e w' h => ⟨h.1.trans (ret_pair rfl rfl), h.2⟩
  by_cases h8 : op = 8
  · subst h8; exact (rdo_lt b c w hb hc).mono fun e w' h => ⟨h.1.trans (ret_pair rfl rfl), h.2⟩
  refine (rdo_other b c w hb hc op (by simpa using h2) (by simpa using h3) (by simpa using h4) (by simpa using h5) (by simpa using h6) (by simpa using h7) (by simpa using h8)).mono fun e w' h => ⟨h.1.trans (ret_pair ?_ ?_), h.2⟩
  · unfold doV; rw [if_neg h2, if_neg h3, if_neg h4, if_neg h5, if_neg h6, if_neg h7, if_neg h8]
  · unfold doOk; symm; apply decide_eq_false; omega

def ofk (zs : List Int) : Nat → Int
  | 0 => 0
  | k + 1 => ofk zs k * 256 + zs.getD k 0
theorem ofk_four (zs : List Int) : ofk zs 4 = of4 (zs.getD 0 0) (zs.getD 1 0) (zs.getD 2 0) (zs.getD 3 0) := by
  simp [ofk, of4]
theorem ofk_bd (zs : List Int) (hb : ∀ k, 0 ≤ zs.getD k 0 ∧ zs.getD k 0 ≤ 255) (k : Nat) : 0 ≤ ofk zs k ∧ ofk zs k < 256 ^ k := by
  induction k with
  | zero => exact ⟨Int.le_refl 0, show (0 : Int) < 256 ^ 0 by decide⟩
  | succ k ih =>
    have := hb k
    have e : (256 : Int) ^ (k + 1) = 256 ^ k * 256 := Int.pow_succ 256 k
    rw [e]
    show 0 ≤ ofk zs k * 256 + zs.getD k 0 ∧ ofk zs k * 256 + zs.getD k 0 < 256 ^ k * 256
    omega
theorem ofk_small (zs : List Int) (hb : ∀ k, 0 ≤ zs.getD k 0 ∧ zs.getD k 0 ≤ 255) (k : Nat) (hk : k < 4) : 0 ≤ ofk zs k ∧ ofk zs k ≤ 16777215 := by
  have h := ofk_bd zs hb k
  have h' : k = 0 ∨ k = 1 ∨ k = 2 ∨ k = 3 := by omega
  rcases h' with rfl | rfl | rfl | rfl
  · have : (256 : Int) ^ 0 = 1 := by decide
    omega
  · have : (256 : Int) ^ 1 = 256 := by decide
    omega
  · have : (256 : Int) ^ 2 = 65536 := by decide
    omega
  · have : (256 : Int) ^ 3 = 16777216 := by decide
    omega

end Go.Proofs.Ytekiialhljfglaa
/- What word.Place, core.Right, core.next and core.made answer, for every program, core and instruction that may be; they write nothing that was there. -/
namespace Go.Proofs.Ytekiialhljfglaa
set_option linter.unusedVariables false
open Go.ChangeShapes Go.WideShapes Go.ChangeAt Go.RowKit

def Cor.row (c : Cor) : Array Value := #[.int .u32 (c.r 0), .int .u32 (c.r 1), .int .u32 (c.r 2), .int .u32 (c.r 3), .int .u32 (c.r 4), .int .u32 (c.r 5), .int .u32 (c.r 6), .int .u32 (c.r 7), .int .i64 c.pc, .bool c.h]
def Wnt.row (x : Wnt) : Array Value := #[.int .i64 x.kind, .int .i64 x.at_, .int .u32 x.val, .int .u32 x.old]

theorem place_any (n k : Int) (w : World) (h0 : 0 ≤ n) (h1 : n ≤ 4294967295) (h3 : k ≤ 9223372036854775807) : Calls Try.prog 39 #[.int .u32 n, .int .i64 k] w fun e w' => e = .returned (.int .i64 (placeN n k)) ∧ w = w' := by
  unfold placeN
  by_cases h : k < 1
  · rw [if_pos h]; exact place_none n k w h
  · rw [if_neg h]; exact place_pos n k w h0 h1 (by omega) h3

theorem coreRight_low (p : Option Addr) (len cap : Nat) (r0 r1 r2 r3 r4 r5 r6 r7 pc : Int) (h : Bool) (w : World) (hpc : pc < 0 ∨ (len : Int) ≤ pc) :
    Calls Try.prog 31 #[.slice p len cap, .agg #[.int .u32 r0, .int .u32 r1, .int .u32 r2, .int .u32 r3, .int .u32 r4, .int .u32 r5, .int .u32 r6, .int .u32 r7, .int .i64 pc, .bool h]] w fun e w' => e = .returned (.bool false) ∧ Below w.heap.size w w' := by
  by_cases h0 : pc < 0
  · have d1 : decide (0 ≤ pc) = false := decide_eq_false (by omega)
    clear hpc h0
    go_enter Try.func31, Try.ntmps31
    go_wp2
    go_ret
    exact ⟨rfl, (Below.refl _ _).alloc (Nat.le_refl _) _⟩
  · have d1 : decide (0 ≤ pc) = true := decide_eq_true (by omega)
    have d2 : decide (pc < (len : Int)) = false := decide_eq_false (by omega)
    clear hpc h0
    go_enter Try.func31, Try.ntmps31
    go_wp2
    go_ret
    exact ⟨rfl, (Below.refl _ _).alloc (Nat.le_refl _) _⟩

theorem coreRight_in (p : Option Addr) (len cap : Nat) (l : List I5) (r0 r1 r2 r3 r4 r5 r6 r7 pc : Int) (h : Bool) (v : Bool) (w : World) (hl : l.length = len) (hv : rightB l = v) (hp : Prg w p l) (h0 : 0 ≤ pc) (h1 : pc < (len : Int)) :
    Calls Try.prog 31 #[.slice p len cap, .agg #[.int .u32 r0, .int .u32 r1, .int .u32 r2, .int .u32 r3, .int .u32 r4, .int .u32 r5, .int .u32 r6, .int .u32 r7, .int .i64 pc, .bool h]] w fun e w' => e = .returned (.bool v) ∧ Below w.heap.size w w' := by
  have d1 : decide (0 ≤ pc) = true := decide_eq_true (by omega)
  have d2 : decide (pc < (len : Int)) = true := decide_eq_true (by omega)
  have HL := Lib.hid hl
  have HV := Lib.hid hv
  have HP := Lib.hid hp
  clear hl hv hp h0 h1
  go_enter Try.func31, Try.ntmps31
  go_wp2_with fail
  have hb : Below w.heap.size w (w.alloc (.cells #[.int .u32 r0, .int .u32 r1, .int .u32 r2, .int .u32 r3, .int .u32 r4, .int .u32 r5, .int .u32 r6, .int .u32 r7, .int .i64 pc, .bool h] 55)) := (Below.refl _ _).alloc (Nat.le_refl _) _
  have hr := right_any p cap l _ (HP.out.below hb)
  rw [HL.out, HV.out] at hr
  have HB := Lib.hid hb
  clear hb
  refine hr.mono ?_
  clear hr
  rintro e w1 ⟨rfl, hb1⟩
  have HB1 := Lib.hid (HB.out.trans (hb1.mono HB.out.size))
  clear hb1 HB
  go_wp2
  go_ret
  exact ⟨rfl, HB1.out⟩

theorem coreRight_any (p : Option Addr) (cap : Nat) (l : List I5) (c : Cor) (w : World) (hp : Prg w p l) :
    Calls Try.prog 31 #[.slice p l.length cap, .agg c.row] w fun e w' => e = .returned (.bool (coreB l c)) ∧ Below w.heap.size w w' := by
  by_cases h : 0 ≤ c.pc ∧ c.pc < l.length
  · have e : coreB l c = rightB l := by unfold coreB; rw [decide_eq_true h.1, decide_eq_true h.2]; rfl
    rw [e]
    exact coreRight_in p _ cap l _ _ _ _ _ _ _ _ _ _ _ w rfl rfl hp h.1 h.2
  · have e : coreB l c = false := by
      cases hc : coreB l c with
      | false => rfl
      | true => exact absurd ⟨(core_has hc).1, (core_has hc).2.1⟩ h
    rw [e]
    exact coreRight_low p _ cap _ _ _ _ _ _ _ _ _ _ w (by omega)
end Go.Proofs.Ytekiialhljfglaa
/- What an argument that is a core, or its registers alone, reads as: numbers in cells; no condition. -/
namespace Go.Proofs.Ytekiialhljfglaa
open Go.ChangeShapes Go.WideShapes Go.ChangeAt Go.RowKit Go.Deep

theorem cells_arr : Try.prog.cellsOf 53 = 8 := by kernel_rfl
theorem cells_core : Try.prog.cellsOf 55 = 10 := by kernel_rfl
theorem cells_num : Try.prog.cellsOf 28 = 1 := by kernel_rfl
theorem cells_int : Try.prog.cellsOf 3 = 1 := by kernel_rfl
theorem cells_bool : Try.prog.cellsOf 4 = 1 := by kernel_rfl

section
variable {H : Type} {enc : TypeId × Value → H} {w : World} {base : Nat} {spare : Nat → Bool} {held : Bool}

/-- Eight numbers. -/
theorem regs_of_cells {fuel : Nat} {cs : List Value} {x : DataW H × List MemPlace} (h : DataW.trod enc Try.prog w base spare held fuel 53 cs = some x) :
    ∃ r : Nat → Int, cs = [.int .u32 (r 0), .int .u32 (r 1), .int .u32 (r 2), .int .u32 (r 3), .int .u32 (r 4), .int .u32 (r 5), .int .u32 (r 6), .int .u32 (r 7)] ∧ (∀ i, i < 8 → 0 ≤ r i) ∧ ∀ i, i < 8 → r i ≤ 4294967295 := by
  obtain ⟨xs, m, _, _, hlen, hxl, hf⟩ := DataW.trod_array Try.underlying53 h
  rw [cells_arr] at hlen
  have hex : ∀ i, i < 8 → ∃ n : Int, cs[i]? = some (.int .u32 n) ∧ 0 ≤ n ∧ n ≤ 4294967295 := fun i hi => by
    have hi' := hf i hi
    obtain ⟨y, hy⟩ : ∃ y, xs[i]? = some y := ⟨_, List.getElem?_eq_getElem (by omega)⟩
    rw [hy, cells_num] at hi'
    obtain ⟨n, hn, _, wf⟩ := DataW.trod_int Try.underlying28 hi'
    have b := bounds_u32 wf
    refine ⟨n, ?_, b.1, b.2⟩
    have e : ((cs.drop (i * 1)).take 1)[0]? = some (.int .u32 n) := by rw [hn]; rfl
    rw [List.getElem?_take_of_lt (by omega), List.getElem?_drop] at e
    simpa using e
  obtain ⟨r, hr⟩ := choose_lt hex
  refine ⟨r, ?_, fun i hi => (hr i hi).2.1, fun i hi => (hr i hi).2.2⟩
  clear hex hf h
  match cs, hlen, hr with
  | [v0, v1, v2, v3, v4, v5, v6, v7], _, hr =>
    have q0 : v0 = _ := Option.some.inj (hr 0 (by omega)).1
    have q1 : v1 = _ := Option.some.inj (hr 1 (by omega)).1
    have q2 : v2 = _ := Option.some.inj (hr 2 (by omega)).1
    have q3 : v3 = _ := Option.some.inj (hr 3 (by omega)).1
    have q4 : v4 = _ := Option.some.inj (hr 4 (by omega)).1
    have q5 : v5 = _ := Option.some.inj (hr 5 (by omega)).1
    have q6 : v6 = _ := Option.some.inj (hr 6 (by omega)).1
    have q7 : v7 = _ := Option.some.inj (hr 7 (by omega)).1
    rw [q0, q1, q2, q3, q4, q5, q6, q7]

/-- The ten cells of a core. -/
theorem core_of_cells {fuel : Nat} {cs : List Value} {x : DataW H × List MemPlace} (h : DataW.trod enc Try.prog w base spare held fuel 55 cs = some x) :
    ∃ c : Cor, cs = c.row.toList ∧ c.Fits := by
  obtain ⟨xs, n, _, _, hlen, hxl, hf⟩ := DataW.trod_struct Try.underlying55 h
  rw [cells_core] at hlen
  match cs, hlen with
  | [v0, v1, v2, v3, v4, v5, v6, v7, v8, v9], _ =>
    match xs, hxl with
    | [y0, y1, y2], _ =>
      have e0 : DataW.trod enc Try.prog w base spare held n 53 [v0, v1, v2, v3, v4, v5, v6, v7] = some y0 := by simpa [cells_arr] using hf 0 _ rfl
      have e1 : DataW.trod enc Try.prog w base spare held n 3 [v8] = some y1 := by simpa [cells_int] using hf 1 _ rfl
      have e2 : DataW.trod enc Try.prog w base spare held n 4 [v9] = some y2 := by simpa [cells_bool] using hf 2 _ rfl
      obtain ⟨r, hr, h0, h1⟩ := regs_of_cells e0
      obtain ⟨p, q1, _, _⟩ := DataW.trod_int Try.underlying3 e1
      obtain ⟨b, q2, _⟩ := DataW.trod_bool Try.underlying4 e2
      simp at hr q1 q2
      obtain ⟨g0, g1, g2, g3, g4, g5, g6, g7⟩ := hr
      subst g0 g1 g2 g3 g4 g5 g6 g7 q1 q2
      exact ⟨⟨r, p, b⟩, rfl, ⟨h0, h1⟩⟩
end
end Go.Proofs.Ytekiialhljfglaa
/- What an argument that is a list of numbers of 32 bits, or an array of eight, reads as: numbers in cells; no condition. -/
namespace Go.Proofs.Ytekiialhljfglaa
open Go.ChangeShapes Go.WideShapes Go.ChangeAt Go.RowKit Go.Deep

/-- The numbers z 0 .. lie behind p: nothing is asked of p where there are none. -/
def Nums (w : World) (p : Option Addr) (len : Nat) (z : Nat → Int) : Prop :=
  0 < len → ∃ b off, b < w.heap.size ∧ p = some ⟨b, off, none⟩ ∧ ∀ i, i < len → w.cell? ⟨b, off + i, none⟩ = some (.int .u32 (z i))

section
variable {H : Type} {enc : TypeId × Value → H} {w : World} {base : Nat} {spare : Nat → Bool} {held : Bool}

theorem nums_of_cells {fuel : Nat} {p : Option Addr} {len cap : Nat} {x : DataW H × List MemPlace} (h : DataW.trod enc Try.prog w base spare held fuel 23 [.slice p len cap] = some x) :
    ∃ z : Nat → Int, len ≤ maxLen ∧ (∀ i, i < len → 0 ≤ z i ∧ z i ≤ 4294967295) ∧ Nums w p len z := by
  rcases open_slice Try.underlying23 h with ⟨hcs, _⟩ | ⟨a, len', cap', m, n, D, Pl, hcs, _, hl, hm, hmm, _, hi⟩
  · simp at hcs
    obtain ⟨rfl, rfl, rfl⟩ := hcs
    exact ⟨fun _ => 0, Nat.zero_le _, fun i h0 => absurd h0 (by simp), fun h0 => absurd h0 (by simp)⟩
  · simp at hcs
    obtain ⟨rfl, rfl, rfl⟩ := hcs
    have hlm : len ≤ m := by rw [hmm]; split <;> omega
    have hex : ∀ i, i < len → ∃ y : Int, w.cell? ((a.add (i * 1)).add 0) = some (.int .u32 y) ∧ 0 ≤ y ∧ y ≤ 4294967295 := fun i hlt => by
      obtain ⟨cs', hc, ht⟩ := hi i (by omega)
      rw [cells_num] at hc
      obtain ⟨y, hy, _, wf⟩ := DataW.trod_int Try.underlying28 ht
      have b := bounds_u32 wf
      have hcell := (World.cells?_some hc).2.2 0 (by omega)
      rw [hy] at hcell
      exact ⟨y, hcell, b.1, b.2⟩
    obtain ⟨f, hf⟩ := choose_lt hex
    refine ⟨f, Nat.le_trans hl hm, fun i hi' => (hf i hi').2, fun h0 => ?_⟩
    have hc0 := (hf 0 h0).1
    have hz : (a.add (0 * 1)).add 0 = a.add 0 := by simp [Addr.add]
    rw [hz] at hc0
    obtain ⟨hlt, ha⟩ := add_zero_spot hc0
    refine ⟨a.block, a.off, hlt, by rw [← ha], fun i hi' => ?_⟩
    have hcell := (hf i hi').1
    rw [ha, add_plain, add_plain] at hcell
    simpa using hcell
end

theorem okWide_array {P : Program} {w : World} {r : Reach} {base : Nat} {t : TypeId} {v : Value} {n : Nat} {e : TypeId} (ht : P.underlying t = some (.array n e)) (h : Value.okWide P w r base t v) : ∃ cs, v = .agg cs := by
  simp only [Value.okWide, ht] at h
  obtain ⟨cs, h1, _⟩ := h
  exact ⟨cs, h1⟩
end Go.Proofs.Ytekiialhljfglaa
