/- Plain numbers for layer 8: what a cache is, when it is right, and what it becomes; no program is run here; no condition. -/
import Derived.Test.YtoddmgaihggkjaaGen
namespace Go.Proofs.Ytoddmgaihggkjaa
set_option linter.unusedVariables false
open Go.RowKit

/-- A line, and a cache. -/
structure Ln where
  addr : Int
  state : Int
  val : Nat
  used : Int
structure Ch where
  sets : Int
  ways : Int
  clock : Int
  lines : List (List Ln)
def zL : Ln := ⟨0, 0, 0, 0⟩
/-- The most that a clock may be. -/
def clockTop : Int := 1099511627776
def mayS (n m : Int) : Bool := decide (1 ≤ n ∧ n ≤ 8 ∧ 1 ≤ m ∧ m ≤ 8)
def lineB (n k s : Int) (x : Ln) : Bool := decide (0 ≤ x.addr ∧ x.addr % n = s ∧ 1 ≤ x.state ∧ x.state ≤ 4 ∧ 1 ≤ x.used ∧ x.used ≤ k)
def setB (C : Ch) (s : Nat) : Bool := decide (((C.lines.getD s []).length : Int) ≤ C.ways) && (C.lines.getD s []).all (lineB C.sets C.clock s)
def headB (C : Ch) : Bool := mayS C.sets C.ways && decide (0 ≤ C.clock ∧ C.clock ≤ clockTop ∧ (C.lines.length : Int) = C.sets)
def Two (x y : Ln) : Prop := x.addr ≠ y.addr ∧ x.used ≠ y.used
def apartB : List Ln → Bool
  | [] => true
  | x :: l => (l.all fun y => decide (x.addr ≠ y.addr ∧ x.used ≠ y.used)) && apartB l
def rightC (C : Ch) : Bool := headB C && ((List.range C.lines.length).all (setB C) && apartB C.lines.flatten)
/-- Where an address stands in a list, -1: nowhere. -/
def idxA (a : Int) : List Ln → Nat → Int
  | [], _ => -1
  | x :: l, k => if x.addr = a then (k : Int) else idxA a l (k + 1)
def setNo (C : Ch) (a : Int) : Nat := (a % C.sets).toNat
def setC (C : Ch) (a : Int) : List Ln := C.lines.getD (setNo C a) []
def atC (C : Ch) (a : Int) : Int := idxA a (setC C a) 0
def mayC (C : Ch) (a : Int) : Bool := rightC C && decide (0 ≤ a)
def canC (C : Ch) (a : Int) : Bool := rightC C && decide (0 ≤ a ∧ C.clock < clockTop)
def hasC (C : Ch) (a : Int) : Bool := mayC C a && decide (0 ≤ atC C a)
def lineAt (C : Ch) (a : Int) : Ln := (setC C a).getD (atC C a).toNat zL
def lookC (C : Ch) (a : Int) : Ln := if hasC C a then lineAt C a else zL
def withC (C : Ch) (a k : Int) (l : List Ln) : Ch := ⟨C.sets, C.ways, k, C.lines.set (setNo C a) l⟩
def usedL (x : Ln) (k : Int) : Ln := ⟨x.addr, x.state, x.val, k⟩
def useC (C : Ch) (a : Int) : Ch :=
  if canC C a && decide (0 ≤ atC C a) then withC C a (C.clock + 1) ((setC C a).set (atC C a).toNat (usedL (lineAt C a) (C.clock + 1))) else C
def useE (C : Ch) (a : Int) : Int := if canC C a then (if 0 ≤ atC C a then 0 else 7) else 1
def dropC (C : Ch) (a : Int) : Ch := if hasC C a then withC C a C.clock ((setC C a).eraseIdx (atC C a).toNat) else C
def dropE (C : Ch) (a : Int) : Int := if mayC C a then (if 0 ≤ atC C a then 0 else 7) else 1
/-- Where the first one of the least Used stands, of the first k. -/
def leastK (l : List Ln) : Nat → Nat
  | 0 => 0
  | k + 1 => if (l.getD k zL).used < (l.getD (leastK l k) zL).used then k else leastK l k
def outN (l : List Ln) : Nat := leastK l l.length
def fullC (C : Ch) (a : Int) : Bool := decide (((setC C a).length : Int) = C.ways)
def okP (C : Ch) (a s : Int) : Bool := canC C a && decide (1 ≤ s ∧ s ≤ 4)
def putL (C : Ch) (a s : Int) (v : Nat) : List Ln :=
  if 0 ≤ atC C a then (setC C a).set (atC C a).toNat ⟨a, s, v, C.clock + 1⟩
  else if fullC C a then (setC C a).eraseIdx (outN (setC C a)) ++ [⟨a, s, v, C.clock + 1⟩] else setC C a ++ [⟨a, s, v, C.clock + 1⟩]
def putC (C : Ch) (a s : Int) (v : Nat) : Ch := if okP C a s then withC C a (C.clock + 1) (putL C a s v) else C
def putO (C : Ch) (a s : Int) : Ln := if okP C a s && (decide (atC C a < 0) && fullC C a) then (setC C a).getD (outN (setC C a)) zL else zL
def putE (C : Ch) (a s : Int) : Int := if okP C a s then 0 else 1
def newC (n m : Int) : Ch := if mayS n m then ⟨n, m, 0, List.replicate n.toNat []⟩ else ⟨0, 0, 0, []⟩
def newE (n m : Int) : Int := if mayS n m then 0 else 1
/-- Lines by rising addresses. -/
def insL (x : Ln) : List Ln → List Ln
  | [] => [x]
  | y :: l => if x.addr ≤ y.addr then x :: y :: l else y :: insL x l
def sortA : List Ln → List Ln
  | [] => []
  | x :: l => insL x (sortA l)
def allC (C : Ch) : List Ln := if rightC C then sortA C.lines.flatten else []

theorem mem_getD {α : Type} (L : List α) (d : α) (k : Nat) (h : k < L.length) : L.getD k d ∈ L := by
  rw [List.getD_eq_getElem?_getD, List.getElem?_eq_getElem h]; exact List.getElem_mem h
theorem drop_getD {α : Type} (L : List α) (d : α) (k : Nat) (h : k < L.length) : L.drop k = L.getD k d :: L.drop (k + 1) := by
  rw [List.drop_eq_getElem_cons h, List.getD_eq_getElem?_getD, List.getElem?_eq_getElem h]; rfl
theorem take_getD {α : Type} (L : List α) (d : α) (k : Nat) (h : k < L.length) : L.take (k + 1) = L.take k ++ [L.getD k d] := by
  rw [List.take_succ_eq_append_getElem h, List.getD_eq_getElem?_getD, List.getElem?_eq_getElem h]; rfl
theorem getD_set {α : Type} (L : List α) (d v : α) (k j : Nat) (hk : k < L.length) : (L.set k v).getD j d = if j = k then v else L.getD j d := by
  simp only [List.getD_eq_getElem?_getD, List.getElem?_set]
  by_cases h : j = k
  · subst h; simp [hk]
  · rw [if_neg h, if_neg (fun e => h e.symm)]
theorem mem_idx {α : Type} (L : List α) (d x : α) (h : x ∈ L) : ∃ k, k < L.length ∧ L.getD k d = x := by
  obtain ⟨k, hk, rfl⟩ := List.getElem_of_mem h
  exact ⟨k, hk, by rw [List.getD_eq_getElem?_getD, List.getElem?_eq_getElem hk]; rfl⟩

theorem Two.symm {x y : Ln} (h : Two x y) : Two y x := ⟨fun e => h.1 e.symm, fun e => h.2 e.symm⟩
theorem apart_iff (l : List Ln) : apartB l = true ↔ l.Pairwise Two := by
  induction l with
  | nil => simp [apartB]
  | cons x l ih =>
    unfold apartB
    rw [List.pairwise_cons, Bool.and_eq_true, ih, List.all_eq_true]
    exact and_congr_left fun _ => ⟨fun h y hy => of_decide_eq_true (p := x.addr ≠ y.addr ∧ x.used ≠ y.used) (h y hy), fun h y hy => decide_eq_true (p := x.addr ≠ y.addr ∧ x.used ≠ y.used) (h y hy)⟩

/-- What is so of a line of a right cache. -/
structure LnOk (n k s : Int) (x : Ln) : Prop where
  a0 : 0 ≤ x.addr
  as : x.addr % n = s
  s1 : 1 ≤ x.state
  s4 : x.state ≤ 4
  u1 : 1 ≤ x.used
  uk : x.used ≤ k
theorem lineB_iff (n k s : Int) (x : Ln) : lineB n k s x = true ↔ LnOk n k s x := by
  unfold lineB
  exact ⟨fun h => have h := of_decide_eq_true h; ⟨h.1, h.2.1, h.2.2.1, h.2.2.2.1, h.2.2.2.2.1, h.2.2.2.2.2⟩, fun h => decide_eq_true ⟨h.a0, h.as, h.s1, h.s4, h.u1, h.uk⟩⟩
/-- A right cache. -/
structure Rt (C : Ch) : Prop where
  n1 : 1 ≤ C.sets
  n8 : C.sets ≤ 8
  m1 : 1 ≤ C.ways
  m8 : C.ways ≤ 8
  k0 : 0 ≤ C.clock
  kt : C.clock ≤ clockTop
  len : (C.lines.length : Int) = C.sets
  wl : ∀ s, s < C.lines.length → ((C.lines.getD s []).length : Int) ≤ C.ways
  ln : ∀ s, s < C.lines.length → ∀ x ∈ C.lines.getD s [], LnOk C.sets C.clock s x
  ap : C.lines.flatten.Pairwise Two
theorem right_iff (C : Ch) : rightC C = true ↔ Rt C := by
  unfold rightC headB mayS
  simp only [Bool.and_eq_true, decide_eq_true_eq, List.all_eq_true, List.mem_range, apart_iff]
  unfold setB
  simp only [Bool.and_eq_true, decide_eq_true_eq, List.all_eq_true, lineB_iff]
  constructor
  · rintro ⟨⟨⟨h1, h2, h3, h4⟩, h5, h6, h7⟩, h8, h9⟩
    exact ⟨h1, h2, h3, h4, h5, h6, h7, fun s hs => (h8 s hs).1, fun s hs => (h8 s hs).2, h9⟩
  · intro h
    exact ⟨⟨⟨h.n1, h.n8, h.m1, h.m8⟩, h.k0, h.kt, h.len⟩, fun s hs => ⟨h.wl s hs, h.ln s hs⟩, h.ap⟩
theorem Rt.b {C : Ch} (h : Rt C) : rightC C = true := (right_iff C).2 h
theorem right_rt {C : Ch} (h : rightC C = true) : Rt C := (right_iff C).1 h

/-- All lines, one set first. -/
theorem flat_perm {α : Type} (L : List (List α)) (s : Nat) (l : List α) (h : s < L.length) : (L.set s l).flatten.Perm (l ++ (L.eraseIdx s).flatten) := by
  induction L generalizing s with
  | nil => exact absurd h (by simp)
  | cons x L ih =>
    cases s with
    | zero => exact List.Perm.refl _
    | succ s =>
      simp only [List.set_cons_succ, List.flatten_cons, List.eraseIdx_cons_succ]
      have := ih s (by simpa using h)
      refine (List.Perm.append_left x this).trans ?_
      rw [← List.append_assoc, ← List.append_assoc]
      exact List.Perm.append_right _ List.perm_append_comm
theorem set_getD {α : Type} (L : List (List α)) (s : Nat) : L.set s (L.getD s []) = L := by
  by_cases h : s < L.length
  · rw [List.getD_eq_getElem?_getD, List.getElem?_eq_getElem h]; exact List.set_getElem_self h
  · exact List.set_eq_of_length_le (by omega)
theorem flat_own {α : Type} (L : List (List α)) (s : Nat) (h : s < L.length) : L.flatten.Perm (L.getD s [] ++ (L.eraseIdx s).flatten) := by
  have := flat_perm L s (L.getD s []) h
  rwa [set_getD] at this
theorem apart_perm {l l' : List Ln} (h : l.Perm l') : l.Pairwise Two ↔ l'.Pairwise Two := List.Perm.pairwise_iff Two.symm h
/-- Another list in the place of a set: all are apart. -/
theorem apart_set (L : List (List Ln)) (s : Nat) (l : List Ln) (h : s < L.length) (ha : L.flatten.Pairwise Two) (hl : l.Pairwise Two)
    (hx : ∀ x ∈ l, ∀ y ∈ (L.eraseIdx s).flatten, Two x y) : (L.set s l).flatten.Pairwise Two := by
  rw [apart_perm (flat_perm L s l h)]
  rw [apart_perm (flat_own L s h)] at ha
  rw [List.pairwise_append] at ha ⊢
  exact ⟨hl, ha.2.1, hx⟩
theorem apart_own {L : List (List Ln)} {s : Nat} (h : s < L.length) (ha : L.flatten.Pairwise Two) : (L.getD s []).Pairwise Two := by
  rw [apart_perm (flat_own L s h), List.pairwise_append] at ha
  exact ha.1
theorem apart_rest {L : List (List Ln)} {s : Nat} (h : s < L.length) (ha : L.flatten.Pairwise Two) : ∀ x ∈ L.getD s [], ∀ y ∈ (L.eraseIdx s).flatten, Two x y := by
  rw [apart_perm (flat_own L s h), List.pairwise_append] at ha
  exact ha.2.2
/-- What is in another set. -/
theorem mem_rest {L : List (List Ln)} {s : Nat} {y : Ln} (hy : y ∈ (L.eraseIdx s).flatten) : ∃ t, t < L.length ∧ t ≠ s ∧ y ∈ L.getD t [] := by
  obtain ⟨l, hl, hy⟩ := List.mem_flatten.1 hy
  obtain ⟨k, hk, rfl⟩ := List.getElem_of_mem hl
  rw [List.getElem_eraseIdx] at hy
  rw [List.length_eraseIdx] at hk
  by_cases h : k < s
  · rw [dif_pos h] at hy
    refine ⟨k, ?_, by omega, ?_⟩
    · split at hk <;> omega
    · rw [List.getD_eq_getElem?_getD, List.getElem?_eq_getElem (by split at hk <;> omega)]; exact hy
  · rw [dif_neg h] at hy
    by_cases hs : s < L.length
    · rw [if_pos hs] at hk
      refine ⟨k + 1, by omega, by omega, ?_⟩
      rw [List.getD_eq_getElem?_getD, List.getElem?_eq_getElem (by omega)]; exact hy
    · rw [if_neg hs] at hk; omega
/-- A right cache with another list in the place of a set, and another clock. -/
theorem set_right {C : Ch} (h : Rt C) (s : Nat) (k : Int) (l : List Ln) (hs : s < C.lines.length) (hk : C.clock ≤ k) (ht : k ≤ clockTop)
    (hl : (l.length : Int) ≤ C.ways) (ho : ∀ x ∈ l, LnOk C.sets k s x) (ha : l.Pairwise Two)
    (hx : ∀ x ∈ l, ∀ y ∈ (C.lines.eraseIdx s).flatten, x.used ≠ y.used) : Rt ⟨C.sets, C.ways, k, C.lines.set s l⟩ where
  n1 := h.n1
  n8 := h.n8
  m1 := h.m1
  m8 := h.m8
  k0 := Int.le_trans h.k0 hk
  kt := ht
  len := by rw [List.length_set]; exact h.len
  wl := fun t ht => by
    rw [List.length_set] at ht
    show (((C.lines.set s l).getD t []).length : Int) ≤ C.ways
    rw [getD_set _ _ _ _ _ hs]
    split
    · exact hl
    · exact h.wl t ht
  ln := fun t ht => by
    rw [List.length_set] at ht
    show ∀ x ∈ (C.lines.set s l).getD t [], LnOk C.sets k t x
    rw [getD_set _ _ _ _ _ hs]
    split
    · next e => subst e; exact ho
    · intro x hx
      obtain ⟨h1, h2, h3, h4, h5, h6⟩ := h.ln t ht x hx
      exact ⟨h1, h2, h3, h4, h5, Int.le_trans h6 hk⟩
  ap := by
    refine apart_set C.lines s l hs h.ap ha fun x hm y hy => ⟨fun e => ?_, hx x hm y hy⟩
    obtain ⟨t, h1, h2, h3⟩ := mem_rest hy
    have e1 := (ho x hm).as
    have e2 := (h.ln t h1 y h3).as
    rw [e, e2] at e1
    omega
theorem Rt.set_lt {C : Ch} (h : Rt C) (a : Int) : setNo C a < C.lines.length := by
  have h1 : a % C.sets < C.sets := Int.emod_lt_of_pos _ (by have := h.n1; omega)
  have h2 := Int.emod_nonneg a (b := C.sets) (by have := h.n1; omega)
  have h3 := h.len
  unfold setNo; omega
theorem Rt.set_as {C : Ch} (h : Rt C) (a : Int) : a % C.sets = (setNo C a : Int) := by
  have h2 := Int.emod_nonneg a (b := C.sets) (by have := h.n1; omega)
  unfold setNo; omega
theorem Rt.len_le {C : Ch} (h : Rt C) (a : Int) : ((setC C a).length : Int) ≤ C.ways := h.wl _ (h.set_lt a)
theorem Rt.line {C : Ch} (h : Rt C) (a : Int) : ∀ x ∈ setC C a, LnOk C.sets C.clock (setNo C a) x := h.ln _ (h.set_lt a)
theorem Rt.apart {C : Ch} (h : Rt C) (a : Int) : (setC C a).Pairwise Two := apart_own (h.set_lt a) h.ap
theorem Rt.rest {C : Ch} (h : Rt C) (a : Int) : ∀ y ∈ (C.lines.eraseIdx (setNo C a)).flatten, y.used ≤ C.clock := fun y hy => by
  obtain ⟨t, h1, h2, h3⟩ := mem_rest hy
  exact (h.ln t h1 y h3).uk

theorem idxA_ge (a : Int) (l : List Ln) (k : Nat) : idxA a l k = -1 ∨ (k : Int) ≤ idxA a l k ∧ idxA a l k < (k + l.length : Nat) := by
  induction l generalizing k with
  | nil => exact .inl rfl
  | cons x l ih =>
    unfold idxA
    split
    · refine .inr ⟨Int.le_refl _, ?_⟩
      simp only [List.length_cons]; omega
    · rcases ih (k + 1) with h | h
      · exact .inl h
      · refine .inr ?_
        simp only [List.length_cons]; omega
theorem idxA_none (a : Int) (l : List Ln) (k : Nat) : idxA a l k = -1 ↔ ∀ x ∈ l, x.addr ≠ a := by
  induction l generalizing k with
  | nil => simp [idxA]
  | cons x l ih =>
    unfold idxA
    by_cases h : x.addr = a
    · rw [if_pos h]
      exact ⟨fun e => by omega, fun e => absurd h (e x (.head _))⟩
    · rw [if_neg h, ih]
      exact ⟨fun e y hy => by cases hy with | head => exact h | tail _ hy => exact e y hy, fun e y hy => e y (.tail _ hy)⟩
theorem idxA_at (a : Int) (l : List Ln) (k : Nat) (h : 0 ≤ idxA a l k) : (l.getD ((idxA a l k).toNat - k) zL).addr = a := by
  induction l generalizing k with
  | nil => exact absurd h (by show ¬ (0 : Int) ≤ -1; decide)
  | cons x l ih =>
    by_cases hx : x.addr = a
    · have e : idxA a (x :: l) k = (k : Int) := by unfold idxA; rw [if_pos hx]
      rw [e, Int.toNat_natCast, Nat.sub_self]; exact hx
    · have e : idxA a (x :: l) k = idxA a l (k + 1) := by rw [idxA, if_neg hx]
      rw [e] at h ⊢
      have h2 := ih (k + 1) h
      rcases idxA_ge a l (k + 1) with h3 | h3
      · omega
      · have e2 : (idxA a l (k + 1)).toNat - k = ((idxA a l (k + 1)).toNat - (k + 1)) + 1 := by omega
        rw [e2, List.getD_cons_succ]; exact h2
theorem atC_lt {C : Ch} {a : Int} (h : 0 ≤ atC C a) : (atC C a).toNat < (setC C a).length := by
  unfold atC at *
  rcases idxA_ge a (setC C a) 0 with h1 | h1 <;> omega
theorem atC_addr {C : Ch} {a : Int} (h : 0 ≤ atC C a) : (lineAt C a).addr = a := idxA_at a (setC C a) 0 h
theorem atC_mem {C : Ch} {a : Int} (h : 0 ≤ atC C a) : lineAt C a ∈ setC C a := mem_getD _ _ _ (atC_lt h)
theorem atC_neg {C : Ch} {a : Int} : ¬ 0 ≤ atC C a ↔ ∀ x ∈ setC C a, x.addr ≠ a := by
  rw [← idxA_none a (setC C a) 0]
  unfold atC
  rcases idxA_ge a (setC C a) 0 with h1 | h1 <;> omega
theorem atC_m1 {C : Ch} {a : Int} (h : ¬ 0 ≤ atC C a) : atC C a = -1 := by
  unfold atC at *
  rcases idxA_ge a (setC C a) 0 with h1 | h1 <;> omega
theorem atC_pos {C : Ch} {a : Int} {x : Ln} (hx : x ∈ setC C a) (e : x.addr = a) : 0 ≤ atC C a := by
  by_cases h : 0 ≤ atC C a
  · exact h
  · exact absurd e (atC_neg.1 h x hx)

theorem leastK_lt (l : List Ln) (k : Nat) (hk : k ≤ l.length) (h0 : 0 < k) : leastK l k < k := by
  induction k with
  | zero => omega
  | succ k ih =>
    unfold leastK
    split
    · omega
    · cases k with
      | zero => exact Nat.zero_lt_one
      | succ k => have := ih (by omega) (by omega); omega
theorem leastK_le (l : List Ln) (k : Nat) : ∀ j, j < k → (l.getD (leastK l k) zL).used ≤ (l.getD j zL).used := by
  induction k with
  | zero => intro j hj; omega
  | succ k ih =>
    intro j hj
    unfold leastK
    split
    · next h =>
      by_cases e : j = k
      · subst e; exact Int.le_refl _
      · have := ih j (by omega); omega
    · next h =>
      by_cases e : j = k
      · subst e; omega
      · exact ih j (by omega)
theorem outN_lt {l : List Ln} (h : 0 < l.length) : outN l < l.length := leastK_lt l _ (Nat.le_refl _) h
theorem outN_le (l : List Ln) : ∀ x ∈ l, (l.getD (outN l) zL).used ≤ x.used := fun x hx => by
  obtain ⟨k, hk, rfl⟩ := mem_idx l zL x hx
  exact leastK_le l l.length k hk

theorem apart_setL {l : List Ln} {k : Nat} {x : Ln} (ha : l.Pairwise Two) (hx : ∀ j, j < l.length → j ≠ k → Two x (l.getD j zL)) : (l.set k x).Pairwise Two := by
  by_cases hk : k < l.length
  · rw [List.pairwise_iff_getElem] at ha ⊢
    intro i j hi hj hij
    rw [List.length_set] at hi hj
    rw [List.getElem_set, List.getElem_set]
    have g : ∀ j (h : j < l.length), l.getD j zL = l[j] := fun j h => by rw [List.getD_eq_getElem?_getD, List.getElem?_eq_getElem h]; rfl
    by_cases h1 : k = i
    · rw [if_pos h1, if_neg (by omega), ← g j hj]
      exact hx j hj (by omega)
    · rw [if_neg h1]
      by_cases h2 : k = j
      · rw [if_pos h2, ← g i hi]
        exact (hx i hi (by omega)).symm
      · rw [if_neg h2]; exact ha i j hi hj hij
  · rw [List.set_eq_of_length_le (by omega)]; exact ha
theorem apart_getD {l : List Ln} (ha : l.Pairwise Two) (i j : Nat) (hi : i < l.length) (hj : j < l.length) (h : i ≠ j) : Two (l.getD i zL) (l.getD j zL) := by
  have g : ∀ j (h : j < l.length), l.getD j zL = l[j] := fun j h => by rw [List.getD_eq_getElem?_getD, List.getElem?_eq_getElem h]; rfl
  rw [g i hi, g j hj]
  rw [List.pairwise_iff_getElem] at ha
  rcases Nat.lt_or_gt_of_ne h with h | h
  · exact ha i j hi hj h
  · exact (ha j i hj hi h).symm
theorem canC_iff {C : Ch} {a : Int} : canC C a = true ↔ Rt C ∧ 0 ≤ a ∧ C.clock < clockTop := by
  unfold canC; rw [Bool.and_eq_true, right_iff, decide_eq_true_eq]
theorem mayC_iff {C : Ch} {a : Int} : mayC C a = true ↔ Rt C ∧ 0 ≤ a := by
  unfold mayC; rw [Bool.and_eq_true, right_iff, decide_eq_true_eq]
theorem LnOk.up {n k k' s : Int} {x : Ln} (h : LnOk n k s x) (hk : k ≤ k') : LnOk n k' s x := ⟨h.a0, h.as, h.s1, h.s4, h.u1, Int.le_trans h.uk hk⟩
/-- A line in another's place, of the same address, used now. -/
theorem put_set {C : Ch} (h : Rt C) {a : Int} (ha : 0 ≤ atC C a) (hk : C.clock < clockTop) (x : Ln) (hx : x.addr = a) (h1 : 1 ≤ x.state) (h4 : x.state ≤ 4) (hu : x.used = C.clock + 1) (h0 : 0 ≤ a) :
    Rt (withC C a (C.clock + 1) ((setC C a).set (atC C a).toNat x)) := by
  have hlt := atC_lt ha
  have hk0 := h.k0
  have hline := h.line a
  have hxo : LnOk C.sets (C.clock + 1) (setNo C a) x := ⟨by rw [hx]; exact h0, by rw [hx]; exact h.set_as a, h1, h4, by omega, by omega⟩
  refine set_right h _ _ _ (h.set_lt a) (by omega) (by omega) (by rw [List.length_set]; exact h.len_le a) ?_ ?_ ?_
  · intro y hy
    rcases List.mem_or_eq_of_mem_set hy with hy | rfl
    · exact (hline y hy).up (by omega)
    · exact hxo
  · refine apart_setL (h.apart a) fun j hj hne => ⟨fun e => ?_, fun e => ?_⟩
    · have := (apart_getD (h.apart a) _ j hlt hj (fun e => hne e.symm)).1
      have e2 := atC_addr ha
      unfold lineAt at e2
      rw [e2] at this
      exact this (hx.symm.trans e)
    · have := (hline _ (mem_getD (setC C a) zL j hj)).uk
      omega
  · intro y hy z hz e
    have h3 := h.rest a z hz
    rcases List.mem_or_eq_of_mem_set hy with hy | rfl
    · exact (apart_rest (h.set_lt a) h.ap y hy z hz).2 e
    · omega
/-- A line more, of an address that isn't there, used now. -/
theorem put_more {C : Ch} (h : Rt C) {a : Int} (l : List Ln) (hl : ∀ x ∈ l, x ∈ setC C a) (hp : l.Pairwise Two) (hn : (l.length : Int) < C.ways) (ha : ¬ 0 ≤ atC C a) (hk : C.clock < clockTop) (x : Ln)
    (hx : x.addr = a) (h1 : 1 ≤ x.state) (h4 : x.state ≤ 4) (hu : x.used = C.clock + 1) (h0 : 0 ≤ a) : Rt (withC C a (C.clock + 1) (l ++ [x])) := by
  have hk0 := h.k0
  have hline := h.line a
  have hxo : LnOk C.sets (C.clock + 1) (setNo C a) x := ⟨by rw [hx]; exact h0, by rw [hx]; exact h.set_as a, h1, h4, by omega, by omega⟩
  refine set_right h _ _ _ (h.set_lt a) (by omega) (by omega) (by simp only [List.length_append, List.length_singleton]; omega) ?_ ?_ ?_
  · intro y hy
    rcases List.mem_append.1 hy with hy | hy
    · exact (hline y (hl y hy)).up (by omega)
    · obtain rfl := List.mem_singleton.1 hy; exact hxo
  · rw [List.pairwise_append]
    refine ⟨hp, List.pairwise_singleton _ _, fun y hy z hz => ?_⟩
    obtain rfl := List.mem_singleton.1 hz
    refine ⟨fun e => atC_neg.1 ha y (hl y hy) (e.trans hx), fun e => ?_⟩
    have := (hline y (hl y hy)).uk
    omega
  · intro y hy z hz e
    have h3 := h.rest a z hz
    rcases List.mem_append.1 hy with hy | hy
    · exact (apart_rest (h.set_lt a) h.ap y (hl y hy) z hz).2 e
    · obtain rfl := List.mem_singleton.1 hy; omega
theorem use_right {C : Ch} (h : Rt C) (a : Int) : Rt (useC C a) := by
  unfold useC
  split
  · next e =>
    rw [Bool.and_eq_true, decide_eq_true_eq, canC_iff] at e
    obtain ⟨⟨_, h0, hk⟩, ha⟩ := e
    have hl := h.line a _ (atC_mem ha)
    exact put_set h ha hk _ (atC_addr ha) hl.s1 hl.s4 rfl h0
  · exact h
theorem put_right {C : Ch} (h : Rt C) (a s : Int) (v : Nat) : Rt (putC C a s v) := by
  unfold putC
  split
  · next e =>
    unfold okP at e
    rw [Bool.and_eq_true, decide_eq_true_eq, canC_iff] at e
    obtain ⟨⟨_, h0, hk⟩, h1, h4⟩ := e
    unfold putL
    split
    · next ha => exact put_set h ha hk _ rfl h1 h4 rfl h0
    · next ha =>
      have hw := h.len_le a
      split
      · next hf =>
        have hf := of_decide_eq_true hf
        have hm := h.m1
        have hlt := outN_lt (l := setC C a) (by omega)
        refine put_more h _ (fun x hx => List.mem_of_mem_eraseIdx hx) ((h.apart a).sublist (List.eraseIdx_sublist _ _)) ?_ ha hk _ rfl h1 h4 rfl h0
        rw [List.length_eraseIdx_of_lt hlt]; omega
      · next hf =>
        have hf : ¬ ((setC C a).length : Int) = C.ways := fun e => hf (decide_eq_true e)
        exact put_more h _ (fun x hx => hx) (h.apart a) (by omega) ha hk _ rfl h1 h4 rfl h0
  · exact h
theorem drop_right {C : Ch} (h : Rt C) (a : Int) : Rt (dropC C a) := by
  unfold dropC
  split
  · next e =>
    unfold hasC at e
    rw [Bool.and_eq_true, decide_eq_true_eq] at e
    have hlt := atC_lt e.2
    refine set_right h _ _ _ (h.set_lt a) (Int.le_refl _) h.kt ?_ (fun x hx => h.line a x (List.mem_of_mem_eraseIdx hx)) ((h.apart a).sublist (List.eraseIdx_sublist _ _))
      (fun x hx y hy => (apart_rest (h.set_lt a) h.ap x (List.mem_of_mem_eraseIdx hx) y hy).2)
    have := h.len_le a
    rw [List.length_eraseIdx_of_lt hlt]; omega
  · exact h
theorem new_right {n m : Int} (h : mayS n m = true) : Rt (newC n m) := by
  unfold newC
  rw [if_pos h]
  unfold mayS at h
  have h := of_decide_eq_true h
  have e0 : ∀ s : Nat, (List.replicate n.toNat ([] : List Ln)).getD s [] = [] := fun s => by
    rw [List.getD_eq_getElem?_getD, List.getElem?_replicate]; split <;> rfl
  refine ⟨h.1, h.2.1, h.2.2.1, h.2.2.2, by show (0 : Int) ≤ 0; decide, by show (0 : Int) ≤ clockTop; decide, by simp; omega, fun s _ => ?_, fun s _ x hx => ?_, ?_⟩
  · show ((List.length ((List.replicate n.toNat ([] : List Ln)).getD s []) : Nat) : Int) ≤ m
    rw [e0]; simp; omega
  · have hx : x ∈ (List.replicate n.toNat ([] : List Ln)).getD s [] := hx
    rw [e0] at hx; cases hx
  · show (List.replicate n.toNat ([] : List Ln)).flatten.Pairwise Two
    rw [List.flatten_replicate_nil]; exact List.Pairwise.nil

theorem insL_len (x : Ln) (l : List Ln) : (insL x l).length = l.length + 1 := by
  induction l with
  | nil => rfl
  | cons y l ih => unfold insL; split <;> simp [ih]
theorem sortA_len (l : List Ln) : (sortA l).length = l.length := by
  induction l with
  | nil => rfl
  | cons x l ih => unfold sortA; rw [insL_len, ih]; rfl
end Go.Proofs.Ytoddmgaihggkjaa
