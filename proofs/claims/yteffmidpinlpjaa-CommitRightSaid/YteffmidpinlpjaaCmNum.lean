/- Gates in plain numbers: when one is right, and what it becomes; no program in sight; no condition. -/
import Derived.Test.YteffmidpinlpjaaGen
namespace Go.Proofs.Yteffmidpinlpjaa
set_option linter.unusedVariables false
set_option linter.unusedSimpArgs false
open Go.RowKit

theorem mem_getD {α : Type} (l : List α) (d : α) (k : Nat) (hk : k < l.length) : l.getD k d ∈ l := by
  rw [List.getD_eq_getElem?_getD, List.getElem?_eq_getElem hk]; exact List.getElem_mem hk
theorem get_getD {α : Type} (l : List α) (d : α) (j : Nat) (h : j < l.length) : l[j] = l.getD j d := by rw [List.getD_eq_getElem?_getD, List.getElem?_eq_getElem h]; rfl
theorem take_getD {α : Type} (l : List α) (d : α) (k : Nat) (hk : k < l.length) : l.take (k + 1) = l.take k ++ [l.getD k d] := by
  rw [List.take_succ_eq_append_getElem hk, get_getD l d k hk]
theorem drop_getD {α : Type} (l : List α) (d : α) (k : Nat) (hk : k < l.length) : l.drop k = l.getD k d :: l.drop (k + 1) := by
  rw [List.drop_eq_getElem_cons hk, get_getD l d k hk]
theorem getD_map {α β : Type} (f : α → β) (l : List α) (d : α) (k : Nat) : (l.map f).getD k (f d) = f (l.getD k d) := by
  rw [List.getD_eq_getElem?_getD, List.getD_eq_getElem?_getD, List.getElem?_map]
  cases l[k]? <;> rfl
theorem getD_take {α : Type} (l : List α) (d : α) (s k : Nat) (h : k < s) : (l.take s).getD k d = l.getD k d := by
  rw [List.getD_eq_getElem?_getD, List.getD_eq_getElem?_getD, List.getElem?_take_of_lt h]
theorem getD_drop {α : Type} (l : List α) (d : α) (s k : Nat) : (l.drop s).getD k d = l.getD (s + k) d := by
  rw [List.getD_eq_getElem?_getD, List.getD_eq_getElem?_getD, List.getElem?_drop]

/-- What was told. -/
structure Td where
  core : Int
  val : Int
/-- What is held. -/
structure Hd where
  td : Td
  span : Int
/-- A gate. -/
structure Gt where
  held : List Hd
  out : List Td
def zT : Td := ⟨0, 0⟩
def zH : Hd := ⟨zT, 0⟩
def spanB (n : Int) : Bool := decide (0 ≤ n) && decide (n ≤ 1099511627776)
theorem span_iff {n : Int} : spanB n = true ↔ 0 ≤ n ∧ n ≤ 1099511627776 := by unfold spanB; simp only [Bool.and_eq_true, decide_eq_true_eq]
def lastH (l : List Hd) : Hd := l.getD (l.length - 1) zH
def lateB (l : List Hd) (s : Int) : Bool := decide (0 < l.length) && decide (s < (lastH l).span)
def fitB (l : List Hd) (h : Hd) : Bool := spanB h.span && !lateB l h.span
def allB (l : List Hd) (k : Nat) : Bool := (List.range k).all fun j => fitB (l.take j) (l.getD j zH)
def rightG (G : Gt) : Bool := decide (G.held.length ≤ 64) && allB G.held G.held.length
theorem allB_iff {l : List Hd} {k : Nat} : allB l k = true ↔ ∀ j, j < k → fitB (l.take j) (l.getD j zH) = true := by
  unfold allB; simp only [List.all_eq_true, List.mem_range]
theorem lastH_take (l : List Hd) (k : Nat) (hk : k < l.length) : lastH (l.take (k + 1)) = l.getD k zH := by
  unfold lastH
  rw [List.length_take, show min (k + 1) l.length - 1 = k by omega, getD_take _ _ _ _ (Nat.lt_succ_self k)]
/-- A gate that is right. -/
structure Rt (G : Gt) : Prop where
  l64 : G.held.length ≤ 64
  sp : ∀ h ∈ G.held, 0 ≤ h.span ∧ h.span ≤ 1099511627776
  up : G.held.Pairwise fun x y => x.span ≤ y.span
theorem pair_of_step {l : List Hd} (h : ∀ k, k + 1 < l.length → (l.getD k zH).span ≤ (l.getD (k + 1) zH).span) : l.Pairwise fun x y => x.span ≤ y.span := by
  have hs : ∀ i d, i + d < l.length → (l.getD i zH).span ≤ (l.getD (i + d) zH).span := by
    intro i d
    induction d with
    | zero => intro _; exact Int.le_refl _
    | succ d ih => intro hd; exact Int.le_trans (ih (by omega)) (h (i + d) (by omega))
  rw [List.pairwise_iff_getElem]
  intro i j hi hj hij
  rw [get_getD l zH i hi, get_getD l zH j hj]
  have := hs i (j - i) (by omega)
  rwa [show i + (j - i) = j by omega] at this
theorem step_of_pair {l : List Hd} (h : l.Pairwise fun x y => x.span ≤ y.span) (k : Nat) (hk : k + 1 < l.length) : (l.getD k zH).span ≤ (l.getD (k + 1) zH).span := by
  rw [← get_getD l zH k (by omega), ← get_getD l zH (k + 1) hk]
  exact (List.pairwise_iff_getElem.1 h) k (k + 1) (by omega) hk (by omega)
theorem right_iff {G : Gt} : rightG G = true ↔ Rt G := by
  unfold rightG
  rw [Bool.and_eq_true, decide_eq_true_eq, allB_iff]
  constructor
  · rintro ⟨h1, h2⟩
    refine ⟨h1, fun x hx => ?_, pair_of_step fun k hk => ?_⟩
    · obtain ⟨k, hk, rfl⟩ := List.mem_iff_getElem.1 hx
      have := h2 k hk
      unfold fitB at this
      rw [Bool.and_eq_true] at this
      rw [get_getD _ zH _ hk]
      exact span_iff.1 this.1
    · have := h2 (k + 1) hk
      unfold fitB lateB at this
      rw [Bool.and_eq_true, lastH_take _ _ (by omega)] at this
      have h3 := this.2
      simp only [Bool.not_eq_true', Bool.and_eq_false_iff, decide_eq_false_iff_not, List.length_take] at h3
      omega
  · intro h
    refine ⟨h.l64, fun k hk => ?_⟩
    unfold fitB lateB
    rw [Bool.and_eq_true]
    refine ⟨span_iff.2 (h.sp _ (mem_getD _ _ _ hk)), ?_⟩
    simp only [Bool.not_eq_true', Bool.and_eq_false_iff, decide_eq_false_iff_not, List.length_take]
    cases k with
    | zero => left; omega
    | succ k =>
      right
      rw [lastH_take _ _ (by omega)]
      have := step_of_pair h.up k hk
      omega
def belowL (l : List Hd) (s : Int) : List Hd := l.filter fun (u : Hd) => decide (u.span < s)
def fromL (l : List Hd) (s : Int) : List Hd := l.filter fun (u : Hd) => decide (s ≤ u.span)
def cutU (l : List Hd) (s : Int) : Nat := (belowL l s).length
theorem cut_le (l : List Hd) (s : Int) : cutU l s ≤ l.length := List.length_filter_le _ _
theorem cut_split {l : List Hd} (h : l.Pairwise fun x y => x.span ≤ y.span) (s : Int) : belowL l s = l.take (cutU l s) ∧ fromL l s = l.drop (cutU l s) := by
  induction l with
  | nil => exact ⟨rfl, rfl⟩
  | cons u l ih =>
    rw [List.pairwise_cons] at h
    obtain ⟨h1, h2⟩ := ih h.2
    by_cases e : u.span < s
    · have e1 : belowL (u :: l) s = u :: belowL l s := by unfold belowL; rw [List.filter_cons_of_pos (by simpa using e)]
      have e2 : fromL (u :: l) s = fromL l s := by unfold fromL; rw [List.filter_cons_of_neg (by simpa using e)]
      have e3 : cutU (u :: l) s = cutU l s + 1 := by unfold cutU; rw [e1]; rfl
      rw [e1, e2, e3, List.take_succ_cons, List.drop_succ_cons]
      exact ⟨by rw [← h1], h2⟩
    · have e1 : belowL (u :: l) s = [] := by
        unfold belowL
        rw [List.filter_eq_nil_iff]
        intro y hy
        rcases List.mem_cons.1 hy with rfl | hy
        · simpa using e
        · have := h.1 y hy
          simp; omega
      have e2 : fromL (u :: l) s = u :: l := by
        unfold fromL
        rw [List.filter_eq_self]
        intro y hy
        rcases List.mem_cons.1 hy with rfl | hy
        · simp; omega
        · have := h.1 y hy
          simp; omega
      have e3 : cutU (u :: l) s = 0 := by unfold cutU; rw [e1]; rfl
      rw [e1, e2, e3]
      exact ⟨rfl, rfl⟩
/-- Where a list that rises stands below s. -/
theorem cut_lt {l : List Hd} (h : l.Pairwise fun x y => x.span ≤ y.span) (s : Int) (k : Nat) (hk : k < l.length) : (l.getD k zH).span < s ↔ k < cutU l s := by
  obtain ⟨h1, h2⟩ := cut_split h s
  have hc := cut_le l s
  constructor
  · intro hs
    rcases Nat.lt_or_ge k (cutU l s) with h3 | h3
    · exact h3
    · have hm : l.getD k zH ∈ fromL l s := by
        rw [h2, ← get_getD l zH k hk]
        have : l[k] = (l.drop (cutU l s))[k - cutU l s]'(by rw [List.length_drop]; omega) := by
          rw [List.getElem_drop]; congr 1; omega
        rw [this]; exact List.getElem_mem _
      have := of_decide_eq_true (List.mem_filter.1 hm).2
      omega
  · intro h3
    have hm : l.getD k zH ∈ belowL l s := by
      rw [h1, ← get_getD l zH k hk]
      have : l[k] = (l.take (cutU l s))[k]'(by rw [List.length_take]; omega) := by rw [List.getElem_take]
      rw [this]; exact List.getElem_mem _
    simpa using (List.mem_filter.1 hm).2
def okG (G : Gt) (s : Int) : Bool := rightG G && spanB s
def tellB (G : Gt) (s : Int) : Bool := okG G s && !lateB G.held s
def tellG (G : Gt) (s : Int) (t : Td) : Gt := if tellB G s then (if G.held.length = 64 then G else ⟨G.held ++ [⟨t, s⟩], G.out⟩) else G
def tellE (G : Gt) (s : Int) : Int := if tellB G s then (if G.held.length = 64 then 6 else 0) else 1
def sureG (G : Gt) (s : Int) : Gt := if okG G s then ⟨G.held.drop (cutU G.held s), G.out ++ (G.held.take (cutU G.held s)).map Hd.td⟩ else G
def backG (G : Gt) (s : Int) : Gt := if okG G s then ⟨G.held.take (cutU G.held s), G.out⟩ else G
def okE (G : Gt) (s : Int) : Int := if okG G s then 0 else 1
def allG (G : Gt) : List Td := G.out ++ G.held.map Hd.td
theorem ok_rt {G : Gt} {s : Int} (h : okG G s = true) : Rt G ∧ 0 ≤ s ∧ s ≤ 1099511627776 := by
  unfold okG at h; rw [Bool.and_eq_true] at h; exact ⟨right_iff.1 h.1, span_iff.1 h.2⟩
end Go.Proofs.Yteffmidpinlpjaa
