/- Logs in plain numbers: when one is right, and what it becomes; no program in sight; no condition. -/
import Derived.Test.YtbgllkjhgjoodaaGen
namespace Go.Proofs.Ytbgllkjhgjoodaa
set_option linter.unusedVariables false
open Go.RowKit

/-- What was there, and a log. -/
structure Un where
  span : Int
  at_ : Int
  val : Int
structure Lg where
  mem : List Int
  span : Int
  list : List Un
def zU : Un := ⟨0, 0, 0⟩
def topS : Int := 1099511627776
def FitU (m : Nat) (s : Int) (u : Un) : Prop := (0 ≤ u.span ∧ u.span ≤ s) ∧ 0 ≤ u.at_ ∧ u.at_ < (m : Int)
instance (m : Nat) (s : Int) (u : Un) : Decidable (FitU m s u) := by unfold FitU; infer_instance
def ApartU (x y : Un) : Prop := ¬ (x.span = y.span ∧ x.at_ = y.at_)
instance (x y : Un) : Decidable (ApartU x y) := by unfold ApartU; infer_instance
/-- A log that is right. -/
structure Rt (L : Lg) : Prop where
  m1 : 1 ≤ L.mem.length
  m64 : L.mem.length ≤ 64
  s0 : 0 ≤ L.span
  st : L.span ≤ topS
  n256 : L.list.length ≤ 256
  fit : ∀ u ∈ L.list, FitU L.mem.length L.span u
  sort : L.list.Pairwise fun x y => x.span ≤ y.span
  ap : L.list.Pairwise ApartU
theorem rt_iff (L : Lg) : Rt L ↔ (1 ≤ L.mem.length ∧ L.mem.length ≤ 64 ∧ 0 ≤ L.span ∧ L.span ≤ topS ∧ L.list.length ≤ 256 ∧ (∀ u ∈ L.list, FitU L.mem.length L.span u) ∧ (L.list.Pairwise fun x y => x.span ≤ y.span) ∧ L.list.Pairwise ApartU) :=
  ⟨fun ⟨a, b, c, d, e, f, g, h⟩ => ⟨a, b, c, d, e, f, g, h⟩, fun ⟨a, b, c, d, e, f, g, h⟩ => ⟨a, b, c, d, e, f, g, h⟩⟩
instance (L : Lg) : Decidable (Rt L) := decidable_of_iff' _ (rt_iff L)
def rightL (L : Lg) : Bool := decide (Rt L)
theorem right_iff {L : Lg} : rightL L = true ↔ Rt L := by unfold rightL; exact decide_eq_true_iff
def hasW (L : Lg) (a : Int) : Bool := decide (0 ≤ a ∧ a < (L.mem.length : Int))
def hasU (l : List Un) (s a : Int) : Bool := l.any fun (u : Un) => decide (u.span = s ∧ u.at_ = a)
def okW (L : Lg) (a : Int) : Bool := rightL L && hasW L a
def fullW (L : Lg) (a : Int) : Bool := !hasU L.list L.span a && decide (L.list.length = 256)
def setM (m : List Int) (a : Int) (v : Int) : List Int := m.set a.toNat v
def putL (L : Lg) (a : Int) : List Un := if hasU L.list L.span a then L.list else L.list ++ [⟨L.span, a, L.mem.getD a.toNat 0⟩]
def writeL (L : Lg) (a v : Int) : Lg := if okW L a && !fullW L a then ⟨setM L.mem a v, L.span, putL L a⟩ else L
def writeE (L : Lg) (a : Int) : Int := if okW L a then (if fullW L a then 6 else 0) else 1
def okN (L : Lg) : Bool := rightL L && decide (L.span < topS)
def nextL (L : Lg) : Lg := if okN L then ⟨L.mem, L.span + 1, L.list⟩ else L
def nextE (L : Lg) : Int := if okN L then 0 else 1
def okB (L : Lg) (s : Int) : Bool := rightL L && decide (0 ≤ s ∧ s ≤ L.span)
/-- The last one first. -/
def undoM (l : List Un) (m : List Int) : List Int := l.foldr (fun u m => setM m u.at_ u.val) m
def fromL (l : List Un) (s : Int) : List Un := l.filter fun (u : Un) => decide (s ≤ u.span)
def belowL (l : List Un) (s : Int) : List Un := l.filter fun (u : Un) => decide (u.span < s)
def backL (L : Lg) (s : Int) : Lg := if okB L s then ⟨undoM (fromL L.list s) L.mem, s, belowL L.list s⟩ else L
def trimL (L : Lg) (s : Int) : Lg := if okB L s then ⟨L.mem, L.span, fromL L.list s⟩ else L
def backE (L : Lg) (s : Int) : Int := if okB L s then 0 else 1
def sizeB (n : Int) : Bool := decide (1 ≤ n ∧ n ≤ 64)
def newL (n : Int) : Lg := if sizeB n then ⟨List.replicate n.toNat 0, 0, []⟩ else ⟨[], 0, []⟩
def newE (n : Int) : Int := if sizeB n then 0 else 1
def roomL (L : Lg) : Int := if rightL L then 256 - (L.list.length : Int) else 0

theorem mem_getD {α : Type} (l : List α) (d : α) (k : Nat) (hk : k < l.length) : l.getD k d ∈ l := by
  rw [List.getD_eq_getElem?_getD, List.getElem?_eq_getElem hk]; exact List.getElem_mem hk
theorem get_getD {α : Type} (l : List α) (d : α) (j : Nat) (h : j < l.length) : l[j] = l.getD j d := by rw [List.getD_eq_getElem?_getD, List.getElem?_eq_getElem h]; rfl
theorem take_getD {α : Type} (l : List α) (d : α) (k : Nat) (hk : k < l.length) : l.take (k + 1) = l.take k ++ [l.getD k d] := by
  rw [List.take_succ_eq_append_getElem hk, get_getD l d k hk]
theorem mem_idx {α : Type} (l : List α) (d x : α) (h : x ∈ l) : ∃ k, k < l.length ∧ x = l.getD k d := by
  obtain ⟨k, hk, rfl⟩ := List.getElem_of_mem h
  exact ⟨k, hk, get_getD l d k hk⟩

theorem len_setM (m : List Int) (a v : Int) : (setM m a v).length = m.length := by unfold setM; rw [List.length_set]
theorem len_undoM (l : List Un) (m : List Int) : (undoM l m).length = m.length := by
  induction l with
  | nil => rfl
  | cons u l ih => show (setM (undoM l m) u.at_ u.val).length = _; rw [len_setM, ih]
theorem undoM_cons (u : Un) (l : List Un) (m : List Int) : undoM (u :: l) m = setM (undoM l m) u.at_ u.val := rfl
theorem undoM_app (l k : List Un) (m : List Int) : undoM (l ++ k) m = undoM l (undoM k m) := by
  unfold undoM; rw [List.foldr_append]

/-- Of a list whose intervals rise: how many are below s. -/
def cutU (l : List Un) (s : Int) : Nat := (belowL l s).length
theorem cut_le (l : List Un) (s : Int) : cutU l s ≤ l.length := List.length_filter_le _ _
theorem cut_split {l : List Un} (h : l.Pairwise fun x y => x.span ≤ y.span) (s : Int) : belowL l s = l.take (cutU l s) ∧ fromL l s = l.drop (cutU l s) := by
  induction l with
  | nil => exact ⟨rfl, rfl⟩
  | cons u l ih =>
    rw [List.pairwise_cons] at h
    obtain ⟨h1, h2⟩ := ih h.2
    by_cases e : u.span < s
    · have e1 : belowL (u :: l) s = u :: belowL l s := by unfold belowL; rw [List.filter_cons_of_pos (by simpa using e)]
      have e2 : fromL (u :: l) s = fromL l s := by unfold fromL; rw [List.filter_cons_of_neg (by simpa using e)]
      have e3 : cutU (u :: l) s = cutU l s + 1 := by unfold cutU; rw [e1]; rfl
      rw [e1, e2, e3, List.take_succ_cons, List.drop_succ_cons]
      exact ⟨by rw [← h1], h2⟩
    · have e1 : belowL (u :: l) s = [] := by
        unfold belowL
        rw [List.filter_eq_nil_iff]
        intro y hy
        rcases List.mem_cons.1 hy with rfl | hy
        · simpa using e
        · have := h.1 y hy
          simp; omega
      have e2 : fromL (u :: l) s = u :: l := by
        unfold fromL
        rw [List.filter_eq_self]
        intro y hy
        rcases List.mem_cons.1 hy with rfl | hy
        · simp; omega
        · have := h.1 y hy
          simp; omega
      have e3 : cutU (u :: l) s = 0 := by unfold cutU; rw [e1]; rfl
      rw [e1, e2, e3]
      exact ⟨rfl, rfl⟩
/-- Where a list that rises stands below s. -/
theorem cut_lt {l : List Un} (h : l.Pairwise fun x y => x.span ≤ y.span) (s : Int) (k : Nat) (hk : k < l.length) : (l.getD k zU).span < s ↔ k < cutU l s := by
  obtain ⟨h1, h2⟩ := cut_split h s
  have hc := cut_le l s
  constructor
  · intro hs
    rcases Nat.lt_or_ge k (cutU l s) with h3 | h3
    · exact h3
    · have hm : l.getD k zU ∈ fromL l s := by
        rw [h2, ← get_getD l zU k hk]
        have : l[k] = (l.drop (cutU l s))[k - cutU l s]'(by rw [List.length_drop]; omega) := by
          rw [List.getElem_drop]; congr 1; omega
        rw [this]; exact List.getElem_mem _
      have := of_decide_eq_true (List.mem_filter.1 hm).2
      omega
  · intro h3
    have hm : l.getD k zU ∈ belowL l s := by
      rw [h1, ← get_getD l zU k hk]
      have : l[k] = (l.take (cutU l s))[k]'(by rw [List.length_take]; omega) := by rw [List.getElem_take]
      rw [this]; exact List.getElem_mem _
    simpa using (List.mem_filter.1 hm).2
end Go.Proofs.Ytbgllkjhgjoodaa
