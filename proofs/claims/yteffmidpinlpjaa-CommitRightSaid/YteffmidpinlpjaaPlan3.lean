/- A region that draws its order, of which a plan with branches of up to three is given. No program in sight. -/
import Derived.Test.YteffmidpinlpjaaPlanT
namespace Go.Proofs.Yteffmidpinlpjaa
set_option linter.unusedVariables false

inductive Plan3 where
  | stop
  | read (i : Nat) (p : Plan3)
  | one (i : Nat) (p : Plan3)
  | two (i j : Nat) (p q : Plan3)
  | three (i j k : Nat) (p q r : Plan3)

section
variable {P : Program} {ops : Array Oper} {md : Region.Mode} {Q : Exit → Act → World → Prop} {S : World → Prop}

def plan3B (md : Region.Mode) (ops : Array Oper) (g n : Nat) : Nat → Plan3 → Array Bool → Bool
  | 0, .stop, listed => Region.seqB md ops g n listed
  | d + 1, .read i p, listed => (Region.ready md ops listed).contains i && Region.free md ops listed i && decide (i < n) && plan3B md ops g n d p (listed.setIfInBounds i true)
  | d + 1, .one i p, listed => decide (Region.ready md ops listed = [i]) && decide (i < n) && plan3B md ops g n d p (listed.setIfInBounds i true)
  | d + 1, .two i j p q, listed => decide (Region.ready md ops listed = [i, j]) && (decide (i < n) && decide (j < n)) && (plan3B md ops g n d p (listed.setIfInBounds i true) && plan3B md ops g n d q (listed.setIfInBounds j true))
  | d + 1, .three i j k p q r, listed => decide (Region.ready md ops listed = [i, j, k]) && (decide (i < n) && (decide (j < n) && decide (k < n))) && (plan3B md ops g n d p (listed.setIfInBounds i true) && (plan3B md ops g n d q (listed.setIfInBounds j true) && plan3B md ops g n d r (listed.setIfInBounds k true)))
  | _, _, _ => false
def plan3Ok (ops : Array Oper) (n : Nat) (plan : Plan3) : Bool :=
  Region.noSelect ops && decide (n < ops.size) && Region.sinkB .any ops n && Region.chainB .any ops n && plan3B .any ops (ops.size - n) n n plan (Array.replicate ops.size false)

def wpPlan3 (P : Program) (ops : Array Oper) (Q : Exit → Act → World → Prop) (S : World → Prop) (K : Act → World → Prop) : Plan3 → Act → World → Prop
  | .stop, a, w => K a w
  | .read i p, a, w => ∃ o v, ops[i]? = some o ∧ YieldsIf P ops S o v a ∧ wpPlan3 P ops Q S K p (a.put o.dst v) w
  | .one i p, a, w => wpOp P ops Q i (fun a' w' => S w' ∧ wpPlan3 P ops Q S K p a' w') a w
  | .two i j p q, a, w => wpOp P ops Q i (fun a' w' => S w' ∧ wpPlan3 P ops Q S K p a' w') a w ∧ wpOp P ops Q j (fun a' w' => S w' ∧ wpPlan3 P ops Q S K q a' w') a w
  | .three i j k p q r, a, w => wpOp P ops Q i (fun a' w' => S w' ∧ wpPlan3 P ops Q S K p a' w') a w ∧ wpOp P ops Q j (fun a' w' => S w' ∧ wpPlan3 P ops Q S K q a' w') a w ∧ wpOp P ops Q k (fun a' w' => S w' ∧ wpPlan3 P ops Q S K r a' w') a w

theorem anyHL_plan3 {n g : Nat} {K : Act → World → Prop} (hsel : Region.noSelect ops = true) (hs : Region.sinkB md ops n = true) (hc : Region.chainB md ops n = true) (hn : n < ops.size) (hQ : ∀ d v c a w, Q (.panic c) (a.put d v) w → Q (.panic c) a w) :
    ∀ (d : Nat) (l : Plan3) (listed : Array Bool) (a : Act) (w : World), HeadInv md ops n listed → plan3B md ops g n d l listed = true → S w → wpPlan3 P ops Q S K l a w →
      anyHL P md ops Q S n (fun listed' a' w' => Region.seqB md ops g n listed' = true ∧ K a' w') d listed a w
  | 0, .stop, listed, a, w, _, hB, _, h => ⟨hB, h⟩
  | d + 1, .read i p, listed, a, w, inv, hB, hS, h => by
    simp only [plan3B, Bool.and_eq_true, decide_eq_true_eq] at hB
    obtain ⟨⟨⟨hr, hf⟩, hin⟩, hB'⟩ := hB
    obtain ⟨o, v, ho, hy, hK⟩ := h
    have hr' : i ∈ Region.ready md ops listed := by simpa using hr
    exact anyHL_first ho (Region.noSelect_spec hsel) hs hc hn hin (fun c a w => hQ _ _ c a w) (fun listed' a' w' hL => seqB_ready hL.1) d listed a w inv (Region.free_spec ho hf) hr' hy hS
      (anyHL_plan3 hsel hs hc hn hQ d p _ _ w (inv.set hr' hin) hB' hS hK)
  | d + 1, .one i p, listed, a, w, inv, hB, hS, h => by
    simp only [plan3B, Bool.and_eq_true, decide_eq_true_eq] at hB
    obtain ⟨⟨hr, hin⟩, hB'⟩ := hB
    have hr' : i ∈ Region.ready md ops listed := by rw [hr]; exact List.mem_singleton.2 rfl
    refine ⟨by rw [hr]; simp, fun j hj => ?_⟩
    rw [hr] at hj
    have hji : j = i := by simpa using hj
    subst hji
    exact ⟨hin, wpOp_mono (fun a' w' h' => ⟨h'.1, anyHL_plan3 hsel hs hc hn hQ d p _ a' w' (inv.set hr' hin) hB' h'.1 h'.2⟩) h⟩
  | d + 1, .two i j p q, listed, a, w, inv, hB, hS, h => by
    simp only [plan3B, Bool.and_eq_true, decide_eq_true_eq] at hB
    obtain ⟨⟨hr, hin, hjn⟩, hB1, hB2⟩ := hB
    have hr1 : i ∈ Region.ready md ops listed := by rw [hr]; simp
    have hr2 : j ∈ Region.ready md ops listed := by rw [hr]; simp
    refine ⟨by rw [hr]; simp, fun k hk => ?_⟩
    rw [hr] at hk
    have hki : k = i ∨ k = j := by simpa using hk
    rcases hki with rfl | rfl
    · exact ⟨hin, wpOp_mono (fun a' w' h' => ⟨h'.1, anyHL_plan3 hsel hs hc hn hQ d p _ a' w' (inv.set hr1 hin) hB1 h'.1 h'.2⟩) h.1⟩
    · exact ⟨hjn, wpOp_mono (fun a' w' h' => ⟨h'.1, anyHL_plan3 hsel hs hc hn hQ d q _ a' w' (inv.set hr2 hjn) hB2 h'.1 h'.2⟩) h.2⟩
  | d + 1, .three i j l p q r, listed, a, w, inv, hB, hS, h => by
    simp only [plan3B, Bool.and_eq_true, decide_eq_true_eq] at hB
    obtain ⟨⟨hr, hin, hjn, hln⟩, hB1, hB2, hB3⟩ := hB
    have hr1 : i ∈ Region.ready md ops listed := by rw [hr]; simp
    have hr2 : j ∈ Region.ready md ops listed := by rw [hr]; simp
    have hr3 : l ∈ Region.ready md ops listed := by rw [hr]; simp
    refine ⟨by rw [hr]; simp, fun k hk => ?_⟩
    rw [hr] at hk
    have hki : k = i ∨ k = j ∨ k = l := by simpa using hk
    rcases hki with rfl | rfl | rfl
    · exact ⟨hin, wpOp_mono (fun a' w' h' => ⟨h'.1, anyHL_plan3 hsel hs hc hn hQ d p _ a' w' (inv.set hr1 hin) hB1 h'.1 h'.2⟩) h.1⟩
    · exact ⟨hjn, wpOp_mono (fun a' w' h' => ⟨h'.1, anyHL_plan3 hsel hs hc hn hQ d q _ a' w' (inv.set hr2 hjn) hB2 h'.1 h'.2⟩) h.2.1⟩
    · exact ⟨hln, wpOp_mono (fun a' w' h' => ⟨h'.1, anyHL_plan3 hsel hs hc hn hQ d r _ a' w' (inv.set hr3 hln) hB3 h'.1 h'.2⟩) h.2.2⟩
  | 0, .three _ _ _ _ _ _, _, _, _, _, hB, _, _ => by simp [plan3B] at hB
  | 0, .read _ _, _, _, _, _, hB, _, _ => by simp [plan3B] at hB
  | 0, .one _ _, _, _, _, _, hB, _, _ => by simp [plan3B] at hB
  | 0, .two _ _ _ _, _, _, _, _, hB, _, _ => by simp [plan3B] at hB
  | _ + 1, .stop, _, _, _, _, hB, _, _ => by simp [plan3B] at hB

/-- A region by its plan. -/
theorem region_plan3 {id : Nat} {a : Act} {w : World} {l : List Oper} (S : World → Prop) (n : Nat) (plan : Plan3) (hm : P.follows .mixedOrders = true) (hB : plan3Ok l.toArray n plan = true) (hS : S w.drew)
    (h : wpPlan3 P l.toArray (NoPanic Q) S (fun a' w' => wpList P l.toArray Q (l.drop n) a' w') plan a w.drew) : (Code.region id l.toArray true).wp P Q a w := by
  simp only [plan3Ok, Bool.and_eq_true, decide_eq_true_eq] at hB
  obtain ⟨⟨⟨⟨hsel, hn⟩, hs⟩, hc⟩, hplan⟩ := hB
  have hn' : n < l.length := by simpa using hn
  have hdl : (l.drop n).length = l.toArray.size - n := by simp
  have inv0 : HeadInv .any l.toArray n (Array.replicate l.toArray.size false) :=
    ⟨by simp, fun j oj _ hl => (by rw [getD_replicate_false] at hl; cases hl), fun t _ ht => getD_in (by simpa using ht) (getD_replicate_false _ _)⟩
  have H := anyHL_plan3 (P := P) (Q := NoPanic Q) (S := S) hsel hs hc hn (fun _ _ _ _ _ h => h) n plan _ a w.drew inv0 hplan hS h
  refine wp_region_any hm ?_
  have := any_of_headH (Q := Q) (g := l.toArray.size - n) (fun listed a' w' hL => by
    have := wpAny_of_seq (md := .any) (Q' := Q) (l.drop n) n listed a' w' (fun j => by simp [List.getElem?_drop]) (by rw [hdl]; exact hL.1) hL.2
    rwa [hdl] at this) _ _ _ _ H
  rw [show n + (l.toArray.size - n) = l.toArray.size by omega] at this
  exact this

variable {K : Act → World → Prop} {i j l : Nat} {p q r : Plan3} {a : Act} {w : World} {o : Oper}
theorem plan3_read {v : Value} (ho : ops[i]? = some o) (hw : Region.wanted o (yielded ops a.tmps) = true) (hy : ∀ w, S w → (execOp a.eval o).run P w = .ok (.value v) w) (h : wpPlan3 P ops Q S K p (a.put o.dst v) w) : wpPlan3 P ops Q S K (.read i p) a w :=
  ⟨o, v, ho, .inl ⟨hw, hy⟩, h⟩
theorem plan3_one (h : wpOp P ops Q i (fun a' w' => S w' ∧ wpPlan3 P ops Q S K p a' w') a w) : wpPlan3 P ops Q S K (.one i p) a w := h
theorem plan3_two (h1 : wpOp P ops Q i (fun a' w' => S w' ∧ wpPlan3 P ops Q S K p a' w') a w) (h2 : wpOp P ops Q j (fun a' w' => S w' ∧ wpPlan3 P ops Q S K q a' w') a w) : wpPlan3 P ops Q S K (.two i j p q) a w := ⟨h1, h2⟩
theorem plan3_three (h1 : wpOp P ops Q i (fun a' w' => S w' ∧ wpPlan3 P ops Q S K p a' w') a w) (h2 : wpOp P ops Q j (fun a' w' => S w' ∧ wpPlan3 P ops Q S K q a' w') a w) (h3 : wpOp P ops Q l (fun a' w' => S w' ∧ wpPlan3 P ops Q S K r a' w') a w) : wpPlan3 P ops Q S K (.three i j l p q r) a w := ⟨h1, h2, h3⟩
theorem plan3_stop (h : K a w) : wpPlan3 P ops Q S K .stop a w := h
end
end Go.Proofs.Yteffmidpinlpjaa
