/- What DirecAll knows as it goes: plain values; no condition. -/
import Derived.Test.YthkpoiaakggimaaDirecG
namespace Go.Proofs.Ythkpoiaakggimaa
set_option linter.unusedVariables false

/-- Behind i reads: who read first (F), who read (R), what is known (E). -/
def Al (n : Nat) (E : En) (F : Int) (R : List Bool) (i : Nat) : Prop :=
  R.length = n ∧ E.share.length = n ∧ ((i = 0 ∧ F = -1 ∧ E.owner = 0 ∧ (∀ c, c < n → E.share.getD c false = false) ∧ ∀ c, c < n → R.getD c false = false) ∨
    (0 < i ∧ ∃ f : Nat, F = (f : Int) ∧ f < n ∧ E.owner = (f : Int) + 1 ∧ ∀ c, c < n → E.share.getD c false = (R.getD c false && decide (c ≠ f))))
theorem Al.begin (n : Nat) : Al n ⟨0, List.replicate n false⟩ (-1) (List.replicate n false) 0 :=
  ⟨by simp, by simp, .inl ⟨rfl, rfl, rfl, fun c _ => getD_rep n c, fun c _ => getD_rep n c⟩⟩
theorem Al.may {n : Nat} {E : En} {F : Int} {R : List Bool} {i : Nat} (h : Al n E F R i) (h1 : 1 ≤ n) (h4 : n ≤ 4) : mayE E (E.share.length : Int) = true := by
  obtain ⟨_, hl, ⟨_, _, ho, _⟩ | ⟨_, f, _, hf, ho, hs⟩⟩ := h
  · exact mayE_iff.2 ⟨by omega, rfl, by omega, by omega, ownB_iff.2 (.inl ho)⟩
  · refine mayE_iff.2 ⟨by omega, rfl, by omega, by omega, ownB_iff.2 (.inr ?_)⟩
    rw [ho, show ((f : Int) + 1 - 1).toNat = f by omega, hs f hf]
    simp
theorem Al.has {n : Nat} {E : En} {F : Int} {R : List Bool} {i k : Nat} (h : Al n E F R i) (h1 : 1 ≤ n) (h4 : n ≤ 4) (hk : k < n) : hasE E (k : Int) = true :=
  hasE_iff.2 ⟨h.may h1 h4, by omega, by rw [h.2.1]; omega⟩
theorem Al.neg {n : Nat} {E : En} {F : Int} {R : List Bool} {i : Nat} (h : Al n E F R i) : (i = 0 ∧ F = -1) ∨ (0 < i ∧ 0 ≤ F) := by
  obtain ⟨_, _, ⟨h1, h2, _⟩ | ⟨h1, f, h2, _⟩⟩ := h
  · exact .inl ⟨h1, h2⟩
  · exact .inr ⟨h1, by omega⟩
theorem Al.first {n : Nat} {E : En} {F : Int} {R : List Bool} {i k : Nat} (h : Al n E F R i) (h1 : 1 ≤ n) (h4 : n ≤ 4) (hk : k < n) (hi : i = 0) : Al n (readC E (k : Int)) (k : Int) (R.set k true) (i + 1) ∧ (readC E (k : Int)).owner = (k : Int) + 1 ∧ readF E (k : Int) = 0 ∧ askX E (k : Int) = 0 := by
  have hh := h.has h1 h4 hk
  obtain ⟨hr, hl, ⟨_, _, ho, hs, hR⟩ | ⟨h0, _⟩⟩ := h
  · have hlone : loneE E (k : Int) = true := loneE_iff.2 ⟨ho, by
      rcases Nat.eq_zero_or_pos (othE E (k : Int)).length with e | e
      · exact e
      · have hm := List.getElem_mem e
        unfold othE at hm
        obtain ⟨a, b, _⟩ := oth_mem.1 hm
        rw [hs _ (by omega)] at b
        cases b⟩
    have e1 : readC E (k : Int) = ⟨(k : Int) + 1, List.replicate n false⟩ := by unfold readC; rw [if_pos hh, if_pos hlone, hl]
    have e2 : readF E (k : Int) = 0 := by unfold readF; rw [if_pos hh, ho]
    refine ⟨?_, by rw [e1], e2, (has_yes hh).2.1⟩
    rw [e1]
    refine ⟨by rw [List.length_set]; exact hr, by simp, .inr ⟨by omega, k, rfl, hk, rfl, fun c hc => ?_⟩⟩
    rw [getD_rep, getD_set R true k c (by omega)]
    by_cases e : c = k
    · simp [e]
    · rw [if_neg e, hR c hc]; rfl
  · omega
theorem Al.next {n : Nat} {E : En} {F : Int} {R : List Bool} {i k : Nat} (h : Al n E F R i) (h1 : 1 ≤ n) (h4 : n ≤ 4) (hk : k < n) (hi : 0 < i) : Al n (readC E (k : Int)) F (R.set k true) (i + 1) ∧ (readC E (k : Int)).owner = F + 1 ∧ readF E (k : Int) = F + 1 ∧ askX E (k : Int) = 0 := by
  have hh := h.has h1 h4 hk
  obtain ⟨hr, hl, ⟨h0, _⟩ | ⟨_, f, hF, hf, ho, hs⟩⟩ := h
  · omega
  · have hlone : ¬ loneE E (k : Int) = true := fun e => by have := (loneE_iff.1 e).1; omega
    have e2 : readF E (k : Int) = F + 1 := by unfold readF; rw [if_pos hh, ho, hF]
    have e3 := (has_yes hh).2.1
    by_cases hkf : k = f
    · subst hkf
      have e1 : readC E (k : Int) = E := by unfold readC; rw [if_pos hh, if_neg hlone, if_pos ho]
      rw [e1]
      refine ⟨⟨by rw [List.length_set]; exact hr, hl, .inr ⟨by omega, k, hF, hf, ho, fun c hc => ?_⟩⟩, by rw [ho, hF], e2, e3⟩
      rw [hs c hc, getD_set R true k c (by omega)]
      by_cases e : c = k
      · simp [e]
      · rw [if_neg e]
    · have e1 : readC E (k : Int) = ⟨E.owner, E.share.set k true⟩ := by unfold readC; rw [if_pos hh, if_neg hlone, if_neg (by omega)]; rfl
      rw [e1]
      refine ⟨⟨by rw [List.length_set]; exact hr, by rw [List.length_set]; exact hl, .inr ⟨by omega, f, hF, hf, ho, fun c hc => ?_⟩⟩, by rw [ho, hF], e2, e3⟩
      show (E.share.set k true).getD c false = _
      rw [getD_set R true k c (by omega), getD_set E.share true k c (by omega)]
      by_cases e : c = k
      · rw [if_pos e, if_pos e, e]; simp [hkf]
      · rw [if_neg e, if_neg e, hs c hc]
theorem Al.write {n : Nat} {E : En} {F : Int} {R : List Bool} {i k : Nat} (h : Al n E F R i) (h1 : 1 ≤ n) (h4 : n ≤ 4) (hk : k < n) : (writeC E (k : Int)).owner = (k : Int) + 1 ∧ readF E (k : Int) = F + 1 ∧ askX E (k : Int) = 0 ∧ writeT E (k : Int) = oth E.share (k : Int) n ∧ aloneE (writeC E (k : Int)) = true := by
  have hh := h.has h1 h4 hk
  obtain ⟨e1, e2, e3, e4⟩ := has_yes hh
  obtain ⟨hr, hl, hc⟩ := h
  refine ⟨by rw [e3], ?_, e2, by rw [e4]; unfold othE; rw [hl], ?_⟩
  · rw [e1]
    rcases hc with ⟨_, a, b, _⟩ | ⟨_, f, a, _, b, _⟩
    · rw [a, b]; rfl
    · rw [a, b]
  · rw [e3, hl]
    unfold aloneE
    rw [contains_rep]
    have hm : mayE ⟨(k : Int) + 1, List.replicate n false⟩ ((List.replicate n false).length : Int) = true := mayE_iff.2 ⟨by rw [List.length_replicate]; omega, rfl, by show 0 ≤ (k : Int) + 1; omega, by rw [List.length_replicate]; show (k : Int) + 1 ≤ n; omega, ownB_iff.2 (.inr (getD_rep _ _))⟩
    have ho : decide (0 < (k : Int) + 1) = true := decide_eq_true (by omega)
    show (mayE ⟨(k : Int) + 1, List.replicate n false⟩ ((List.replicate n false).length : Int) && (decide (0 < (k : Int) + 1) && !false)) = true
    rw [hm, ho]; rfl
theorem Al.many {n : Nat} {E : En} {F : Int} {R : List Bool} {i : Nat} (h : Al n E F R i) (k : Int) (c : Nat) (hc : c < n) : othB E.share k c = (R.getD c false && (decide ((c : Int) ≠ k) && decide ((c : Int) ≠ F))) := by
  unfold othB
  obtain ⟨_, _, ⟨_, hF, _, hs, hR⟩ | ⟨_, f, hF, _, _, hs⟩⟩ := h
  · rw [hs c hc, hR c hc]; rfl
  · rw [hs c hc, hF, Bool.and_assoc]
    congr 1
    rw [Bool.and_comm]
    congr 1
    exact decide_eq_decide.2 (by omega)
end Go.Proofs.Ythkpoiaakggimaa
