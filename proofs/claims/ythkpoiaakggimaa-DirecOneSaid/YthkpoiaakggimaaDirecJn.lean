/- What holds of what is asked and given back, one by one: plain values; no condition. -/
import Derived.Test.YthkpoiaakggimaaDirecI
namespace Go.Proofs.Ythkpoiaakggimaa
set_option linter.unusedVariables false

theorem may_has {n : Nat} {E : En} {k : Nat} (hm : mayE E (n : Int) = true) (hk : k < n) : hasE E (k : Int) = true ∧ E.share.length = n ∧ 1 ≤ n ∧ n ≤ 4 := by
  obtain ⟨h1, h2, _⟩ := mayE_iff.1 hm
  exact ⟨hasE_iff.2 ⟨by rw [h2]; exact hm, by omega, by omega⟩, by omega, by omega, by omega⟩
theorem mayE_rep {n k : Nat} (h4 : n ≤ 4) (hk : k < n) : mayE ⟨(k : Int) + 1, List.replicate n false⟩ (n : Int) = true :=
  mayE_iff.2 ⟨by omega, by simp, by show 0 ≤ (k : Int) + 1; omega, by show (k : Int) + 1 ≤ n; omega, ownB_iff.2 (.inr (getD_rep _ _))⟩
theorem one_read {n : Nat} {E : En} {k : Nat} (hm : mayE E (n : Int) = true) (hk : k < n) : ((readC E k).owner = (k : Int) + 1 ∨ (readC E k).share.getD k false = true) ∧ (0 < E.owner → (readC E k).owner = E.owner) ∧
    (∀ c, c < n → E.share.getD c false = true → (readC E k).share.getD c false = true ∨ (readC E k).owner = (c : Int) + 1) ∧ mayE (readC E k) (n : Int) = true ∧ readF E k = E.owner ∧ askX E k = 0 := by
  obtain ⟨hh, hl, h1, h4⟩ := may_has hm hk
  have h0 := has_yes hh
  refine (?_ : _ ∧ _ ∧ _ ∧ _) |> fun h => ⟨h.1, h.2.1, h.2.2.1, h.2.2.2, h0.1, h0.2.1⟩
  unfold readC
  rw [if_pos hh]
  by_cases hlo : loneE E (k : Int) = true
  · rw [if_pos hlo, hl]
    obtain ⟨ho, hn⟩ := loneE_iff.1 hlo
    refine ⟨.inl rfl, fun h => by omega, fun c hc hs => .inr ?_, mayE_rep h4 hk⟩
    by_cases e : (c : Int) = (k : Int)
    · rw [e]
    · unfold othE at hn
      rw [oth_none hn c (by omega) e] at hs
      cases hs
  · rw [if_neg hlo]
    by_cases ho : E.owner = (k : Int) + 1
    · rw [if_pos ho]
      exact ⟨.inl ho, fun _ => rfl, fun c hc hs => .inl hs, hm⟩
    · rw [if_neg ho]
      simp only [Int.toNat_natCast]
      refine ⟨.inr (by show (E.share.set k true).getD k false = true; rw [getD_set _ _ _ _ (by omega)]; simp), (fun _ => by first | trivial | rfl), fun c hc hs => .inl ?_, ?_⟩
      · show (E.share.set k true).getD c false = true
        rw [getD_set _ _ _ _ (by omega)]
        split
        · rfl
        · exact hs
      · obtain ⟨h5, h6, h7, h8, h9⟩ := mayE_iff.1 hm
        refine mayE_iff.2 ⟨h5, by show ((E.share.set k true).length : Int) = n; rw [List.length_set]; exact h6, h7, h8, ownB_iff.2 ?_⟩
        rcases ownB_iff.1 h9 with e | e
        · exact .inl e
        · by_cases e0 : E.owner = 0
          · exact .inl e0
          · refine .inr ?_
            show (E.share.set k true).getD (E.owner - 1).toNat false = false
            rw [getD_set _ _ _ _ (by omega), if_neg (by omega)]
            exact e
theorem one_write {n : Nat} {E : En} {k : Nat} (hm : mayE E (n : Int) = true) (hk : k < n) : (writeC E k).owner = (k : Int) + 1 ∧ aloneE (writeC E k) = true ∧ mayE (writeC E k) (n : Int) = true ∧ readF E k = E.owner ∧ askX E k = 0 ∧ writeT E k = oth E.share k n := by
  obtain ⟨hh, hl, h1, h4⟩ := may_has hm hk
  obtain ⟨e1, e2, e3, e4⟩ := has_yes hh
  rw [e3, hl]
  refine ⟨rfl, ?_, mayE_rep h4 hk, e1, e2, by rw [e4]; unfold othE; rw [hl]⟩
  have hm2 := mayE_rep (k := k) h4 hk
  have ho : decide (0 < (k : Int) + 1) = true := decide_eq_true (by omega)
  unfold aloneE
  rw [contains_rep]
  show (mayE ⟨(k : Int) + 1, List.replicate n false⟩ ((List.replicate n false).length : Int) && (decide (0 < (k : Int) + 1) && !false)) = true
  rw [List.length_replicate, hm2, ho]; rfl
theorem one_back {n : Nat} {E : En} {k : Nat} (hm : mayE E (n : Int) = true) (hk : k < n) : (E.owner = (k : Int) + 1 ∧ backX E k = 0 ∧ (backC E k).owner = 0 ∨ E.owner ≠ (k : Int) + 1 ∧ backX E k = 7 ∧ (backC E k).owner = E.owner) ∧ mayE (backC E k) (n : Int) = true := by
  obtain ⟨hh, hl, h1, h4⟩ := may_has hm hk
  unfold backC backX
  rw [if_pos hh, if_pos hh]
  by_cases ho : E.owner = (k : Int) + 1
  · rw [if_pos ho, if_pos ho]
    obtain ⟨h5, h6, _⟩ := mayE_iff.1 hm
    exact ⟨.inl ⟨ho, rfl, rfl⟩, mayE_iff.2 ⟨h5, h6, Int.le_refl _, by show (0 : Int) ≤ n; omega, ownB_iff.2 (.inl rfl)⟩⟩
  · rw [if_neg ho, if_neg ho]
    exact ⟨.inr ⟨ho, rfl, rfl⟩, hm⟩
theorem oth_range {l : List Bool} {k : Int} {n : Nat} (c : Nat) (hc : c < (oth l k n).length) : (oth l k n).getD c 0 < n ∧ l.getD ((oth l k n).getD c 0) false = true ∧ (((oth l k n).getD c 0 : Nat) : Int) ≠ k := by
  have hm := List.getElem_mem hc
  rw [List.getD_eq_getElem?_getD, List.getElem?_eq_getElem hc]
  exact oth_mem.1 hm
theorem oth_rises {l : List Bool} {k : Int} {n : Nat} (c : Nat) (hc : c + 1 < (oth l k n).length) : (oth l k n).getD c 0 < (oth l k n).getD (c + 1) 0 := by
  have hp : (oth l k n).Pairwise (· < ·) := List.Pairwise.filter _ List.pairwise_lt_range
  have := List.pairwise_iff_getElem.1 hp c (c + 1) (by omega) hc (by omega)
  rw [List.getD_eq_getElem?_getD, List.getElem?_eq_getElem (by omega), List.getD_eq_getElem?_getD, List.getElem?_eq_getElem hc]
  exact this
end Go.Proofs.Ythkpoiaakggimaa
