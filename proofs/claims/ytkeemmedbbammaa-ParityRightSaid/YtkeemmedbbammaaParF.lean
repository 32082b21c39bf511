/- slices.Clone of a row and of rows, and banks copied: in memory of one's own; no condition but that they read. -/
import Derived.Test.YtkeemmedbbammaaParE
namespace Go.Proofs.Ytkeemmedbbammaa
set_option linter.unusedVariables false
open Go.ChangeShapes Go.WideShapes Go.ChangeAt Go.RowKit

/-- A row in memory of one's own, as a value. -/
def Wv (base : Nat) (w : World) (v : Value) (l : List Nat) : Prop := w.ownsRow base 26 1 v l.length (u32C l)
theorem Wv.rs {base : Nat} {w : World} {v : Value} {l : List Nat} (h : Wv base w v l) (hb : ∀ x ∈ l, x < 4294967296) : Rs w v l := by
  obtain ⟨p, c, rfl, hc⟩ := own_cap h
  exact ⟨p, c, rfl, hc, nm_own h rfl hb⟩

theorem clone_words (v : Value) (l : List Nat) (w : World) (h : Rs w v l) (hm : l.length ≤ 100) :
    Calls Try.prog 34 #[v] w fun e w' => ∃ r, e = .returned r ∧ Wv w.heap.size w' r l ∧ Below w.heap.size w w' := by
  obtain ⟨p, c, rfl, hc, hby⟩ := h
  obtain ⟨i0, hi, hz0, hz1, hz2⟩ := info_parts info26
  have HI := Lib.hid (And.intro hi (And.intro hz0 (And.intro hz1 hz2)))
  have HS : Hid (Sl w p l.length (u32C l)) := Lib.hid hby.sl
  clear hby hi hz0 hz1 hz2
  have hq : ∀ W, (binOp .eql 23 (.slice p l.length c) (.slice none 0 0)).run Try.prog W = .ok (.bool p.isNone) W := fun W => Lib.run_eql_slice_nil W _ 26 _ _ _ _ _ Try.underlying23
  unfold Wv
  obtain ⟨n, hn⟩ : ∃ n, n = l.length := ⟨_, rfl⟩
  rw [← hn] at HS hm hc hq ⊢
  have HN := Lib.hid hn
  clear hn
  cases p with
  | none =>
    have h0 : n = 0 := by
      rcases Nat.eq_zero_or_pos n with h0 | h0
      · exact h0
      · obtain ⟨b, off, _, h2, _⟩ := HS.out h0
        cases h2
    subst h0
    have hl : l = [] := List.eq_nil_of_length_eq_zero HN.out.symm
    subst hl
    clear HS HN hc HI
    simp only [Option.isNone_none, Option.isNone_some] at hq
    go_enter Try.func34, Try.ntmps34
    go_wp2
    go_ret
    exact ⟨_, rfl, World.ownsRow_nil _ _ _ _, Below.refl _ _⟩
  | some a =>
    simp only [Option.isNone_none, Option.isNone_some] at hq
    go_enter Try.func34, Try.ntmps34
    go_wp2_with (first | (at_builtin; refine wpList_append_sl rfl _ _ 23 rfl w.heap.size 26 i0 (.int .u32 0) 1 4 Try.underlying23 HI.out.1 HI.out.2.1 HI.out.2.2.1 HI.out.2.2.2 rfl (by decide) _ 0 [] rfl (fresh_made (Nat.le_refl _)) (some a) n c (u32C l) rfl (by rw [u32C_len, HN.out, Nat.mul_one]) (HS.out.below ((Below.refl _ _).alloc (Nat.le_refl _) _)) (u32C_one _) (by unfold maxLen; omega) (by omega) (by simp) ?_))
    intro v' w' g1 g2 g3
    have HG : Hid (w'.ownsRow w.heap.size 26 1 v' n (u32C l)) := Lib.hid (by simpa using g1)
    have HB : Hid (Below w.heap.size w w') := Lib.hid (((Below.refl w.heap.size w).alloc (Nat.le_refl _) _).grown g2 (by simp) (fun k hk => by simp [Value.ownBlock] at hk; omega))
    clear g1 g2 g3
    go_wp2
    go_ret
    exact ⟨_, rfl, HG.out, HB.out⟩

theorem clone_rows (p : Option Addr) (n c : Nat) (xs : List Value) (L : List (List Nat)) (w : World) (hz : L.length = n) (h : Rw w p xs L) :
    Calls Try.prog 33 #[.slice p n c] w fun e w' => ∃ r, e = .returned r ∧ w'.ownsRow w.heap.size 23 1 r n xs ∧ Below w.heap.size w w' := by
  obtain ⟨i0, hi, hz0, hz1, hz2⟩ := info_parts info23
  have HI := Lib.hid (And.intro hi (And.intro hz0 (And.intro hz1 hz2)))
  have hm : n ≤ 100 := by rw [← hz]; exact h.n100
  have HS : Hid (Sl w p n xs) := by rw [← hz]; exact h.sl
  have HN : Hid (xs.length = n) := by rw [← hz]; exact h.len
  have H1 := Lib.hid h.one
  have hq : ∀ W, (binOp .eql 22 (.slice p n c) (.slice none 0 0)).run Try.prog W = .ok (.bool p.isNone) W := fun W => Lib.run_eql_slice_nil W _ 23 _ _ _ _ _ Try.underlying22
  clear hi hz0 hz1 hz2 hz h
  cases p with
  | none =>
    have h0 : n = 0 := by
      rcases Nat.eq_zero_or_pos n with h0 | h0
      · exact h0
      · obtain ⟨b, off, _, h2, _⟩ := HS.out h0
        cases h2
    subst h0
    have hl : xs = [] := List.eq_nil_of_length_eq_zero HN.out
    subst hl
    clear HS HN HI H1
    simp only [Option.isNone_none, Option.isNone_some] at hq
    go_enter Try.func33, Try.ntmps33
    go_wp2
    go_ret
    exact ⟨_, rfl, World.ownsRow_nil _ _ _ _, Below.refl _ _⟩
  | some a =>
    simp only [Option.isNone_none, Option.isNone_some] at hq
    go_enter Try.func33, Try.ntmps33
    go_wp2_with (first | (at_builtin; refine wpList_append_sl rfl _ _ 22 rfl w.heap.size 23 i0 (.slice none 0 0) 1 24 Try.underlying22 HI.out.1 HI.out.2.1 HI.out.2.2.1 HI.out.2.2.2 rfl (by decide) _ 0 [] rfl (fresh_made (Nat.le_refl _)) (some a) n c xs rfl (by rw [HN.out, Nat.mul_one]) (HS.out.below ((Below.refl _ _).alloc (Nat.le_refl _) _)) H1.out (by unfold maxLen; omega) (by omega) (by simp) ?_))
    intro v' w' g1 g2 g3
    have HG : Hid (w'.ownsRow w.heap.size 23 1 v' n xs) := Lib.hid (by simpa using g1)
    have HB : Hid (Below w.heap.size w w') := Lib.hid (((Below.refl w.heap.size w).alloc (Nat.le_refl _) _).grown g2 (by simp) (fun k hk => by simp [Value.ownBlock] at hk; omega))
    clear g1 g2 g3
    go_wp2
    go_ret
    exact ⟨_, rfl, HG.out, HB.out⟩

/-- Rows in memory of one's own, of which the first k are copied. -/
structure OwnK (base : Nat) (w : World) (v : Value) (xs ys : List Value) (L : List (List Nat)) (k : Nat) : Prop where
  row : w.ownsRow base 23 1 v L.length ys
  fr : ∀ j, j < k → w.ownsRow base 26 1 (ys.getD j vz) (L.getD j []).length (u32C (L.getD j []))
  sep : ∀ j, j < k → ∀ g, (ys.getD j vz).ownBlock = some g → v.ownBlock ≠ some g
  two : ∀ i j, i < k → j < k → i ≠ j → ∀ g, (ys.getD i vz).ownBlock = some g → (ys.getD j vz).ownBlock ≠ some g
  rest : ∀ j, k ≤ j → ys.getD j vz = xs.getD j vz
theorem OwnK.below {base : Nat} {w w' : World} {v : Value} {xs ys : List Value} {L : List (List Nat)} {k : Nat} (h : OwnK base w v xs ys L k) (hb : Below w.heap.size w w') : OwnK base w' v xs ys L k :=
  ⟨own_below h.row hb, fun j hj => own_below (h.fr j hj) hb, h.sep, h.two, h.rest⟩
theorem OwnK.begin {base : Nat} {w : World} {v : Value} {xs : List Value} {L : List (List Nat)} (h : w.ownsRow base 23 1 v L.length xs) : OwnK base w v xs xs L 0 :=
  ⟨h, fun j hj => absurd hj (Nat.not_lt_zero _), fun j hj => absurd hj (Nat.not_lt_zero _), fun i j hi => absurd hi (Nat.not_lt_zero _), fun j _ => rfl⟩
theorem OwnK.step {base g c k : Nat} {w w2 : World} {xs ys : List Value} {L : List (List Nat)} {r : Value} (h : OwnK base w (.slice (some ⟨g, 0, none⟩) L.length c) xs ys L k) (hk : k < L.length) (hbase : base ≤ w.heap.size) (hb : Below w.heap.size w w2)
    (hr : w2.ownsRow w.heap.size 26 1 r (L.getD k []).length (u32C (L.getD k []))) : OwnK base (w2.setCell ⟨g, k, none⟩ r) (.slice (some ⟨g, 0, none⟩) L.length c) xs (ys.set k r) L (k + 1) := by
  have h2 := h.below hb
  have hlen : ys.length = L.length := by rw [h.row.1, Nat.mul_one]
  have hgrow := (h2.row.stored k r).2
  have hgl : g < w.heap.size := (h.row.lt g rfl).2
  have hrg : ∀ b, r.ownBlock = some b → w.heap.size ≤ b := fun b hb => (hr.lt b hb).1
  have gD : ∀ j, (ys.set k r).getD j vz = if j = k then r else ys.getD j vz := fun j => getD_set ys vz r k j (by omega)
  refine ⟨(h2.row.stored k r).1, fun j hj => ?_, fun j hj b hb => ?_, fun i j hi hj hij b hb => ?_, fun j hj => ?_⟩
  · rw [gD]
    by_cases e : j = k
    · subst e
      rw [if_pos rfl]
      refine (own_base hr hbase).kept hgrow ?_
      cases hv : r.ownBlock with
      | none => exact .inl rfl
      | some b => exact .inr (fun e => by injection e with e; have := hrg b hv; omega)
    · rw [if_neg e]
      refine (h2.fr j (by omega)).kept hgrow ?_
      cases hv : (ys.getD j vz).ownBlock with
      | none => exact .inl rfl
      | some b => exact .inr (fun e2 => h.sep j (by omega) b hv (by rw [e2]; rfl))
  · rw [gD] at hb
    by_cases e : j = k
    · subst e
      rw [if_pos rfl] at hb
      have := hrg b hb
      intro e2
      injection e2 with e2
      simp at e2
      omega
    · rw [if_neg e] at hb
      exact h.sep j (by omega) b hb
  · rw [gD] at hb ⊢
    by_cases e : i = k
    · subst e
      rw [if_pos rfl] at hb
      rw [if_neg (fun e => hij e.symm)]
      intro e2
      have h1 := hrg b hb
      have h3 := ((h.fr j (by omega)).lt b e2).2
      omega
    · rw [if_neg e] at hb
      by_cases e' : j = k
      · subst e'
        rw [if_pos rfl]
        intro e2
        have h1 := hrg b e2
        have h3 := ((h.fr i (by omega)).lt b hb).2
        omega
      · rw [if_neg e']
        exact h.two i j (by omega) (by omega) hij b hb
  · rw [gD, if_neg (by omega)]
    exact h.rest j (by omega)
/-- Rows in memory of one's own. -/
def Own (base : Nat) (w : World) (v : Value) (ys : List Value) (L : List (List Nat)) : Prop := OwnK base w v ys ys L L.length
theorem OwnK.done {base : Nat} {w : World} {v : Value} {xs ys : List Value} {L : List (List Nat)} (h : OwnK base w v xs ys L L.length) : Own base w v ys L := ⟨h.row, h.fr, h.sep, h.two, fun _ _ => rfl⟩
theorem Own.below {base : Nat} {w w' : World} {v : Value} {ys : List Value} {L : List (List Nat)} (h : Own base w v ys L) (hb : Below w.heap.size w w') : Own base w' v ys L := OwnK.below h hb
theorem Own.mono {base base' : Nat} {w : World} {v : Value} {ys : List Value} {L : List (List Nat)} (h : Own base w v ys L) (hb : base' ≤ base) : Own base' w v ys L :=
  ⟨own_base h.row hb, fun j hj => own_base (h.fr j hj) hb, h.sep, h.two, h.rest⟩
theorem Own.rw_ {base : Nat} {w : World} {v : Value} {ys : List Value} {L : List (List Nat)} (h : Own base w v ys L) (hn : L.length ≤ 100) (hl : ∀ l ∈ L, l.length ≤ 100) (hb : ∀ l ∈ L, ∀ x ∈ l, x < 4294967296) : ∃ p c, v = .slice p L.length c ∧ L.length ≤ c ∧ Rw w p ys L := by
  obtain ⟨p, c, rfl, hs⟩ := Sl.own h.row
  obtain ⟨p', c', e, hc⟩ := own_cap h.row
  injection e with _ _ e
  subst e
  exact ⟨p, c, rfl, hc, by rw [h.row.1, Nat.mul_one], hs, fun k hk => Wv.rs (h.fr k hk) (hb _ (mem_getD L [] k hk)), hn, hl⟩
/-- What lies elsewhere is written. -/
theorem Own.off {base : Nat} {w : World} {v : Value} {ys : List Value} {L : List (List Nat)} (h : Own base w v ys L) {R : Nat} (hv : ∀ g, v.ownBlock = some g → g ≠ R) (hr : ∀ k, k < L.length → ∀ g, (ys.getD k vz).ownBlock = some g → g ≠ R) (j : Nat) (u : Value) : Own base (w.setCell ⟨R, j, none⟩ u) v ys L :=
  ⟨own_off h.row hv j u, fun i hi => own_off (h.fr i hi) (hr i hi) j u, h.sep, h.two, h.rest⟩
theorem Own.ge {base : Nat} {w : World} {v : Value} {ys : List Value} {L : List (List Nat)} (h : Own base w v ys L) : (∀ g, v.ownBlock = some g → base ≤ g) ∧ ∀ k, k < L.length → ∀ g, (ys.getD k vz).ownBlock = some g → base ≤ g :=
  ⟨fun g e => (h.row.lt g e).1, fun k hk g e => ((h.fr k hk).lt g e).1⟩
theorem Own.setOff {base : Nat} {w : World} {v : Value} {ys : List Value} {L : List (List Nat)} (h : Own base w v ys L) {R : Nat} (hR : R < base) (j : Nat) (u : Value) : Own base (w.setCell ⟨R, j, none⟩ u) v ys L :=
  h.off (fun g e => by have := h.ge.1 g e; omega) (fun k hk g e => by have := h.ge.2 k hk g e; omega) j u
end Go.Proofs.Ytkeemmedbbammaa
