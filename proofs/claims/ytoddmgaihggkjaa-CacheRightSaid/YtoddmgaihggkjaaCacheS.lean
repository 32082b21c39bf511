/- A cache in memory of one's own that is written; no condition. -/
import Derived.Test.YtoddmgaihggkjaaCacheK
namespace Go.Proofs.Ytoddmgaihggkjaa
set_option linter.unusedVariables false
open Go.ChangeShapes Go.WideShapes Go.ChangeAt Go.RowKit

theorem lnC_get (l : List Ln) (m : Nat) (hm : m < l.length * 4) : (lnC l)[m]? = (lnR (l.getD (m / 4) zL))[m % 4]? := by
  have e : m = m / 4 * 4 + m % 4 := by omega
  conv => lhs; rw [e]
  exact lnC_at l (m / 4) (m % 4) (by omega) (by omega)
theorem lnC_put (l : List Ln) (j : Nat) (hj : j < l.length) (x : Ln) : lnC (l.set j x) = ((((lnC l).set (j * 4) (.int .i64 x.addr)).set (j * 4 + 1) (.int .i64 x.state)).set (j * 4 + 2) (.int .u32 x.val)).set (j * 4 + 3) (.int .i64 x.used) := by
  refine List.ext_getElem? fun m => ?_
  by_cases hm : m < l.length * 4
  · rw [lnC_get _ m (by rw [List.length_set]; exact hm), getD_set _ _ _ _ _ hj]
    simp only [List.getElem?_set, List.length_set, lnC_len]
    have h4 : m % 4 = 0 ∨ m % 4 = 1 ∨ m % 4 = 2 ∨ m % 4 = 3 := by omega
    by_cases e : m / 4 = j
    · rw [if_pos e]
      rcases h4 with h | h | h | h
      · rw [h, if_neg (by omega), if_neg (by omega), if_neg (by omega), if_pos (by omega), if_pos (by omega)]; rfl
      · rw [h, if_neg (by omega), if_neg (by omega), if_pos (by omega), if_pos (by omega)]; rfl
      · rw [h, if_neg (by omega), if_pos (by omega), if_pos (by omega)]; rfl
      · rw [h, if_pos (by omega), if_pos (by omega)]; rfl
    · rw [if_neg e, if_neg (by omega), if_neg (by omega), if_neg (by omega), if_neg (by omega), lnC_get l m hm]
  · rw [List.getElem?_eq_none (by rw [lnC_len, List.length_set]; omega), List.getElem?_eq_none (by simp only [List.length_set, lnC_len]; omega)]
theorem lnC_used (l : List Ln) (j : Nat) (hj : j < l.length) (k : Int) : lnC (l.set j (usedL (l.getD j zL) k)) = (lnC l).set (j * 4 + 3) (.int .i64 k) := by
  have g := fun i (hi : i < 4) => lnC_at l j i hj hi
  have s := fun i v (h : (lnC l)[j * 4 + i]? = some v) => show (lnC l).set (j * 4 + i) v = lnC l from by
    obtain ⟨h1, h2⟩ := List.getElem?_eq_some_iff.1 h
    rw [← h2]; exact List.set_getElem_self h1
  rw [lnC_put l j hj]
  have e0 := s 0 (.int .i64 (l.getD j zL).addr) (g 0 (by decide))
  have e1 := s 1 (.int .i64 (l.getD j zL).state) (g 1 (by decide))
  have e2 := s 2 (.int .u32 (l.getD j zL).val) (g 2 (by decide))
  show ((((lnC l).set (j * 4 + 0) (.int .i64 (l.getD j zL).addr)).set (j * 4 + 1) (.int .i64 (l.getD j zL).state)).set (j * 4 + 2) (.int .u32 (l.getD j zL).val)).set (j * 4 + 3) (.int .i64 k) = _
  rw [e0, e1, e2]
section
variable {base : Nat} {w w' : World} {p : Option Addr} {n c : Nat} {ys : List Value} {C : Ch}
theorem OwnC.lt (h : OwnC base w p n c ys C) : (∀ g, (Value.slice p n c).ownBlock = some g → g < w.heap.size) ∧ ∀ k, k < n → ∀ g, (ys.getD k vz).ownBlock = some g → g < w.heap.size :=
  ⟨fun g e => (h.own.row.lt g e).2, fun k hk g e => ((h.own.fr k (by rw [h.zn]; exact hk)).lt g e).2⟩
theorem OwnC.setNot (h : OwnC base w p n c ys C) {R : Nat} (hv : ∀ g, (Value.slice p n c).ownBlock = some g → g ≠ R) (hr : ∀ k, k < n → ∀ g, (ys.getD k vz).ownBlock = some g → g ≠ R) (j : Nat) (u : Value) : OwnC base (w.setCell ⟨R, j, none⟩ u) p n c ys C :=
  ⟨h.zn, h.own.off hv (fun k hk => hr k (by rw [← h.zn]; exact hk)) j u, h.n100, h.l100⟩
theorem OwnC.as (h : OwnC base w p n c ys C) (k m s : Int) : OwnC base w p n c ys ⟨k, m, s, C.lines⟩ := ⟨h.zn, h.own, h.n100, h.l100⟩
/-- The row j is written anew in its place. -/
theorem OwnC.writeRow (h : OwnC base w p n c ys C) {j gr x cr : Nat} {l' : List Ln} (hj : j < n) (hv : ys.getD j vz = .slice (some ⟨gr, 0, none⟩) x cr) (hg : w.grownBy w' (some gr))
    (hr : w'.ownsRow base 30 4 (.slice (some ⟨gr, 0, none⟩) x cr) x (lnC l')) (hl : l'.length = x) (hx : x ≤ 100) (k m s : Int) : OwnC base w' p n c ys ⟨k, m, s, C.lines.set j l'⟩ := by
  have hjl : j < C.lines.length := by rw [h.zn]; exact hj
  have hb : (ys.getD j vz).ownBlock = some gr := by rw [hv]; rfl
  have hsep := h.own.sep j hjl gr hb
  have hD : ∀ i, (C.lines.set j l').getD i [] = if i = j then l' else C.lines.getD i [] := fun i => getD_set C.lines [] l' j i hjl
  refine ⟨by show (C.lines.set j l').length = n; rw [List.length_set]; exact h.zn, ⟨?_, fun i hi => ?_, fun i hi => ?_, fun i i' hi hi' => ?_, fun _ _ => rfl⟩, h.n100, fun i => ?_⟩
  · show w'.ownsRow base 28 1 _ (C.lines.set j l').length ys
    rw [List.length_set]; exact h.own.row.kept hg (.inr hsep)
  · have hi : i < (C.lines.set j l').length := hi
    rw [List.length_set] at hi
    show w'.ownsRow base 30 4 (ys.getD i vz) ((C.lines.set j l').getD i []).length (lnC ((C.lines.set j l').getD i []))
    rw [hD]
    by_cases e : i = j
    · subst e
      rw [if_pos rfl, hv, hl]
      exact hr
    · rw [if_neg e]
      exact (h.own.fr i hi).kept hg (.inr (fun e2 => h.own.two i j hi hjl e gr e2 hb))
  · have hi : i < (C.lines.set j l').length := hi
    rw [List.length_set] at hi; exact h.own.sep i hi
  · have hi : i < (C.lines.set j l').length := hi
    have hi' : i' < (C.lines.set j l').length := hi'
    rw [List.length_set] at hi hi'; exact h.own.two i i' hi hi'
  · show ((C.lines.set j l').getD i []).length ≤ 100
    rw [hD]
    split
    · rw [hl]; exact hx
    · exact h.l100 i
/-- The head of the row j is another one, which owns its lines in the same block, or in one that is new. -/
theorem OwnC.putRow {w1 : World} {g j : Nat} {r : Value} {l' : List Ln} {row : Option Nat} (h : OwnC base w (some ⟨g, 0, none⟩) n c ys C) (hj : j < n) (hg : w.grownBy w1 row) (hrow : row = none ∨ row = (ys.getD j vz).ownBlock)
    (hr : w1.ownsRow base 30 4 r l'.length (lnC l')) (hb : ∀ b, r.ownBlock = some b → (ys.getD j vz).ownBlock = some b ∨ w.heap.size ≤ b) (hx : l'.length ≤ 100) (k m s : Int) :
    OwnC base (w1.setCell ⟨g, j, none⟩ r) (some ⟨g, 0, none⟩) n c (ys.set j r) ⟨k, m, s, C.lines.set j l'⟩ := by
  have hjl : j < C.lines.length := by rw [h.zn]; exact hj
  have hys : ys.length = C.lines.length := by rw [h.own.row.1, Nat.mul_one]
  have hgl : g < w.heap.size := h.lt.1 g rfl
  have hsep : ∀ b, (ys.getD j vz).ownBlock = some b → b ≠ g := fun b e e2 => h.own.sep j hjl b e (by rw [e2]; rfl)
  have hrg : row ≠ some g := by
    rcases hrow with e | e
    · rw [e]; intro h; cases h
    · rw [e]; intro e2; exact hsep g e2 rfl
  have hhead := h.own.row.kept hg (.inr (fun e => hrg e.symm))
  rw [h.zn] at hhead
  have hst := hhead.stored j r
  have hbg : ∀ b, r.ownBlock = some b → b ≠ g := fun b e => by
    rcases hb b e with h1 | h1
    · exact hsep b h1
    · omega
  have hD : ∀ i, (C.lines.set j l').getD i [] = if i = j then l' else C.lines.getD i [] := fun i => getD_set C.lines [] l' j i hjl
  have hY : ∀ i, (ys.set j r).getD i vz = if i = j then r else ys.getD i vz := fun i => getD_set ys vz r j i (by omega)
  refine ⟨by show (C.lines.set j l').length = n; rw [List.length_set]; exact h.zn, ⟨?_, fun i hi => ?_, fun i hi b e => ?_, fun i i' hi hi' hne b e => ?_, fun _ _ => rfl⟩, h.n100, fun i => ?_⟩
  · show (w1.setCell ⟨g, j, none⟩ r).ownsRow base 28 1 _ (C.lines.set j l').length (ys.set j r)
    rw [List.length_set, h.zn]; exact hst.1
  · have hi : i < (C.lines.set j l').length := hi
    rw [List.length_set] at hi
    show (w1.setCell ⟨g, j, none⟩ r).ownsRow base 30 4 ((ys.set j r).getD i vz) ((C.lines.set j l').getD i []).length (lnC ((C.lines.set j l').getD i []))
    rw [hD, hY]
    by_cases e : i = j
    · rw [if_pos e, if_pos e]
      exact own_off hr hbg j r
    · rw [if_neg e, if_neg e]
      refine own_off ((h.own.fr i hi).kept hg ?_) (fun b e2 => fun e3 => h.own.sep i hi b e2 (by rw [e3]; rfl)) j r
      rcases hrow with e1 | e1
      · rw [e1]
        cases hb2 : (ys.getD i vz).ownBlock with
        | none => exact .inl rfl
        | some b => exact .inr (fun h => by cases h)
      · rw [e1]
        cases hb2 : (ys.getD i vz).ownBlock with
        | none => exact .inl rfl
        | some b => exact .inr (fun h2 => h.own.two i j hi hjl e b hb2 h2.symm)
  · have hi : i < (C.lines.set j l').length := hi
    rw [List.length_set] at hi
    rw [hY] at e
    intro e2
    injection e2 with e2
    by_cases e1 : i = j
    · rw [if_pos e1] at e; exact hbg b e e2.symm
    · rw [if_neg e1] at e; exact h.own.sep i hi b e (by rw [← e2]; rfl)
  · have hi : i < (C.lines.set j l').length := hi
    have hi' : i' < (C.lines.set j l').length := hi'
    rw [List.length_set] at hi hi'
    rw [hY] at e ⊢
    by_cases e1 : i = j
    · rw [if_pos e1] at e
      rw [if_neg (fun e2 => hne (e1.trans e2.symm))]
      intro e3
      rcases hb b e with h1 | h1
      · exact h.own.two i' j hi' hjl (fun e2 => hne (e1.trans e2.symm)) b e3 h1
      · have := h.lt.2 i' (by rw [← h.zn]; exact hi') b e3; omega
    · rw [if_neg e1] at e
      by_cases e2 : i' = j
      · rw [if_pos e2]
        intro e3
        rcases hb b e3 with h1 | h1
        · exact h.own.two i j hi hjl e1 b e h1
        · have := h.lt.2 i (by rw [← h.zn]; exact hi) b e; omega
      · rw [if_neg e2]; exact h.own.two i i' hi hi' hne b e
  · show ((C.lines.set j l').getD i []).length ≤ 100
    rw [hD]
    split
    · exact hx
    · exact h.l100 i
/-- Where the rows lie, and one of them. -/
theorem OwnC.rowAt (h : OwnC base w p n c ys C) {j : Nat} (hj : j < n) : ∃ g q cr, p = some ⟨g, 0, none⟩ ∧ ys.getD j vz = .slice q (C.lines.getD j []).length cr ∧ base ≤ g ∧ g < w.heap.size ∧ (C.lines.getD j []).length ≤ cr ∧ n ≤ c ∧
    w.cell? ⟨g, j, none⟩ = some (.slice q (C.lines.getD j []).length cr) ∧ w.frozen? ⟨g, j, none⟩ = false ∧ w.ownsRow base 30 4 (.slice q (C.lines.getD j []).length cr) (C.lines.getD j []).length (lnC (C.lines.getD j [])) := by
  have hjl : j < C.lines.length := by rw [h.zn]; exact hj
  have hrow := h.own.row
  rw [h.zn] at hrow
  obtain ⟨g, rfl, h1, h2, h3, h4⟩ := own_go hrow (by omega)
  have hfr := h.own.fr j hjl
  obtain ⟨q, cr, e, hcr⟩ := own_cap hfr
  rw [e] at hfr
  refine ⟨g, q, cr, rfl, e, h3, h4, hcr, h1, ?_, hrow.frozenAt j, hfr⟩
  rw [hrow.cellAt j (by omega), ← e, List.getD_eq_getElem?_getD, List.getElem?_eq_getElem (by rw [hrow.1]; omega)]
  rfl
end
end Go.Proofs.Ytoddmgaihggkjaa
