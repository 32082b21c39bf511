/- Banks in memory of one's own, of which a word, a row or Par is written; what write does; no condition but that they read. -/
import Derived.Test.YtkeemmedbbammaaParG
namespace Go.Proofs.Ytkeemmedbbammaa
set_option linter.unusedVariables false
open Go.ChangeShapes Go.WideShapes Go.ChangeAt Go.RowKit

theorem ne_block {v : Value} {g : Nat} (h : ∀ b, v.ownBlock = some b → b ≠ g) : v.ownBlock = none ∨ v.ownBlock ≠ some g := by
  cases hv : v.ownBlock with
  | none => exact .inl rfl
  | some b => exact .inr (fun e => h b hv (by injection e))
section
variable {base : Nat} {w w' : World} {p : Option Addr} {n c : Nat} {ys : List Value} {pp : Option Addr} {m cc : Nat} {B : Bk}
/-- The row j is written anew in its place. -/
theorem OwnB.writeRow (h : OwnB base w p n c ys pp m cc B) {j gr x cr : Nat} {l' : List Nat} (hj : j < n) (hv : ys.getD j vz = .slice (some ⟨gr, 0, none⟩) x cr) (hg : w.grownBy w' (some gr))
    (hr : w'.ownsRow base 26 1 (.slice (some ⟨gr, 0, none⟩) x cr) x (u32C l')) (hl : l'.length = x) (hx : x ≤ 100) (hlt : ∀ y ∈ l', y < 4294967296) : OwnB base w' p n c ys pp m cc ⟨B.rows.set j l', B.par, B.lost⟩ := by
  have hjl : j < B.rows.length := by rw [h.zn]; exact hj
  have hb : (ys.getD j vz).ownBlock = some gr := by rw [hv]; rfl
  have hsep := h.own.sep j hjl gr hb
  have hD : ∀ i, (B.rows.set j l').getD i [] = if i = j then l' else B.rows.getD i [] := fun i => getD_set B.rows [] l' j i hjl
  refine ⟨by rw [List.length_set]; exact h.zn, ⟨?_, fun i hi => ?_, fun i hi => ?_, fun i i' hi hi' => ?_, fun _ _ => rfl⟩, h.zm, ?_, h.plt, ?_, h.n100, ?_, h.m100, h.sep1, h.sep2⟩
  · rw [List.length_set]; exact h.own.row.kept hg (.inr hsep)
  · rw [List.length_set] at hi
    rw [hD]
    by_cases e : i = j
    · subst e
      rw [if_pos rfl, hv, hl]
      exact hr
    · rw [if_neg e]
      exact (h.own.fr i hi).kept hg (.inr (fun e2 => h.own.two i j hi hjl e gr e2 hb))
  · rw [List.length_set] at hi; exact h.own.sep i hi
  · rw [List.length_set] at hi hi'; exact h.own.two i i' hi hi'
  · exact h.par.kept hg (.inr (fun e => h.sep2 j hj gr e hb))
  · intro l hl2
    rcases List.mem_or_eq_of_mem_set hl2 with h1 | h1
    · exact h.rlt l h1
    · rw [h1]; exact hlt
  · intro l hl2
    rcases List.mem_or_eq_of_mem_set hl2 with h1 | h1
    · exact h.l100 l h1
    · rw [h1, hl]; exact hx
/-- Par is written anew in its place. -/
theorem OwnB.writePar (h : OwnB base w p n c ys pp m cc B) {gp : Nat} {l' : List Nat} (hv : pp = some ⟨gp, 0, none⟩) (hg : w.grownBy w' (some gp))
    (hr : w'.ownsRow base 26 1 (.slice pp m cc) m (u32C l')) (hl : l'.length = m) (hlt : ∀ y ∈ l', y < 4294967296) : OwnB base w' p n c ys pp m cc ⟨B.rows, l', B.lost⟩ := by
  have hb : (Value.slice pp m cc).ownBlock = some gp := by rw [hv]; rfl
  refine ⟨h.zn, ⟨h.own.row.kept hg (.inr (h.sep1 gp hb)), fun i hi => (h.own.fr i hi).kept hg (.inr (h.sep2 i (by rw [← h.zn]; exact hi) gp hb)), h.own.sep, h.own.two, fun _ _ => rfl⟩, hl, hr, hlt, h.rlt, h.n100, h.l100, h.m100, h.sep1, h.sep2⟩
theorem OwnB.lost (h : OwnB base w p n c ys pp m cc B) (z : Int) : OwnB base w p n c ys pp m cc ⟨B.rows, B.par, z⟩ :=
  ⟨h.zn, h.own, h.zm, h.par, h.plt, h.rlt, h.n100, h.l100, h.m100, h.sep1, h.sep2⟩
/-- Where the rows lie, and one of them. -/
theorem OwnB.rowAt (h : OwnB base w p n c ys pp m cc B) {j : Nat} (hj : j < n) (hx : 0 < (B.rows.getD j []).length) : ∃ g gr cr, p = some ⟨g, 0, none⟩ ∧ ys.getD j vz = .slice (some ⟨gr, 0, none⟩) (B.rows.getD j []).length cr ∧ base ≤ g ∧ g < w.heap.size ∧ base ≤ gr ∧ gr < w.heap.size ∧ (B.rows.getD j []).length ≤ cr ∧ n ≤ c ∧
    w.cell? ⟨g, j, none⟩ = some (.slice (some ⟨gr, 0, none⟩) (B.rows.getD j []).length cr) ∧ w.frozen? ⟨g, j, none⟩ = false ∧ (∀ a, a < (B.rows.getD j []).length → w.cell? ⟨gr, a, none⟩ = some (.int .u32 ((B.rows.getD j []).getD a 0 : Nat))) ∧ (∀ a, w.frozen? ⟨gr, a, none⟩ = false) := by
  have hjl : j < B.rows.length := by rw [h.zn]; exact hj
  have hrow := h.own.row
  rw [h.zn] at hrow
  obtain ⟨g, rfl, h1, h2, h3, h4⟩ := own_go hrow (by omega)
  have hfr := h.own.fr j hjl
  obtain ⟨q, cr, e⟩ := own_sl hfr
  rw [e] at hfr
  obtain ⟨gr, rfl, h5, h6, h7, h8⟩ := own_go hfr hx
  refine ⟨g, gr, cr, rfl, e, h3, h4, h7, h8, h5, h1, ?_, hrow.frozenAt j, fun a ha => ?_, hfr.frozenAt⟩
  · rw [hrow.cellAt j (by omega), ← e, List.getD_eq_getElem?_getD, List.getElem?_eq_getElem (by rw [hrow.1]; omega)]
    rfl
  · rw [hfr.cellAt a (by omega), u32C_at _ a ha]
theorem OwnB.parAt (h : OwnB base w p n c ys pp m cc B) (h0 : 0 < m) : ∃ gp, pp = some ⟨gp, 0, none⟩ ∧ base ≤ gp ∧ gp < w.heap.size ∧ m ≤ cc ∧ (∀ a, a < m → w.cell? ⟨gp, a, none⟩ = some (.int .u32 (B.par.getD a 0 : Nat))) ∧ (∀ a, w.frozen? ⟨gp, a, none⟩ = false) := by
  have hp := h.par
  obtain ⟨gp, rfl, h1, h2, h3, h4⟩ := own_go hp h0
  exact ⟨gp, rfl, h3, h4, h1, fun a ha => by rw [hp.cellAt a (by omega), u32C_at _ a (by rw [h.zm]; exact ha)], hp.frozenAt⟩
theorem set_lt {l : List Nat} (h : ∀ y ∈ l, y < 4294967296) (a x : Nat) (hx : x < 4294967296) : ∀ y ∈ l.set a x, y < 4294967296 := by
  intro y hy
  rcases List.mem_or_eq_of_mem_set hy with h1 | h1
  · exact h y h1
  · rw [h1]; exact hx
theorem OwnB.putPar {gp : Nat} (h : OwnB base w p n c ys (some ⟨gp, 0, none⟩) m cc B) (a x : Nat) (hx : x < 4294967296) : OwnB base (w.setCell ⟨gp, a, none⟩ (.int .u32 (x : Int))) p n c ys (some ⟨gp, 0, none⟩) m cc ⟨B.rows, B.par.set a x, B.lost⟩ := by
  have hs := h.par.stored a (.int .u32 (x : Int))
  rw [u32C_set] at hs
  exact h.writePar rfl hs.2 hs.1 (by rw [List.length_set]; exact h.zm) (set_lt h.plt a x hx)
theorem OwnB.putWord (h : OwnB base w p n c ys pp m cc B) {j gr x cr : Nat} (hj : j < n) (hv : ys.getD j vz = .slice (some ⟨gr, 0, none⟩) x cr) (hl : (B.rows.getD j []).length = x) (a y : Nat) (hy : y < 4294967296) :
    OwnB base (w.setCell ⟨gr, a, none⟩ (.int .u32 (y : Int))) p n c ys pp m cc ⟨B.rows.set j ((B.rows.getD j []).set a y), B.par, B.lost⟩ := by
  have hjl : j < B.rows.length := by rw [h.zn]; exact hj
  have hfr := h.own.fr j hjl
  rw [hv, hl] at hfr
  have hs := hfr.stored a (.int .u32 (y : Int))
  rw [u32C_set] at hs
  have hmem := mem_getD B.rows [] j hjl
  exact h.writeRow hj hv hs.2 hs.1 (by rw [List.length_set]; exact hl) (by rw [← hl]; exact h.l100 _ hmem) (set_lt (h.rlt _ hmem) a y hy)
end
theorem below_two {w w' : World} {o : Obj} (hb : Below (w.alloc o).heap.size (w.alloc o) w') : Below w.heap.size w w' := ((Below.refl _ _).alloc (Nat.le_refl _) _).trans (hb.mono (by simp))
/-- The result's three cells are written. -/
theorem res3_own {s : Nat} {w : World} {p : Option Addr} {n c : Nat} {ys : List Value} {pp : Option Addr} {m cc : Nat} {B : Bk} (h : OwnB (s + 2) w p n c ys pp m cc B) (u0 u1 u2 : Value) :
    OwnB s (((w.setCell ⟨s + 1, 0, none⟩ u0).setCell ⟨s + 1, 1, none⟩ u1).setCell ⟨s + 1, 2, none⟩ u2) p n c ys pp m cc B := (((h.setOff (by omega) 0 _).setOff (by omega) 1 _).setOff (by omega) 2 _).mono (by omega)
theorem res3_below {s : Nat} {w0 w : World} (h : Below s w0 w) (u0 u1 u2 : Value) : Below s w0 (((w.setCell ⟨s + 1, 0, none⟩ u0).setCell ⟨s + 1, 1, none⟩ u1).setCell ⟨s + 1, 2, none⟩ u2) :=
  ((h.setCell (p := ⟨s + 1, 0, none⟩) (by show s ≤ s + 1; omega) _).setCell (p := ⟨s + 1, 1, none⟩) (by show s ≤ s + 1; omega) _).setCell (p := ⟨s + 1, 2, none⟩) (by show s ≤ s + 1; omega) _
end Go.Proofs.Ytkeemmedbbammaa
