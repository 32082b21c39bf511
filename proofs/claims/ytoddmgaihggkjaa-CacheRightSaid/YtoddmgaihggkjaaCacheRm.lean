/- Rows of lines that are laid one by one in memory of one's own; variables that hold caches; no condition. -/
import Derived.Test.YtoddmgaihggkjaaCacheRl
import Derived.Test.YtoddmgaihggkjaaCacheRk
import Derived.Test.YtoddmgaihggkjaaCacheRc
import Derived.Test.YtoddmgaihggkjaaCacheRd
import Derived.Test.YtoddmgaihggkjaaCacheW
namespace Go.Proofs.Ytoddmgaihggkjaa
set_option linter.unusedVariables false
open Go.ChangeShapes Go.WideShapes Go.ChangeAt Go.RowKit

theorem Lv.grown {w w' : World} {v : Value} {l : List Ln} {row : Option Nat} (h : Lv w v l) (hg : w.grownBy w' row) (hne : ∀ g, v.ownBlock = some g → row ≠ some g) : Lv w' v l := by
  obtain ⟨p, c, rfl, hc, hn⟩ := h
  exact ⟨p, c, rfl, hc, hn.grown hg (fun _ a e => hne a.block (by rw [e]; rfl))⟩
/-- Rows that are laid one by one in memory of one's own. -/
structure OwnG (base : Nat) (w : World) (v : Value) (ys : List Value) (L : List (List Ln)) : Prop where
  row : w.ownsRow base 28 1 v L.length ys
  rs : ∀ k, k < L.length → Lv w (ys.getD k vz) (L.getD k [])
  bl : ∀ k, k < L.length → ∀ g, (ys.getD k vz).ownBlock = some g → base ≤ g ∧ g < w.heap.size ∧ v.ownBlock ≠ some g
theorem OwnG.cc {base : Nat} {w : World} {v : Value} {ys : List Value} {L : List (List Ln)} (h : OwnG base w v ys L) (hn : L.length ≤ 100) (hl : ∀ k, (L.getD k []).length ≤ 100) (A B K : Int) : ∃ p c, v = .slice p L.length c ∧ Cc w p L.length c ys ⟨A, B, K, L⟩ := by
  obtain ⟨p, c, rfl, hs⟩ := Sl.own h.row
  obtain ⟨p', c', e, hc⟩ := own_cap h.row
  injection e with _ _ e
  subst e
  exact ⟨p, c, rfl, rfl, by rw [h.row.1, Nat.mul_one], hs, fun k hk => h.rs k hk, hc, hn, hl⟩
theorem OwnG.off {base : Nat} {w : World} {p : Option Addr} {n c : Nat} {ys : List Value} {L : List (List Ln)} (h : OwnG base w (.slice p n c) ys L) {R : Nat} (hR : R < base) : Off R p ys L := by
  refine ⟨fun h0 a e => ?_, fun k hk h0 g e => ?_⟩
  · subst e
    have := (h.row.lt a.block (by rfl)).1
    omega
  · have := (h.bl k hk g e).1
    omega
theorem OwnG.step {base : Nat} {w w6 w7 : World} {v v7 r : Value} {ys : List Value} {L : List (List Ln)} {l : List Ln} (h : OwnG base w v ys L) (hbase : base ≤ w.heap.size) (hb : Below w.heap.size w w6) (hr : w6.ownsRow w.heap.size 30 4 r l.length (lnC l))
    (g1 : w7.ownsRow base 28 1 v7 (L.length + 1) (ys ++ [r])) (g2 : w6.grownBy w7 v.ownBlock) (g3 : v7.ownBlock = v.ownBlock ∨ v7.ownBlock = some w6.heap.size) : OwnG base w7 v7 (ys ++ [r]) (L ++ [l]) := by
  have hys : ys.length = L.length := by rw [h.row.1, Nat.mul_one]
  have hv : ∀ g, v.ownBlock = some g → g < w.heap.size := fun g e => (h.row.lt g e).2
  have gA : ∀ {α : Type} (l : List α) (x d : α) (k : Nat), (l ++ [x]).getD k d = if k < l.length then l.getD k d else if k = l.length then x else d := fun l x d k => by
    rw [List.getD_eq_getElem?_getD, List.getD_eq_getElem?_getD]
    by_cases h1 : k < l.length
    · rw [if_pos h1, List.getElem?_append_left h1]
    · rw [if_neg h1, List.getElem?_append_right (by omega)]
      by_cases h2 : k = l.length
      · rw [if_pos h2, h2, Nat.sub_self]; rfl
      · rw [if_neg h2, List.getElem?_eq_none (by simp; omega)]; rfl
  refine ⟨by rw [List.length_append]; exact g1, fun k hk => ?_, fun k hk g e => ?_⟩
  · rw [List.length_append] at hk
    simp at hk
    rw [gA, gA, hys]
    by_cases hkl : k < L.length
    · rw [if_pos hkl, if_pos hkl]
      exact ((h.rs k hkl).below hb).grown g2 (fun g e => (h.bl k hkl g e).2.2)
    · rw [if_neg hkl, if_neg hkl, if_pos (by omega), if_pos (by omega)]
      exact (Lw.lv (base := w.heap.size) hr).grown g2 (fun g e e2 => by have h1 := (hr.lt g e).1; have h2 := hv g e2; omega)
  · rw [List.length_append] at hk
    simp at hk
    rw [gA, hys] at e
    by_cases hkl : k < L.length
    · rw [if_pos hkl] at e
      obtain ⟨h1, h2, h3⟩ := h.bl k hkl g e
      refine ⟨h1, Nat.lt_of_lt_of_le h2 (Nat.le_trans hb.size g2.size), fun e2 => ?_⟩
      rcases g3 with g3 | g3
      · rw [g3] at e2; exact h3 e2
      · rw [g3] at e2; injection e2 with e2; have := hb.size; omega
    · rw [if_neg hkl, if_pos (by omega)] at e
      have h1 := hr.lt g e
      refine ⟨by omega, Nat.lt_of_lt_of_le h1.2 g2.size, fun e2 => ?_⟩
      rcases g3 with g3 | g3
      · rw [g3] at e2; have := hv g e2; omega
      · rw [g3] at e2; injection e2 with e2; omega
theorem OwnG.below {base : Nat} {w w' : World} {v : Value} {ys : List Value} {L : List (List Ln)} (h : OwnG base w v ys L) (hb : Below w.heap.size w w') : OwnG base w' v ys L :=
  ⟨own_below h.row hb, fun k hk => (h.rs k hk).below hb, fun k hk g e => by obtain ⟨h1, h2, h3⟩ := h.bl k hk g e; exact ⟨h1, Nat.lt_of_lt_of_le h2 hb.size, h3⟩⟩
theorem OwnG.put {base : Nat} {w : World} {v : Value} {ys : List Value} {L : List (List Ln)} (h : OwnG base w v ys L) {R : Nat} (hR : R < base) (j : Nat) (u : Value) : OwnG base (w.setCell ⟨R, j, none⟩ u) v ys L := by
  refine ⟨own_off h.row (fun g e => by have := (h.row.lt g e).1; omega) j u, fun k hk => ?_, fun k hk g e => ?_⟩
  · have hg : w.grownBy (w.setCell ⟨R, j, none⟩ u) (some R) := ⟨rfl, rfl, rfl, by simp, fun k _ hk => heap_setCell_other w ⟨R, j, none⟩ k u (fun e => hk (by simp [e]))⟩
    exact (h.rs k hk).grown hg (fun g e e2 => by injection e2 with e2; have := (h.bl k hk g e).1; omega)
  · obtain ⟨h1, h2, h3⟩ := h.bl k hk g e
    exact ⟨h1, by simpa using h2, h3⟩
theorem OwnG.none (base : Nat) (w : World) : OwnG base w (.slice none 0 0) [] [] := ⟨World.ownsRow_nil _ _ _ _, fun k hk => absurd hk (Nat.not_lt_zero _), fun k hk => absurd hk (Nat.not_lt_zero _)⟩
/-- What is in a variable, as a value that reads. -/
theorem Var.co {S : Nat → Prop} {w : World} {b : Nat} {C : Ch} (h : Var S w b C) : ∃ p n c xs, Blk w b #[.int .i64 C.sets, .int .i64 C.ways, .int .i64 C.clock, .slice p n c] ∧ Co S w (.agg #[.int .i64 C.sets, .int .i64 C.ways, .int .i64 C.clock, .slice p n c]) C ∧ Cc w p n c xs C := by
  obtain ⟨p, n, c, xs, h1, h2, h3⟩ := h
  exact ⟨p, n, c, xs, h1, ⟨p, n, c, xs, rfl, h2, h3⟩, h2⟩
theorem Var.lt2 {S : Nat → Prop} {w : World} {b : Nat} {C : Ch} (h : Var S w b C) : b < w.heap.size := by
  obtain ⟨p, n, c, xs, h1, _⟩ := h
  exact h1.lt
theorem Var.set4 {S : Nat → Prop} {w : World} {b : Nat} {C : Ch} (h : Var S w b C) {R : Nat} (hR : S R) (hne : R ≠ b) (u0 u1 u2 u3 : Value) : Var S ((((w.setCell ⟨R, 0, none⟩ u0).setCell ⟨R, 1, none⟩ u1).setCell ⟨R, 2, none⟩ u2).setCell ⟨R, 3, none⟩ u3) b C :=
  (((h.set hR hne 0 u0).set hR hne 1 u1).set hR hne 2 u2).set hR hne 3 u3
theorem Var.new {S : Nat → Prop} {w : World} {C : Ch} {u0 u1 u2 u3 : Value} (h : Co S w (.agg #[u0, u1, u2, u3]) C) : Var S (w.alloc (.cells #[u0, u1, u2, u3] 24)) w.heap.size C := by
  obtain ⟨p, n, c, xs, e, h2, h3⟩ := h
  injection e with e
  simp at e
  obtain ⟨rfl, rfl, rfl, rfl⟩ := e
  exact ⟨p, n, c, xs, Blk.new _ _ _, h2.below ((Below.refl _ _).alloc (Nat.le_refl _) _), h3⟩
theorem Var.put {S : Nat → Prop} {w : World} {b : Nat} {C : Ch} {u0 u1 u2 u3 a0 a1 a2 a3 : Value} (hk : Blk w b #[a0, a1, a2, a3]) (h : Co S w (.agg #[u0, u1, u2, u3]) C) (hS : S b) : Var S ((((w.setCell ⟨b, 0, none⟩ u0).setCell ⟨b, 1, none⟩ u1).setCell ⟨b, 2, none⟩ u2).setCell ⟨b, 3, none⟩ u3) b C := by
  have h4 := h.set4 hS u0 u1 u2 u3
  have hk4 := set4_same hk u0 u1 u2 u3
  obtain ⟨p, n, c, xs, e, h2, h3⟩ := h4
  injection e with e
  simp at e
  obtain ⟨rfl, rfl, rfl, rfl⟩ := e
  exact ⟨p, n, c, xs, hk4, h2, h3⟩
end Go.Proofs.Ytoddmgaihggkjaa
