/- PoolRight: helpers of the walk of the statement's function. -/
import Derived.Test.YtpmheaeiemnjeaaPoolK
import Derived.Test.YtpmheaeiemnjeaaPoolG
import Derived.Test.YtpmheaeiemnjeaaPoolS
import Derived.Test.YtpmheaeiemnjeaaPoolU
import Derived.Test.YtpmheaeiemnjeaaPoolV
import Derived.Test.YtpmheaeiemnjeaaPoolW
namespace Go.Proofs.Ytpmheaeiemnjeaa
set_option linter.unusedVariables false
open Go.ChangeShapes Go.WideShapes Go.ChangeAt Go.RowKit

/-- A pool that is laid frame by frame in memory of one's own. -/
structure OwnG (base : Nat) (w : World) (v : Value) (ys : List Value) (L : List (List Nat)) : Prop where
  row : w.ownsRow base 30 1 v L.length ys
  fs : ∀ k, k < L.length → Fs w (ys.getD k vz) (L.getD k [])
  bl : ∀ k, k < L.length → ∀ g, (ys.getD k vz).ownBlock = some g → base ≤ g ∧ g < w.heap.size ∧ v.ownBlock ≠ some g
theorem OwnG.pl {base : Nat} {w : World} {v : Value} {ys : List Value} {L : List (List Nat)} (h : OwnG base w v ys L) (hn : L.length ≤ 100) (hl : ∀ l ∈ L, l.length ≤ 100) : ∃ p c, v = .slice p L.length c ∧ Pl w p ys L ∧ Off (fun b => b < base ∨ w.heap.size ≤ b) p ys L := by
  obtain ⟨p, c, rfl, hs⟩ := Sl.own h.row
  refine ⟨p, c, rfl, ⟨by rw [h.row.1, Nat.mul_one], hs, h.fs, hn, hl⟩, fun _ a e hb => ?_, fun k hk _ g e hb => ?_⟩
  · subst e
    have := h.row.lt a.block rfl
    omega
  · have := h.bl k hk g e
    omega
theorem OwnG.step {base : Nat} {w w6 w7 : World} {v v7 r : Value} {ys : List Value} {L : List (List Nat)} {l : List Nat} (h : OwnG base w v ys L) (hbase : base ≤ w.heap.size) (hb : Below w.heap.size w w6) (hr : w6.ownsRow w.heap.size 5 1 r l.length (u8C l)) (hl : ∀ x ∈ l, x < 256)
    (g1 : w7.ownsRow base 30 1 v7 (L.length + 1) (ys ++ [r])) (g2 : w6.grownBy w7 v.ownBlock) (g3 : v7.ownBlock = v.ownBlock ∨ v7.ownBlock = some w6.heap.size) : OwnG base w7 v7 (ys ++ [r]) (L ++ [l]) := by
  have hys : ys.length = L.length := by rw [h.row.1, Nat.mul_one]
  have hv : ∀ g, v.ownBlock = some g → g < w.heap.size := fun g e => (h.row.lt g e).2
  refine ⟨by rw [List.length_append]; exact g1, fun k hk => ?_, fun k hk g e => ?_⟩
  · rw [List.length_append] at hk
    simp at hk
    rw [getD_append1, getD_append1, hys]
    by_cases hkl : k < L.length
    · rw [if_pos hkl, if_pos hkl]
      exact fs_grown ((h.fs k hkl).below hb) g2 (fun g e => (h.bl k hkl g e).2.2)
    · rw [if_neg hkl, if_neg hkl, if_pos (by omega), if_pos (by omega)]
      exact fs_grown (own_fs hr hl) g2 (fun g e e2 => by have h1 := (hr.lt g e).1; have h2 := hv g e2; omega)
  · rw [List.length_append] at hk
    simp at hk
    rw [getD_append1, hys] at e
    by_cases hkl : k < L.length
    · rw [if_pos hkl] at e
      obtain ⟨h1, h2, h3⟩ := h.bl k hkl g e
      refine ⟨h1, Nat.lt_of_lt_of_le h2 (Nat.le_trans hb.size g2.size), fun e2 => ?_⟩
      rcases g3 with g3 | g3
      · rw [g3] at e2; exact h3 e2
      · rw [g3] at e2; injection e2 with e2; have := hb.size; omega
    · rw [if_neg hkl, if_pos (by omega)] at e
      have h1 := hr.lt g e
      refine ⟨by omega, Nat.lt_of_lt_of_le h1.2 g2.size, fun e2 => ?_⟩
      rcases g3 with g3 | g3
      · rw [g3] at e2; have := hv g e2; omega
      · rw [g3] at e2; injection e2 with e2; omega
theorem OwnG.below {base : Nat} {w w' : World} {v : Value} {ys : List Value} {L : List (List Nat)} (h : OwnG base w v ys L) (hb : Below w.heap.size w w') : OwnG base w' v ys L :=
  ⟨own_below h.row hb, fun k hk => (h.fs k hk).below hb, fun k hk g e => by obtain ⟨h1, h2, h3⟩ := h.bl k hk g e; exact ⟨h1, Nat.lt_of_lt_of_le h2 hb.size, h3⟩⟩
theorem OwnG.off {base : Nat} {w : World} {v : Value} {ys : List Value} {L : List (List Nat)} (h : OwnG base w v ys L) {R : Nat} (hR : R < base) (j : Nat) (u : Value) : OwnG base (w.setCell ⟨R, j, none⟩ u) v ys L := by
  refine ⟨own_off h.row hR j u, fun k hk => ?_, fun k hk g e => ?_⟩
  · have hg : w.grownBy (w.setCell ⟨R, j, none⟩ u) (some R) := ⟨rfl, rfl, rfl, by simp, fun k _ hk => heap_setCell_other w ⟨R, j, none⟩ k u (fun e => hk (by simp [e]))⟩
    exact fs_grown (h.fs k hk) hg (fun g e e2 => by injection e2 with e2; have := (h.bl k hk g e).1; omega)
  · obtain ⟨h1, h2, h3⟩ := h.bl k hk g e
    exact ⟨h1, by simpa using h2, h3⟩

end Go.Proofs.Ytpmheaeiemnjeaa
