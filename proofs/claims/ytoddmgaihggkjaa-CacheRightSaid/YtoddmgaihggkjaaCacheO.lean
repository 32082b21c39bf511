/- Memory of one's own, how it stays so; no program in sight. -/
import Derived.Test.YtoddmgaihggkjaaCacheA
namespace Go.Proofs.Ytoddmgaihggkjaa
set_option linter.unusedVariables false
open Go.ChangeShapes Go.WideShapes Go.ChangeAt Go.RowKit

theorem own_base {w : World} {b b' : Nat} {e : TypeId} {size : Nat} {v : Value} {n : Nat} {xs : List Value} (h : w.ownsRow b e size v n xs) (hb : b' ≤ b) : w.ownsRow b' e size v n xs := by
  obtain ⟨h1, h2 | ⟨g, cap, cur, e1, e2, e3⟩⟩ := h
  · exact ⟨h1, .inl h2⟩
  · exact ⟨h1, .inr ⟨g, cap, cur, e1, by omega, e3⟩⟩
theorem own_sl {w : World} {base : Nat} {e : TypeId} {size : Nat} {v : Value} {n : Nat} {xs : List Value} (h : w.ownsRow base e size v n xs) : ∃ p cap, v = .slice p n cap := by
  obtain ⟨p, cap, e, _⟩ := Sl.own h
  exact ⟨p, cap, e⟩
theorem own_below {w w' : World} {base : Nat} {e : TypeId} {size : Nat} {v : Value} {n : Nat} {xs : List Value} (h : w.ownsRow base e size v n xs) (hb : Below w.heap.size w w') : w'.ownsRow base e size v n xs := by
  obtain ⟨h1, h2 | ⟨g', c', cur, e1, e2, e3, e4⟩⟩ := h
  · exact ⟨h1, .inl h2⟩
  · exact ⟨h1, .inr ⟨g', c', cur, e1, e2, by rw [hb.block g' (Array.getElem?_eq_some_iff.1 e3).1]; exact e3, e4⟩⟩
theorem own_cap {w : World} {base : Nat} {e : TypeId} {size : Nat} {v : Value} {n : Nat} {xs : List Value} (h : w.ownsRow base e size v n xs) : ∃ p cap, v = .slice p n cap ∧ n ≤ cap := by
  obtain ⟨h1, ⟨h2, h3⟩ | ⟨g', c', cur, e1, e2, e3, e4, _⟩⟩ := h
  · subst h3; exact ⟨_, _, h2, Nat.le_refl _⟩
  · exact ⟨_, _, e1, e4⟩
theorem own_go {w : World} {base : Nat} {e : TypeId} {size : Nat} {p : Option Addr} {n c : Nat} {xs : List Value} (h : w.ownsRow base e size (.slice p n c) n xs) (h0 : 0 < n) : ∃ g, p = some ⟨g, 0, none⟩ ∧ n ≤ c ∧ c ≤ maxLen ∧ base ≤ g ∧ g < w.heap.size := by
  obtain ⟨h1, ⟨_, h2⟩ | ⟨g, cap, cur, e1, e2, e3, e4, e5, _⟩⟩ := h
  · omega
  · injection e1 with e1 e6 e7
    subst e7
    exact ⟨g, e1, e4, e5, e2, (Array.getElem?_eq_some_iff.1 e3).1⟩
theorem own_off {w : World} {base : Nat} {e : TypeId} {size : Nat} {v : Value} {n : Nat} {xs : List Value} (h : w.ownsRow base e size v n xs) {R : Nat} (hR : ∀ g, v.ownBlock = some g → g ≠ R) (j : Nat) (u : Value) : (w.setCell ⟨R, j, none⟩ u).ownsRow base e size v n xs := by
  refine h.kept (row := some R) ⟨rfl, rfl, rfl, by simp, fun k _ hk => heap_setCell_other w ⟨R, j, none⟩ k u (fun e => hk (by simp [e]))⟩ ?_
  cases hv : v.ownBlock with
  | none => exact .inl rfl
  | some b => exact .inr (fun e2 => by injection e2 with e2; exact hR b hv e2)
/-- Lines in memory of one's own, as a value. -/
def Lw (base : Nat) (w : World) (v : Value) (l : List Ln) : Prop := w.ownsRow base 30 4 v l.length (lnC l)
theorem Lw.lv {base : Nat} {w : World} {v : Value} {l : List Ln} (h : Lw base w v l) : Lv w v l := by
  obtain ⟨p, c, rfl, hs⟩ := Sl.own h
  obtain ⟨p', c', e, hc⟩ := own_cap h
  injection e with _ _ e
  subst e
  exact ⟨p, c, rfl, hc, Lm.of_sl hs⟩
theorem Lw.below {base : Nat} {w w' : World} {v : Value} {l : List Ln} (h : Lw base w v l) (hb : Below w.heap.size w w') : Lw base w' v l := own_below h hb
theorem Lw.mono {base base' : Nat} {w : World} {v : Value} {l : List Ln} (h : Lw base w v l) (hb : base' ≤ base) : Lw base' w v l := own_base h hb
theorem info30 : (Try.prog.info? 30).map (fun i => (i.zero, i.size, i.bytes)) = some (some (.agg #[.int .i64 0, .int .i64 0, .int .u32 0, .int .i64 0]), 4, 32) := by kernel_rfl
theorem info28 : (Try.prog.info? 28).map (fun i => (i.zero, i.size, i.bytes)) = some (some (.slice none 0 0), 1, 24) := by kernel_rfl
end Go.Proofs.Ytoddmgaihggkjaa
