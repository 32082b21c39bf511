/- The statements' own arrays of 256, bytes that are read, two variables that are laid at once; no condition. -/
import Derived.Test.YtoddmgaihggkjaaCacheW
import Derived.Test.YtoddmgaihggkjaaCacheNum3
import Derived.Test.YtoddmgaihggkjaaPlan3
namespace Go.Proofs.Ytoddmgaihggkjaa
set_option linter.unusedVariables false
open Go.ChangeShapes Go.WideShapes Go.ChangeAt Go.RowKit

/-- A slice that reads as these bytes. -/
structure Nb (w : World) (p : Option Addr) (l : List Nat) : Prop where
  lt : ∀ x ∈ l, x < 256
  c : 0 < l.length → ∃ b off, b < w.heap.size ∧ p = some ⟨b, off, none⟩ ∧ ∀ k, k < l.length → w.cell? ⟨b, off + k, none⟩ = some (.int .u8 (l.getD k 0 : Nat))
theorem Nb.below {w w' : World} {p : Option Addr} {l : List Nat} (h : Nb w p l) (hb : Below w.heap.size w w') : Nb w' p l :=
  ⟨h.lt, fun h0 => by
    obtain ⟨b, off, h1, h2, h3⟩ := h.c h0
    exact ⟨b, off, Nat.lt_of_lt_of_le h1 hb.size, h2, fun k hk => (hb.cell (p := ⟨b, off + k, none⟩) h1).trans (h3 k hk)⟩⟩
theorem op_store {P : Program} {ops : Array Oper} {Q : Exit → Act → World → Prop} {i : Nat} {a : Act} {w w1 : World} {o : Oper} {K : Act → World → Prop} (ho : ops[i]? = some o) (hw : Region.wanted o (yielded ops a.tmps) = true) (hr : (execOp a.eval o).run P w = .ok .skip w1) (h : K (a.put o.dst undef) w1) : wpOp P ops Q i K a w := by
  unfold wpOp
  simp only [ho, hw, if_true, Oper.wp, hr, Oper.upon]
  exact .inl h
/-- A cache and a line are laid into variables of their own. -/
theorem put_done {S : Nat → Prop} {s b d12 d13 : Nat} {w0 v : World} {x0 x1 x2 x3 z0 z1 z2 z3 u0 u1 u2 u3 : Value} {cs : Array Value} {C1 : Ch} {p1 : Option Addr} {n1 c1 : Nat} (h12 : Blk v d12 #[x0, x1, x2, x3]) (h13 : Blk v d13 #[z0, z1, z2, z3])
    (ho : Co S v (.agg #[.int .i64 C1.sets, .int .i64 C1.ways, .int .i64 C1.clock, .slice p1 n1 c1]) C1) (hk : Blk v b cs) (hb : Below s w0 v) (g12 : s ≤ d12) (g13 : s ≤ d13) (hne : d12 ≠ d13) (n12 : d12 ≠ b) (n13 : d13 ≠ b) (hSb : S b) (hS12 : S d12) (hS13 : S d13) (y1 : World)
    (hy1 : y1 = (((v.setCell ⟨d12, 0, none⟩ (.int .i64 C1.sets)).setCell ⟨d12, 1, none⟩ (.int .i64 C1.ways)).setCell ⟨d12, 2, none⟩ (.int .i64 C1.clock)).setCell ⟨d12, 3, none⟩ (.slice p1 n1 c1)) (y2 : World)
    (hy2 : y2 = (((y1.setCell ⟨d13, 0, none⟩ u0).setCell ⟨d13, 1, none⟩ u1).setCell ⟨d13, 2, none⟩ u2).setCell ⟨d13, 3, none⟩ u3) : Var (fun R => R = b) y2 d12 C1 ∧ Blk y2 b cs ∧ d12 ≠ b ∧ Below s w0 y2 := by
  subst hy1
  subst hy2
  have k1 := set4_other (set4_same h12 (.int .i64 C1.sets) (.int .i64 C1.ways) (.int .i64 C1.clock) (.slice p1 n1 c1)) hne.symm u0 u1 u2 u3
  have o1 := (ho.set4 hS12 (.int .i64 C1.sets) (.int .i64 C1.ways) (.int .i64 C1.clock) (.slice p1 n1 c1)).set4 hS13 u0 u1 u2 u3
  exact ⟨(Var.of k1 o1).later (fun R hR => .inl (by rw [hR]; exact hSb)), set4_other (set4_other hk n12 _ _ _ _) n13 _ _ _ _, n12, set4_below (set4_below hb g12 _ _ _ _) g13 _ _ _ _⟩

def arr (f : Nat → Value) : Array Value := ((List.range 256).map f).toArray
theorem arr_size (f : Nat → Value) : (arr f).size = 256 := by unfold arr; simp
theorem arr_at (f : Nat → Value) (k : Nat) (h : k < 256) : (arr f)[k]? = some (f k) := by unfold arr; simp [h]
theorem arr_set (f : Nat → Value) (k : Nat) (v : Value) : (arr f).setIfInBounds k v = arr (upd f k v) := by
  refine Array.ext_getElem? fun i => ?_
  by_cases h : i < 256
  · rw [arr_at _ _ h]
    unfold upd
    by_cases e : i = k
    · rw [if_pos e, e, Array.getElem?_setIfInBounds_self_of_lt (by rw [arr_size, ← e]; exact h)]
    · rw [if_neg e, Array.getElem?_setIfInBounds_ne (fun e2 => e e2.symm), arr_at _ _ h]
  · rw [Array.getElem?_eq_none (by rw [Array.size_setIfInBounds, arr_size]; omega), Array.getElem?_eq_none (by rw [arr_size]; omega)]
def arrB (th : Nat → Bool) : Array Value := arr fun k => .bool (th k)
theorem arrB_at (th : Nat → Bool) (k : Nat) (h : k < 256) : (arrB th)[k]? = some (.bool (th k)) := arr_at _ k h
theorem arrB_set (th : Nat → Bool) (k : Nat) (x : Bool) : (arrB th).setIfInBounds k (.bool x) = arrB (upd th k x) := by
  unfold arrB; rw [arr_set]; congr 1; funext j; unfold upd; split <;> rfl
theorem zero49 (w : World) : (zeroValue 49).run Try.prog w = .ok (.agg (arrB fun _ => false)) w := by kernel_rfl
end Go.Proofs.Ytoddmgaihggkjaa
