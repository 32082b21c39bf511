/- Lists in memory, what is asked of an append of one, blocks that stay; guarded operations of a plan; no program in sight. -/
import Derived.Test.YteffmidpinlpjaaBlk
import Derived.Test.YteffmidpinlpjaaPlanT
import Derived.Lib.AppendZeros
import Derived.Lib.SmallJoins
namespace Go.Proofs.Yteffmidpinlpjaa
set_option linter.unusedVariables false
open Go.ChangeShapes Go.WideShapes Go.ChangeAt Go.RowKit

/-- The cells cs lie behind p, which points at len things: nothing is asked of p where there are none. -/
def Sl (w : World) (p : Option Addr) (len : Nat) (cs : List Value) : Prop :=
  0 < len → ∃ b off, b < w.heap.size ∧ p = some ⟨b, off, none⟩ ∧ ∀ j, j < cs.length → w.cell? ⟨b, off + j, none⟩ = cs[j]?
theorem Sl.below {w w' : World} {p : Option Addr} {len : Nat} {cs : List Value} (h : Sl w p len cs) (hb : Below w.heap.size w w') : Sl w' p len cs := fun h0 => by
  obtain ⟨b, off, h1, h2, h3⟩ := h h0
  exact ⟨b, off, Nat.lt_of_lt_of_le h1 hb.size, h2, fun j hj => (hb.cell (p := ⟨b, off + j, none⟩) h1).trans (h3 j hj)⟩
theorem Sl.empty (w : World) (p : Option Addr) (cs : List Value) : Sl w p 0 cs := fun h => absurd h (by omega)
/-- What is owned lies there. -/
theorem Sl.own {w : World} {base : Nat} {e : TypeId} {size : Nat} {v : Value} {n : Nat} {xs : List Value} (h : w.ownsRow base e size v n xs) : ∃ p cap, v = .slice p n cap ∧ Sl w p n xs := by
  obtain ⟨hl, ⟨rfl, rfl⟩ | ⟨g, cap, cur, rfl, hg, hh, h1, h2, h3, h4⟩⟩ := h
  · exact ⟨_, _, rfl, Sl.empty _ _ _⟩
  · have ho : w.ownsRow base e size (.slice (some ⟨g, 0, none⟩) n cap) n xs := ⟨hl, .inr ⟨g, cap, cur, rfl, hg, hh, h1, h2, h3, h4⟩⟩
    refine ⟨_, _, rfl, fun _ => ⟨g, 0, ?_, rfl, fun j hj => ?_⟩⟩
    · exact (Array.getElem?_eq_some_iff.1 hh).1
    · rw [Nat.zero_add]; exact ho.cellAt j (by omega)

theorem Blk.grown {w w' : World} {B : Nat} {cs : Array Value} {row : Option Nat} (h : Blk w B cs) (hg : w.grownBy w' row) (hne : row ≠ some B) : Blk w' B cs := by
  have e := hg.block B h.lt (fun e => hne e.symm)
  refine ⟨Nat.lt_of_lt_of_le h.lt hg.size, fun j => ?_, fun j => ?_⟩
  · rw [← h.c j]; unfold World.cell?; rw [e]
  · rw [← h.f j]; unfold World.frozen?; rw [e]
theorem wp_append_sl {P : Program} {o : Oper} {a : Act} {w : World} {K : Act → World → Prop} {Q : Exit → Act → World → Prop} (s x : Operand) (t : TypeId)
    (ho : o.op = .call { callee := .builtin .append, args := #[s, x], argTypes := #[t, t] })
    (base : Nat) (e : TypeId) (i : TypeInfo) (z : Value) (size bytes : Nat) (ht : P.underlying t = some (.slice e)) (hi : P.info? e = some i) (hz : i.zero = some z)
    (hsize : i.size = size) (hby : i.bytes = bytes) (hzs : z.cells.size = size) (hsz : 0 < size)
    (v : Value) (n : Nat) (xs : List Value) (hs : a.eval s = v) (hown : w.ownsRow base e size v n xs)
    (p : Option Addr) (m c : Nat) (news : List Value) (hx : a.eval x = .slice p m c) (hl : news.length = m * size) (hsl : Sl w p m news) (h1 : ∀ u ∈ news, u.oneCell' = true)
    (h63 : n + m ≤ maxLen) (hbytes : (n + m) * bytes ≤ 140737488355328) (hbase : base ≤ w.heap.size)
    (h : ∀ v' w', w'.ownsRow base e size v' (n + m) (xs ++ news) → w.grownBy w' v.ownBlock → (v'.ownBlock = v.ownBlock ∨ v'.ownBlock = some w.heap.size) → K (a.put o.dst v') w') : o.wp P a w K Q := by
  cases p with
  | none =>
    have h0 : m = 0 := by
      cases m with
      | zero => rfl
      | succ n => obtain ⟨_, _, _, h, _⟩ := hsl (by omega); cases h
    subst h0
    obtain rfl : news = [] := List.length_eq_zero_iff.1 (by omega)
    exact wp_append_nil s x t ho base e i size c ht hi v n xs hs hown hx (h v w (by simpa using hown) (World.grownBy.refl _ _) (.inl rfl))
  | some ad =>
    refine wp_append_own_at s x t ho base e i z size bytes ht hi hz hsize hby hzs hsz v n xs hs hown ad m c news hx hl ?_ h1 h63 hbytes hbase (fun v' w' g1 g2 _ g4 => h v' w' g1 g2 g4)
    intro j u hj
    have hjl := (List.getElem?_eq_some_iff.1 hj).1
    have hm : 0 < m := by
      rcases Nat.eq_zero_or_pos m with h0 | h0
      · subst h0; rw [Nat.zero_mul] at hl; omega
      · exact h0
    obtain ⟨b, off, _, he, hcell⟩ := hsl hm
    injection he with he
    subst he
    rw [Addr.add_lit]
    exact (hcell j hjl).trans hj
theorem wpList_append_sl {P : Program} {ops : Array Oper} {rest : List Oper} {o : Oper} {a : Act} {w : World} {Q : Exit → Act → World → Prop} (hgd : o.guard = none) (s x : Operand) (t : TypeId)
    (ho : o.op = .call { callee := .builtin .append, args := #[s, x], argTypes := #[t, t] })
    (base : Nat) (e : TypeId) (i : TypeInfo) (z : Value) (size bytes : Nat) (ht : P.underlying t = some (.slice e)) (hi : P.info? e = some i) (hz : i.zero = some z)
    (hsize : i.size = size) (hby : i.bytes = bytes) (hzs : z.cells.size = size) (hsz : 0 < size)
    (v : Value) (n : Nat) (xs : List Value) (hs : a.eval s = v) (hown : w.ownsRow base e size v n xs)
    (p : Option Addr) (m c : Nat) (news : List Value) (hx : a.eval x = .slice p m c) (hl : news.length = m * size) (hsl : Sl w p m news) (h1 : ∀ u ∈ news, u.oneCell' = true)
    (h63 : n + m ≤ maxLen) (hbytes : (n + m) * bytes ≤ 140737488355328) (hbase : base ≤ w.heap.size)
    (h : ∀ v' w', w'.ownsRow base e size v' (n + m) (xs ++ news) → w.grownBy w' v.ownBlock → (v'.ownBlock = v.ownBlock ∨ v'.ownBlock = some w.heap.size) → wpList P ops Q rest (a.put o.dst v') w') : wpList P ops Q (o :: rest) a w :=
  wpList_plain hgd fun K hK => wp_append_sl s x t ho base e i z size bytes ht hi hz hsize hby hzs hsz v n xs hs hown p m c news hx hl hsl h1 h63 hbytes hbase (fun v' w' g1 g2 g3 => hK _ _ (h v' w' g1 g2 g3))

theorem fresh_made {w : World} {e : TypeId} {size base : Nat} (h : base ≤ w.heap.size) : (w.alloc (.cells #[] e)).ownsRow base e size (.slice (some ⟨w.heap.size, 0, none⟩) 0 0) 0 [] :=
  World.ownsRow_made w #[] 0 h (Nat.zero_le _) (by simp)

theorem own_len {w : World} {base : Nat} {e : TypeId} {size : Nat} {p : Option Addr} {l c n : Nat} {xs : List Value} (h : w.ownsRow base e size (.slice p l c) n xs) : l = n := by
  obtain ⟨_, ⟨e, rfl⟩ | ⟨g, cap, cur, e, _⟩⟩ := h
  · injection e with _ e _
  · injection e with _ e _
section
variable {P : Program} {ops : Array Oper} {Q : Exit → Act → World → Prop} {S : World → Prop}
theorem plan_skip {K : Act → World → Prop} {i : Nat} {r : List (Nat × Bool)} {a : Act} {w : World} {o : Oper} (ho : ops[i]? = some o) (hw : Region.wanted o (yielded ops a.tmps) = false) (h : wpPlan P ops Q S K r (a.put o.dst undef) w) : wpPlan P ops Q S K ((i, true) :: r) a w :=
  ⟨o, undef, ho, .inr ⟨hw, rfl⟩, h⟩
theorem plan_skipc {K : Act → World → Prop} {i : Nat} {r : List (Nat × Bool)} {a : Act} {w : World} {o : Oper} (ho : ops[i]? = some o) (hw : Region.wanted o (yielded ops a.tmps) = false) (hS : S w) (h : wpPlan P ops Q S K r (a.put o.dst undef) w) : wpPlan P ops Q S K ((i, false) :: r) a w := by
  show wpOp P ops Q i _ a w
  unfold wpOp
  simp only [ho, hw, Bool.false_eq_true, if_false]
  exact ⟨hS, h⟩
end
section
variable {P : Program} {ops : Array Oper} {Q : Exit → Act → World → Prop} {S : World → Prop} {K : Act → World → Prop} {i : Nat} {p : PlanT} {a : Act} {w : World} {o : Oper}
theorem planT_skip (ho : ops[i]? = some o) (hw : Region.wanted o (yielded ops a.tmps) = false) (h : wpPlanT P ops Q S K p (a.put o.dst undef) w) : wpPlanT P ops Q S K (.read i p) a w :=
  ⟨o, undef, ho, .inr ⟨hw, rfl⟩, h⟩
theorem planT_skipc (ho : ops[i]? = some o) (hw : Region.wanted o (yielded ops a.tmps) = false) (hS : S w) (h : wpPlanT P ops Q S K p (a.put o.dst undef) w) : wpPlanT P ops Q S K (.one i p) a w := by
  show wpOp P ops Q i _ a w
  unfold wpOp
  simp only [ho, hw, Bool.false_eq_true, if_false]
  exact ⟨hS, h⟩
/-- An operation of a plan that comes alone, and yields a value. -/
theorem plan_make {r : List (Nat × Bool)} {v : Value} {w1 : World} (ho : ops[i]? = some o) (hw : Region.wanted o (yielded ops a.tmps) = true) (hr : (execOp a.eval o).run P w = .ok (.value v) w1) (hS : S w1) (h : wpPlan P ops Q S K r (a.put o.dst v) w1) : wpPlan P ops Q S K ((i, false) :: r) a w :=
  op_make ho hw hr ⟨hS, h⟩
/-- A store of a plan that comes alone. -/
theorem plan_store {r : List (Nat × Bool)} {w1 : World} (ho : ops[i]? = some o) (hw : Region.wanted o (yielded ops a.tmps) = true) (hr : (execOp a.eval o).run P w = .ok .skip w1) (hS : S w1) (h : wpPlan P ops Q S K r (a.put o.dst undef) w1) : wpPlan P ops Q S K ((i, false) :: r) a w := by
  show wpOp P ops Q i _ a w
  unfold wpOp
  simp only [ho, hw, if_true, Oper.wp, hr, Oper.upon]
  exact .inl ⟨hS, h⟩
end
end Go.Proofs.Yteffmidpinlpjaa
