/- ParityRebuilds: what is asked of a call of Write in a region that draws its order; rows that are the statement's own; no condition but that they read. -/
import Derived.Test.YtkeemmedbbammaaParOpen
import Derived.Test.YtkeemmedbbammaaParW
import Derived.Test.YtkeemmedbbammaaParX
namespace Go.Proofs.Ytkeemmedbbammaa
set_option linter.unusedVariables false
open Go.ChangeShapes Go.WideShapes Go.ChangeAt Go.RowKit

/-- Banks in a variable of their own, that lie ahead of nothing that was there. -/
def Fresh (w0 w : World) (b : Nat) (n m : Nat) (B : Bk) : Prop := ∃ p c ys pp cc, w0.heap.size ≤ b ∧ Blk w b #[.slice p n c, .slice pp m cc, .int .i64 B.lost] ∧ Bn w p n c ys pp m cc B ∧ (∀ R, R < w0.heap.size → Off R p ys B.rows pp B.par) ∧ Below w0.heap.size w0 w
theorem Fresh.first {w0 w1 : World} {n m : Nat} {B : Bk} {p : Option Addr} {c : Nat} {ys : List Value} {pp : Option Addr} {cc : Nat} (ho : OwnB w0.heap.size w1 p n c ys pp m cc B) (hb : Below w0.heap.size w0 w1) :
    Fresh w0 (w1.alloc (.cells #[.slice p n c, .slice pp m cc, .int .i64 B.lost] 25)) w1.heap.size n m B :=
  ⟨p, c, ys, pp, cc, hb.size, Blk.new _ _ _, ho.bn.below ((Below.refl _ _).alloc (Nat.le_refl _) _), fun R hR => ho.off hR, hb.alloc hb.size _⟩
theorem Off.any {R : Nat} {p : Option Addr} {xs : List Value} {L : List (List Nat)} {pp : Option Addr} {P : List Nat} (h : Off R p xs L pp P) : Off R p xs L pp P := h
/-- The banks were made behind a variable's block, and are laid into it. -/
theorem Fresh.later {w0 w1 w2 : World} {n m : Nat} {B : Bk} {p : Option Addr} {c : Nat} {ys : List Value} {pp : Option Addr} {cc : Nat} {a0 a1 a2 : Value} (h1 : w1 = w0.alloc (.cells #[a0, a1, a2] 25)) (ho : OwnB w1.heap.size w2 p n c ys pp m cc B) (hb : Below w1.heap.size w1 w2) :
    Fresh w0 (((w2.setCell ⟨w0.heap.size, 0, none⟩ (.slice p n c)).setCell ⟨w0.heap.size, 1, none⟩ (.slice pp m cc)).setCell ⟨w0.heap.size, 2, none⟩ (.int .i64 B.lost)) w0.heap.size n m B := by
  have hs : w1.heap.size = w0.heap.size + 1 := by rw [h1, size_new]
  have hk : Blk w2 w0.heap.size #[a0, a1, a2] := by
    have := (Blk.new w0 #[a0, a1, a2] 25)
    rw [← h1] at this
    exact this.below hb
  have hb0 : Below w0.heap.size w0 w2 := by
    have : Below w0.heap.size w0 w1 := by rw [h1]; exact (Below.refl _ _).alloc (Nat.le_refl _) _
    exact this.trans (hb.mono this.size)
  exact ⟨p, c, ys, pp, cc, Nat.le_refl _, set3_same hk _ _ _, ho.bn.set3 (ho.off (by omega)) _ _ _, fun R hR => ho.off (by omega), set3_below hb0 (Nat.le_refl _) _ _ _⟩
theorem Fresh.drew {w0 w : World} {b n m : Nat} {B : Bk} (h : Fresh w0.drew w b n m B) : Fresh w0 w b n m B := by
  obtain ⟨p, c, ys, pp, cc, h1, h2, h3, h4, h5⟩ := h
  exact ⟨p, c, ys, pp, cc, h1, h2, h3, h4, (Below.refl w0.heap.size w0).drew.trans h5⟩
theorem op_store {P : Program} {ops : Array Oper} {Q : Exit → Act → World → Prop} {i : Nat} {a : Act} {w w1 : World} {o : Oper} {K : Act → World → Prop} (ho : ops[i]? = some o) (hw : Region.wanted o (yielded ops a.tmps) = true) (hr : (execOp a.eval o).run P w = .ok .skip w1) (h : K (a.put o.dst undef) w1) : wpOp P ops Q i K a w := by
  unfold wpOp
  simp only [ho, hw, if_true, Oper.wp, hr, Oper.upon]
  exact .inl h
/-- Rows that are the statement's own, n of m words. -/
def Md (base : Nat) (w : World) (g n : Nat) (ys : List Value) (L : List (List Nat)) : Prop := OwnB base w (some ⟨g, 0, none⟩) n n ys none 0 0 ⟨L, [], 0⟩
theorem Md.of {base : Nat} {w : World} {g n : Nat} {ys : List Value} {L : List (List Nat)} (h : Own base w (.slice (some ⟨g, 0, none⟩) n n) ys L) (hz : L.length = n) (hn : n ≤ 100) (hl : ∀ l ∈ L, l.length ≤ 100) (hlt : ∀ l ∈ L, ∀ x ∈ l, x < 4294967296) : Md base w g n ys L :=
  ⟨hz, h, rfl, World.ownsRow_nil _ _ _ _, fun _ h => (by cases h), hlt, hn, hl, by decide, (fun b e => by cases e), (fun k _ b e => by cases e)⟩
theorem ownB_off3 {base : Nat} {w : World} {p : Option Addr} {n c : Nat} {ys : List Value} {pp : Option Addr} {m cc : Nat} {B : Bk} (h : OwnB base w p n c ys pp m cc B) {R : Nat} (hR : R < base) (u0 u1 u2 : Value) : OwnB base (((w.setCell ⟨R, 0, none⟩ u0).setCell ⟨R, 1, none⟩ u1).setCell ⟨R, 2, none⟩ u2) p n c ys pp m cc B := ((h.setOff hR 0 _).setOff hR 1 _).setOff hR 2 _
end Go.Proofs.Ytkeemmedbbammaa
