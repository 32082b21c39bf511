/- CacheModel: what lies in memory while its function runs; no condition. -/
import Derived.Test.YtoddmgaihggkjaaCacheL0
namespace Go.Proofs.Ytoddmgaihggkjaa
set_option linter.unusedVariables false
open Go.ChangeShapes Go.WideShapes Go.ChangeAt Go.RowKit

def arrU (va : Nat → Nat) : Array Value := arr fun k => .int .u32 (va k : Int)
def arrI (la : Nat → Nat) : Array Value := arr fun k => .int .i64 (la k : Int)
theorem arrU_at (va : Nat → Nat) (k : Nat) (h : k < 256) : (arrU va)[k]? = some (.int .u32 (va k : Int)) := arr_at _ k h
theorem arrI_at (la : Nat → Nat) (k : Nat) (h : k < 256) : (arrI la)[k]? = some (.int .i64 (la k : Int)) := arr_at _ k h
theorem arrU_set (va : Nat → Nat) (k x : Nat) : (arrU va).setIfInBounds k (.int .u32 (x : Int)) = arrU (upd va k x) := by
  unfold arrU; rw [arr_set]; congr 1; funext j; unfold upd; split <;> rfl
theorem arrI_set (la : Nat → Nat) (k x : Nat) : (arrI la).setIfInBounds k (.int .i64 (x : Int)) = arrI (upd la k x) := by
  unfold arrI; rw [arr_set]; congr 1; funext j; unfold upd; split <;> rfl
theorem zero50 (w : World) : (zeroValue 50).run Try.prog w = .ok (.agg (arrU fun _ => 0)) w := by kernel_rfl
theorem zero51 (w : World) : (zeroValue 51).run Try.prog w = .ok (.agg (arrI fun _ => 0)) w := by kernel_rfl
def S4 (b b1 b2 b3 : Nat) : Nat → Prop := fun R => R = b ∨ R = b1 ∨ R = b2 ∨ R = b3
/-- The statement's variables: a cache, which addresses are there, what was put last, and when each was used. -/
structure Sm (w0 w : World) (b b1 b2 b3 : Nat) (C : Ch) (th : Nat → Bool) (va la : Nat → Nat) : Prop where
  t : Blk w b1 (arrB th)
  v : Blk w b2 (arrU va)
  l : Blk w b3 (arrI la)
  c : Var (S4 b b1 b2 b3) w b C
  bel : Below w0.heap.size w0 w
  g0 : w0.heap.size ≤ b
  g1 : b < b1
  g2 : b1 < b2
  g3 : b2 < b3
theorem Sm.below {w0 w w' : World} {b b1 b2 b3 : Nat} {C : Ch} {th : Nat → Bool} {va la : Nat → Nat} (h : Sm w0 w b b1 b2 b3 C th va la) (hb : Below w.heap.size w w') : Sm w0 w' b b1 b2 b3 C th va la :=
  ⟨h.t.below hb, h.v.below hb, h.l.below hb, h.c.below hb, h.bel.trans (hb.mono h.bel.size), h.g0, h.g1, h.g2, h.g3⟩
theorem Sm.setT {w0 w : World} {b b1 b2 b3 : Nat} {C : Ch} {th : Nat → Bool} {va la : Nat → Nat} (h : Sm w0 w b b1 b2 b3 C th va la) (k : Nat) (hk : k < 256) (x : Bool) : Sm w0 (w.setCell ⟨b1, k, none⟩ (.bool x)) b b1 b2 b3 C (upd th k x) va la := by
  have g0 := h.g0; have g1 := h.g1; have g2 := h.g2; have g3 := h.g3
  exact ⟨(h.t.set (n := k) (.bool x) (by unfold arrB; rw [arr_size]; exact hk)).cast (arrB_set th k x), h.v.other _ (by omega), h.l.other _ (by omega), h.c.set (.inr (.inl rfl)) (by omega) _ _, h.bel.setCell (p := ⟨b1, k, none⟩) (by show w0.heap.size ≤ b1; omega) _, h.g0, h.g1, h.g2, h.g3⟩
theorem Sm.setV {w0 w : World} {b b1 b2 b3 : Nat} {C : Ch} {th : Nat → Bool} {va la : Nat → Nat} (h : Sm w0 w b b1 b2 b3 C th va la) (k : Nat) (hk : k < 256) (x : Nat) : Sm w0 (w.setCell ⟨b2, k, none⟩ (.int .u32 (x : Int))) b b1 b2 b3 C th (upd va k x) la := by
  have g0 := h.g0; have g1 := h.g1; have g2 := h.g2; have g3 := h.g3
  exact ⟨h.t.other _ (by omega), (h.v.set (n := k) (.int .u32 (x : Int)) (by unfold arrU; rw [arr_size]; exact hk)).cast (arrU_set va k x), h.l.other _ (by omega), h.c.set (.inr (.inr (.inl rfl))) (by omega) _ _, h.bel.setCell (p := ⟨b2, k, none⟩) (by show w0.heap.size ≤ b2; omega) _, h.g0, h.g1, h.g2, h.g3⟩
theorem Sm.setL {w0 w : World} {b b1 b2 b3 : Nat} {C : Ch} {th : Nat → Bool} {va la : Nat → Nat} (h : Sm w0 w b b1 b2 b3 C th va la) (k : Nat) (hk : k < 256) (x : Nat) : Sm w0 (w.setCell ⟨b3, k, none⟩ (.int .i64 (x : Int))) b b1 b2 b3 C th va (upd la k x) := by
  have g0 := h.g0; have g1 := h.g1; have g2 := h.g2; have g3 := h.g3
  exact ⟨h.t.other _ (by omega), h.v.other _ (by omega), (h.l.set (n := k) (.int .i64 (x : Int)) (by unfold arrI; rw [arr_size]; exact hk)).cast (arrI_set la k x), h.c.set (.inr (.inr (.inr rfl))) (by omega) _ _, h.bel.setCell (p := ⟨b3, k, none⟩) (by show w0.heap.size ≤ b3; omega) _, h.g0, h.g1, h.g2, h.g3⟩
theorem Sm.cache {w0 w : World} {b b1 b2 b3 : Nat} {C C1 : Ch} {th : Nat → Bool} {va la : Nat → Nat} (h : Sm w0 w b b1 b2 b3 C th va la) {p : Option Addr} {n c : Nat} (ho : Co (S4 b b1 b2 b3) w (.agg #[.int .i64 C1.sets, .int .i64 C1.ways, .int .i64 C1.clock, .slice p n c]) C1) :
    Sm w0 ((((w.setCell ⟨b, 0, none⟩ (.int .i64 C1.sets)).setCell ⟨b, 1, none⟩ (.int .i64 C1.ways)).setCell ⟨b, 2, none⟩ (.int .i64 C1.clock)).setCell ⟨b, 3, none⟩ (.slice p n c)) b b1 b2 b3 C1 th va la := by
  have g0 := h.g0; have g1 := h.g1; have g2 := h.g2; have g3 := h.g3
  obtain ⟨_, _, _, _, hk, _⟩ := h.c
  obtain ⟨h1, h2, h3, _⟩ := var_use hk ho h.bel h.g0 (.inl rfl) _ rfl
  exact ⟨set4_other h.t (by omega) _ _ _ _, set4_other h.v (by omega) _ _ _ _, set4_other h.l (by omega) _ _ _ _, Var.of h1 h2, h3, g0, g1, g2, g3⟩
theorem Sm.lt {w0 w : World} {b b1 b2 b3 : Nat} {C : Ch} {th : Nat → Bool} {va la : Nat → Nat} (h : Sm w0 w b b1 b2 b3 C th va la) : ∀ R, S4 b b1 b2 b3 R → R < w.heap.size := fun R hR => by
  have g0 := h.g0; have g1 := h.g1; have g2 := h.g2; have g3 := h.g3
  have := h.l.lt
  rcases hR with h | h | h | h <;> omega
theorem Sm.new {w0 w : World} {b : Nat} {C : Ch} (hv : Var (fun R => R = b) w b C) (hb : Below w0.heap.size w0 w) (hg : w0.heap.size ≤ b) (hs : w.heap.size = b + 1) (th : Nat → Bool) (va la : Nat → Nat) :
    Sm w0 (((w.alloc (.cells (arrB th) 49)).alloc (.cells (arrU va) 50)).alloc (.cells (arrI la) 51)) b (b + 1) (b + 1 + 1) (b + 1 + 1 + 1) C th va la := by
  have e1 : (w.alloc (.cells (arrB th) 49)).heap.size = b + 1 + 1 := by rw [World.size_alloc, hs]
  have e2 : ((w.alloc (.cells (arrB th) 49)).alloc (.cells (arrU va) 50)).heap.size = b + 1 + 1 + 1 := by rw [World.size_alloc, e1]
  have k1 := Blk.new w (arrB th) 49
  rw [hs] at k1
  have k2 := Blk.new (w.alloc (.cells (arrB th) 49)) (arrU va) 50
  rw [e1] at k2
  have k3 := Blk.new ((w.alloc (.cells (arrB th) 49)).alloc (.cells (arrU va) 50)) (arrI la) 51
  rw [e2] at k3
  have hb1 : Below w.heap.size w (((w.alloc (.cells (arrB th) 49)).alloc (.cells (arrU va) 50)).alloc (.cells (arrI la) 51)) := (((Below.refl _ _).alloc (Nat.le_refl _) _).alloc (by rw [e1]; omega) _).alloc (by rw [e2]; omega) _
  refine ⟨(k1.alloc _).alloc _, k2.alloc _, k3, (hv.later (fun R hR => ?_)).below hb1, hb.trans (hb1.mono hb.size), hg, by omega, by omega, by omega⟩
  rcases hR with h | h | h | h
  · exact .inl h
  all_goals exact .inr (by omega)
/-- What is done with a cache. -/
structure Dt where
  kind : Nat
  a : Nat
  st : Nat
  v : Nat
def Dt.row (x : Dt) : Array Value := #[.int .u8 x.kind, .int .u8 x.a, .int .u8 x.st, .int .u32 x.v]
def Dt.Fits (x : Dt) : Prop := x.kind < 256 ∧ x.a < 256 ∧ x.st < 256 ∧ x.v < 4294967296
def dt0 : Dt := ⟨0, 0, 0, 0⟩
/-- n elements of sz cells each lie behind p. -/
def Els (w : World) (p : Option Addr) (sz n : Nat) (g : Nat → Array Value) : Prop :=
  0 < n → ∃ b off, b < w.heap.size ∧ p = some ⟨b, off, none⟩ ∧ ∀ k, k < n → ∀ j, j < sz → w.cell? ⟨b, off + k * sz + j, none⟩ = (g k)[j]?
end Go.Proofs.Ytoddmgaihggkjaa
