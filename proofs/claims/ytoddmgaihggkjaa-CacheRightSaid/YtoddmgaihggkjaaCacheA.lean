/- Lines and caches in memory, as they read, and in which blocks they don't lie; no condition but that they read. -/
import Derived.Test.YtoddmgaihggkjaaCacheNum
import Derived.Test.YtoddmgaihggkjaaRows
import Derived.WalkSpells
import Derived.Outline
import Derived.Laws.CopyOwn
import Derived.Deep.WholeRow
import Derived.OwnWalk
import Derived.BigGuardPart
import Derived.Deep.RegionLaw
import Derived.Lib.SliceRun
namespace Go.Proofs.Ytoddmgaihggkjaa
set_option linter.unusedVariables false
open Go.ChangeShapes Go.WideShapes Go.ChangeAt Go.RowKit

def vz : Value := .bool false
def lnR (x : Ln) : Array Value := #[.int .i64 x.addr, .int .i64 x.state, .int .u32 x.val, .int .i64 x.used]
def lnC (l : List Ln) : List Value := l.flatMap fun x => (lnR x).toList
theorem lnC_nil : lnC [] = [] := rfl
theorem lnC_cons (x : Ln) (l : List Ln) : lnC (x :: l) = (lnR x).toList ++ lnC l := rfl
theorem lnC_app (l m : List Ln) : lnC (l ++ m) = lnC l ++ lnC m := by unfold lnC; exact List.flatMap_append
theorem lnC_len (l : List Ln) : (lnC l).length = l.length * 4 := by
  induction l with
  | nil => rfl
  | cons x l ih => rw [lnC_cons, List.length_append, ih, List.length_cons]; show 4 + l.length * 4 = _; omega
theorem lnC_one (l : List Ln) : ∀ u ∈ lnC l, u.oneCell' = true := by
  intro u hu
  obtain ⟨x, _, hx⟩ := List.mem_flatMap.1 hu
  simp [lnR] at hx
  rcases hx with rfl | rfl | rfl | rfl <;> rfl
theorem lnC_at (l : List Ln) (k j : Nat) (hk : k < l.length) (hj : j < 4) : (lnC l)[k * 4 + j]? = (lnR (l.getD k zL))[j]? := by
  induction l generalizing k with
  | nil => exact absurd hk (Nat.not_lt_zero _)
  | cons x l ih =>
    rw [lnC_cons]
    cases k with
    | zero =>
      rw [List.getElem?_append_left (by show 0 * 4 + j < 4; omega), Nat.zero_mul, Nat.zero_add]
      simp
    | succ k =>
      rw [List.getElem?_append_right (by show 4 ≤ (k + 1) * 4 + j; omega)]
      have e : (k + 1) * 4 + j - ((lnR x).toList).length = k * 4 + j := by show (k + 1) * 4 + j - 4 = _; omega
      rw [e, ih k (by simpa using hk), List.getD_cons_succ]

/-- A slice that reads as these lines. -/
def Lm (w : World) (p : Option Addr) (l : List Ln) : Prop := 0 < l.length → ∃ b off, b < w.heap.size ∧ p = some ⟨b, off, none⟩ ∧
  ∀ k, k < l.length → ∀ j, j < 4 → w.cell? ⟨b, off + (k * 4 + j), none⟩ = (lnR (l.getD k zL))[j]?
theorem Lm.below {w w' : World} {p : Option Addr} {l : List Ln} (h : Lm w p l) (hb : Below w.heap.size w w') : Lm w' p l := fun h0 => by
  obtain ⟨b, off, h1, h2, h3⟩ := h h0
  exact ⟨b, off, Nat.lt_of_lt_of_le h1 hb.size, h2, fun k hk j hj => (hb.cell (p := ⟨b, off + (k * 4 + j), none⟩) h1).trans (h3 k hk j hj)⟩
theorem Lm.sl {w : World} {p : Option Addr} {l : List Ln} (h : Lm w p l) : Sl w p l.length (lnC l) := fun h0 => by
  obtain ⟨b, off, h1, h2, h3⟩ := h h0
  refine ⟨b, off, h1, h2, fun j hj => ?_⟩
  rw [lnC_len] at hj
  have e : j = (j / 4) * 4 + j % 4 := by omega
  rw [e, h3 (j / 4) (by omega) (j % 4) (by omega), lnC_at l _ _ (by omega) (by omega)]
theorem Lm.of_sl {w : World} {p : Option Addr} {l : List Ln} (h : Sl w p l.length (lnC l)) : Lm w p l := fun h0 => by
  obtain ⟨b, off, h1, h2, h3⟩ := h h0
  exact ⟨b, off, h1, h2, fun k hk j hj => by rw [h3 _ (by rw [lnC_len]; omega), lnC_at l k j hk hj]⟩
/-- What one of its lines is in memory. -/
structure LnAt (w : World) (b off k : Nat) (x : Ln) : Prop where
  lt : b < w.heap.size
  c0 : w.cell? ⟨b, off + k * 4, none⟩ = some (.int .i64 x.addr)
  c1 : w.cell? ⟨b, off + k * 4 + 1, none⟩ = some (.int .i64 x.state)
  c2 : w.cell? ⟨b, off + k * 4 + 2, none⟩ = some (.int .u32 x.val)
  c3 : w.cell? ⟨b, off + k * 4 + 3, none⟩ = some (.int .i64 x.used)
theorem Lm.at_ {w : World} {p : Option Addr} {l : List Ln} (h : Lm w p l) (k : Nat) (hk : k < l.length) : ∃ b off, p = some ⟨b, off, none⟩ ∧ LnAt w b off k (l.getD k zL) := by
  obtain ⟨b, off, h1, h2, h3⟩ := h (by omega)
  exact ⟨b, off, h2, h1, h3 k hk 0 (by decide), h3 k hk 1 (by decide), h3 k hk 2 (by decide), h3 k hk 3 (by decide)⟩
theorem LnAt.below {w w' : World} {b off k : Nat} {x : Ln} (h : LnAt w b off k x) (hb : Below w.heap.size w w') : LnAt w' b off k x :=
  ⟨Nat.lt_of_lt_of_le h.lt hb.size, (hb.cell (p := ⟨b, _, none⟩) h.lt).trans h.c0, (hb.cell (p := ⟨b, _, none⟩) h.lt).trans h.c1, (hb.cell (p := ⟨b, _, none⟩) h.lt).trans h.c2, (hb.cell (p := ⟨b, _, none⟩) h.lt).trans h.c3⟩
/-- A value that reads as a list of lines. -/
def Lv (w : World) (v : Value) (l : List Ln) : Prop := ∃ p c, v = .slice p l.length c ∧ l.length ≤ c ∧ Lm w p l
theorem Lv.below {w w' : World} {v : Value} {l : List Ln} (h : Lv w v l) (hb : Below w.heap.size w w') : Lv w' v l := by
  obtain ⟨p, c, e, hc, h⟩ := h
  exact ⟨p, c, e, hc, h.below hb⟩
theorem Lv.one {w : World} {v : Value} {l : List Ln} (h : Lv w v l) : v.oneCell' = true := by
  obtain ⟨p, c, rfl, _⟩ := h
  rfl
theorem Lv.nil (w : World) (c : Nat) : Lv w (.slice none 0 c) [] := ⟨none, c, rfl, Nat.zero_le _, fun h => absurd h (by decide)⟩
/-- A cache in memory: what it reads as. -/
structure Cc (w : World) (p : Option Addr) (n c : Nat) (xs : List Value) (C : Ch) : Prop where
  zn : C.lines.length = n
  len : xs.length = n
  sl : Sl w p n xs
  rs : ∀ k, k < n → Lv w (xs.getD k vz) (C.lines.getD k [])
  cn : n ≤ c
  n100 : n ≤ 100
  l100 : ∀ k, (C.lines.getD k []).length ≤ 100
theorem Cc.below {w w' : World} {p : Option Addr} {n c : Nat} {xs : List Value} {C : Ch} (h : Cc w p n c xs C) (hb : Below w.heap.size w w') : Cc w' p n c xs C :=
  ⟨h.zn, h.len, h.sl.below hb, fun k hk => (h.rs k hk).below hb, h.cn, h.n100, h.l100⟩
theorem Cc.one {w : World} {p : Option Addr} {n c : Nat} {xs : List Value} {C : Ch} (h : Cc w p n c xs C) : ∀ u ∈ xs, u.oneCell' = true := by
  intro u hu
  obtain ⟨k, hk, rfl⟩ := List.getElem_of_mem hu
  have := (h.rs k (by rw [← h.len]; exact hk)).one
  rwa [List.getD_eq_getElem?_getD, List.getElem?_eq_getElem hk] at this
/-- What one of its sets is in memory. -/
structure SetAt (w : World) (b off k : Nat) (q : Option Addr) (x c2 : Nat) (l : List Ln) : Prop where
  lt : b < w.heap.size
  cell : w.cell? ⟨b, off + k, none⟩ = some (.slice q x c2)
  len : l.length = x
  lm : Lm w q l
  cap : x ≤ c2
  x100 : x ≤ 100
theorem SetAt.below {w w' : World} {b off k : Nat} {q : Option Addr} {x c2 : Nat} {l : List Ln} (h : SetAt w b off k q x c2 l) (hb : Below w.heap.size w w') : SetAt w' b off k q x c2 l :=
  ⟨Nat.lt_of_lt_of_le h.lt hb.size, (hb.cell (p := ⟨b, off + k, none⟩) h.lt).trans h.cell, h.len, h.lm.below hb, h.cap, h.x100⟩
theorem Cc.setAt {w : World} {p : Option Addr} {n c : Nat} {xs : List Value} {C : Ch} (h : Cc w p n c xs C) (k : Nat) (hk : k < n) : ∃ b off q x c2, p = some ⟨b, off, none⟩ ∧ SetAt w b off k q x c2 (C.lines.getD k []) := by
  obtain ⟨b, off, h1, h2, h3⟩ := h.sl (by omega)
  obtain ⟨q, c2, hv, hc2, hn⟩ := h.rs k hk
  refine ⟨b, off, q, _, c2, h2, h1, ?_, rfl, hn, hc2, h.l100 k⟩
  rw [h3 k (by rw [h.len]; exact hk), ← hv, List.getD_eq_getElem?_getD, List.getElem?_eq_getElem (by rw [h.len]; exact hk)]
  rfl
/-- The block R is none of those in which a cache lies. -/
structure Off (R : Nat) (p : Option Addr) (xs : List Value) (L : List (List Ln)) : Prop where
  head : 0 < L.length → ∀ a, p = some a → a.block ≠ R
  rows : ∀ k, k < L.length → 0 < (L.getD k []).length → ∀ g, (xs.getD k vz).ownBlock = some g → g ≠ R
theorem Cc.off {w : World} {p : Option Addr} {n c : Nat} {xs : List Value} {C : Ch} (h : Cc w p n c xs C) {R : Nat} (hR : w.heap.size ≤ R) : Off R p xs C.lines := by
  refine ⟨fun h0 a e => ?_, fun k hk h0 g e => ?_⟩
  · obtain ⟨b, off, h1, h2, _⟩ := h.sl (by rw [← h.zn]; exact h0)
    rw [h2] at e
    injection e with e
    subst e
    show b ≠ R
    omega
  · obtain ⟨q, c2, e2, _, h2⟩ := h.rs k (by rw [← h.zn]; exact hk)
    obtain ⟨b, off, h1, h3, _⟩ := h2 h0
    rw [e2, h3] at e
    have e' : some b = some g := e
    injection e' with e'
    omega
theorem Lm.set {w : World} {p : Option Addr} {l : List Ln} (h : Lm w p l) {R : Nat} (ho : 0 < l.length → ∀ a, p = some a → a.block ≠ R) (j : Nat) (u : Value) : Lm (w.setCell ⟨R, j, none⟩ u) p l := fun h0 => by
  obtain ⟨b, off, h1, h2, h3⟩ := h h0
  have hne := ho h0 _ h2
  exact ⟨b, off, by simpa using h1, h2, fun k hk i hi => (World.cell?_setCell_other _ _ _ _ (by intro e; injection e with e1; exact hne e1.symm)).trans (h3 k hk i hi)⟩
theorem Cc.set {w : World} {p : Option Addr} {n c : Nat} {xs : List Value} {C : Ch} (h : Cc w p n c xs C) {R : Nat} (ho : Off R p xs C.lines) (j : Nat) (u : Value) : Cc (w.setCell ⟨R, j, none⟩ u) p n c xs C := by
  refine ⟨h.zn, h.len, fun h0 => ?_, fun k hk => ?_, h.cn, h.n100, h.l100⟩
  · obtain ⟨b, off, h1, h2, h3⟩ := h.sl h0
    have hne := ho.head (by rw [h.zn]; exact h0) _ h2
    exact ⟨b, off, by simpa using h1, h2, fun k hk => (World.cell?_setCell_other _ _ _ _ (by intro e; injection e with e1; exact hne e1.symm)).trans (h3 k hk)⟩
  · obtain ⟨q, c2, e2, h1, h2⟩ := h.rs k hk
    refine ⟨q, c2, e2, h1, h2.set (fun h0 a e => ?_) j u⟩
    exact ho.rows k (by rw [h.zn]; exact hk) h0 a.block (by rw [e2, e]; rfl)
/-- A value that reads as a cache, and lies in none of the blocks S. -/
def Co (S : Nat → Prop) (w : World) (v : Value) (C : Ch) : Prop := ∃ p n c xs, v = .agg #[.int .i64 C.sets, .int .i64 C.ways, .int .i64 C.clock, .slice p n c] ∧ Cc w p n c xs C ∧ ∀ R, S R → Off R p xs C.lines
theorem Co.below {S : Nat → Prop} {w w' : World} {v : Value} {C : Ch} (h : Co S w v C) (hb : Below w.heap.size w w') : Co S w' v C := by
  obtain ⟨p, n, c, xs, e, h1, h2⟩ := h
  exact ⟨p, n, c, xs, e, h1.below hb, h2⟩
theorem Co.set {S : Nat → Prop} {w : World} {v : Value} {C : Ch} (h : Co S w v C) {R : Nat} (hR : S R) (j : Nat) (u : Value) : Co S (w.setCell ⟨R, j, none⟩ u) v C := by
  obtain ⟨p, n, c, xs, e, h1, h2⟩ := h
  exact ⟨p, n, c, xs, e, h1.set (h2 R hR) j u, h2⟩
theorem Co.weak {S S' : Nat → Prop} {w : World} {v : Value} {C : Ch} (h : Co S w v C) (hs : ∀ R, S' R → S R) : Co S' w v C := by
  obtain ⟨p, n, c, xs, e, h1, h2⟩ := h
  exact ⟨p, n, c, xs, e, h1, fun R hR => h2 R (hs R hR)⟩
/-- Nothing lies in blocks that come later. -/
theorem Co.later {S S' : Nat → Prop} {w : World} {v : Value} {C : Ch} (h : Co S w v C) (hs : ∀ R, S' R → S R ∨ w.heap.size ≤ R) : Co S' w v C := by
  obtain ⟨p, n, c, xs, e, h1, h2⟩ := h
  exact ⟨p, n, c, xs, e, h1, fun R hR => (hs R hR).elim (h2 R) h1.off⟩
/-- What a call hands back: a cache, and a number. -/
def OutC (S : Nat → Prop) (w w' : World) (e : Ending) (C : Ch) (E : Int) : Prop := ∃ v, e = .returned (.tuple #[v, .int .i64 E]) ∧ Co S w' v C ∧ Below w.heap.size w w'
/-- A cache, a line, and a number. -/
def OutP (S : Nat → Prop) (w w' : World) (e : Ending) (C : Ch) (x : Ln) (E : Int) : Prop := ∃ v, e = .returned (.tuple #[v, .agg #[.int .i64 x.addr, .int .i64 x.state, .int .u32 x.val, .int .i64 x.used], .int .i64 E]) ∧ Co S w' v C ∧ Below w.heap.size w w'
theorem set4_below {s R : Nat} {w0 w : World} (h : Below s w0 w) (hR : s ≤ R) (u0 u1 u2 u3 : Value) : Below s w0 ((((w.setCell ⟨R, 0, none⟩ u0).setCell ⟨R, 1, none⟩ u1).setCell ⟨R, 2, none⟩ u2).setCell ⟨R, 3, none⟩ u3) :=
  (((h.setCell (p := ⟨R, 0, none⟩) hR _).setCell (p := ⟨R, 1, none⟩) hR _).setCell (p := ⟨R, 2, none⟩) hR _).setCell (p := ⟨R, 3, none⟩) hR _
theorem set4_other {w : World} {B R : Nat} {cs : Array Value} (h : Blk w B cs) (hne : R ≠ B) (u0 u1 u2 u3 : Value) : Blk ((((w.setCell ⟨R, 0, none⟩ u0).setCell ⟨R, 1, none⟩ u1).setCell ⟨R, 2, none⟩ u2).setCell ⟨R, 3, none⟩ u3) B cs := (((h.other u0 hne).other u1 hne).other u2 hne).other u3 hne
theorem set4_same {w : World} {R : Nat} {a0 a1 a2 a3 : Value} (h : Blk w R #[a0, a1, a2, a3]) (u0 u1 u2 u3 : Value) : Blk ((((w.setCell ⟨R, 0, none⟩ u0).setCell ⟨R, 1, none⟩ u1).setCell ⟨R, 2, none⟩ u2).setCell ⟨R, 3, none⟩ u3) R #[u0, u1, u2, u3] :=
  (((h.set (n := 0) u0 (by simp)).set (n := 1) u1 (by simp)).set (n := 2) u2 (by simp)).set (n := 3) u3 (by simp)
theorem Co.set4 {S : Nat → Prop} {w : World} {v : Value} {C : Ch} (h : Co S w v C) {R : Nat} (hR : S R) (u0 u1 u2 u3 : Value) : Co S ((((w.setCell ⟨R, 0, none⟩ u0).setCell ⟨R, 1, none⟩ u1).setCell ⟨R, 2, none⟩ u2).setCell ⟨R, 3, none⟩ u3) v C :=
  (((h.set hR 0 u0).set hR 1 u1).set hR 2 u2).set hR 3 u3
theorem drewN_below {B : Nat} {a w : World} (h : Below B a w) (n : Nat) : Below B a (w.drewN n) := ⟨h.os, h.tape, h.output, h.size, h.block⟩
/-- A variable in block b that holds a cache, which lies in none of the blocks S. -/
def Var (S : Nat → Prop) (w : World) (b : Nat) (C : Ch) : Prop := ∃ p n c xs, Blk w b #[.int .i64 C.sets, .int .i64 C.ways, .int .i64 C.clock, .slice p n c] ∧ Cc w p n c xs C ∧ ∀ R, S R → Off R p xs C.lines
theorem Var.below {S : Nat → Prop} {w w' : World} {b : Nat} {C : Ch} (h : Var S w b C) (hb : Below w.heap.size w w') : Var S w' b C := by
  obtain ⟨p, n, c, xs, h1, h2, h3⟩ := h
  exact ⟨p, n, c, xs, h1.below hb, h2.below hb, h3⟩
theorem Var.set {S : Nat → Prop} {w : World} {b : Nat} {C : Ch} (h : Var S w b C) {R : Nat} (hR : S R) (hne : R ≠ b) (j : Nat) (u : Value) : Var S (w.setCell ⟨R, j, none⟩ u) b C := by
  obtain ⟨p, n, c, xs, h1, h2, h3⟩ := h
  exact ⟨p, n, c, xs, h1.other u hne, h2.set (h3 R hR) j u, h3⟩
theorem Var.later {S S' : Nat → Prop} {w : World} {b : Nat} {C : Ch} (h : Var S w b C) (hs : ∀ R, S' R → S R ∨ w.heap.size ≤ R) : Var S' w b C := by
  obtain ⟨p, n, c, xs, h1, h2, h3⟩ := h
  exact ⟨p, n, c, xs, h1, h2, fun R hR => (hs R hR).elim (h3 R) h2.off⟩
theorem Var.of {S : Nat → Prop} {w : World} {b : Nat} {p : Option Addr} {n c : Nat} {C : Ch} (hk : Blk w b #[.int .i64 C.sets, .int .i64 C.ways, .int .i64 C.clock, .slice p n c]) (ho : Co S w (.agg #[.int .i64 C.sets, .int .i64 C.ways, .int .i64 C.clock, .slice p n c]) C) : Var S w b C := by
  obtain ⟨p', n', c', xs, e, h1, h2⟩ := ho
  injection e with e
  simp at e
  obtain ⟨rfl, rfl, rfl⟩ := e
  exact ⟨_, _, _, xs, hk, h1, h2⟩
theorem var_use {S : Nat → Prop} {s b : Nat} {w0 v : World} {a0 a1 a2 a3 u0 u1 u2 u3 : Value} {C : Ch} (hk : Blk v b #[a0, a1, a2, a3]) (ho : Co S v (.agg #[u0, u1, u2, u3]) C) (hb : Below s w0 v) (hs : s ≤ b) (hS : S b) (w3 : World)
    (e : w3 = (((v.setCell ⟨b, 0, none⟩ u0).setCell ⟨b, 1, none⟩ u1).setCell ⟨b, 2, none⟩ u2).setCell ⟨b, 3, none⟩ u3) : Blk w3 b #[u0, u1, u2, u3] ∧ Co S w3 (.agg #[u0, u1, u2, u3]) C ∧ Below s w0 w3 ∧ w3.heap.size = v.heap.size := by
  subst e
  exact ⟨set4_same hk _ _ _ _, ho.set4 hS _ _ _ _, set4_below hb hs _ _ _ _, by simp⟩
theorem var_put {S : Nat → Prop} {s b : Nat} {w0 v : World} {a0 a1 a2 a3 u0 u1 u2 u3 : Value} {C : Ch} {L : Array Value} (hk : Blk v b #[a0, a1, a2, a3]) (ho : Co S v (.agg #[u0, u1, u2, u3]) C) (hb : Below s w0 v) (hs : s ≤ b) (hS : S b) (w3 : World)
    (e : w3 = ((((v.setCell ⟨b, 0, none⟩ u0).setCell ⟨b, 1, none⟩ u1).setCell ⟨b, 2, none⟩ u2).setCell ⟨b, 3, none⟩ u3).alloc (.cells L 30)) : Blk w3 b #[u0, u1, u2, u3] ∧ Co S w3 (.agg #[u0, u1, u2, u3]) C ∧ Below s w0 w3 ∧ Blk w3 v.heap.size L := by
  obtain ⟨h1, h2, h3, h4⟩ := var_use hk ho hb hs hS _ rfl
  subst e
  refine ⟨h1.alloc _, h2.below ((Below.refl _ _).alloc (Nat.le_refl _) _), h3.alloc (by rw [h4]; have := h1.lt; rw [h4] at this; omega) _, ?_⟩
  rw [← h4]
  exact Blk.new _ _ _
end Go.Proofs.Ytoddmgaihggkjaa
