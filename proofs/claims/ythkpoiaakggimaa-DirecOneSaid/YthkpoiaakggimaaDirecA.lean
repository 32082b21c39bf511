/- What is known of a line, in memory, and in which blocks it doesn't lie; no condition but that it reads. -/
import Derived.Test.YthkpoiaakggimaaDirecNum
import Derived.Test.YthkpoiaakggimaaRows
import Derived.WalkSpells
import Derived.Outline
import Derived.Laws.CopyOwn
import Derived.Deep.WholeRow
import Derived.OwnWalk
import Derived.BigGuardPart
import Derived.Deep.RegionLaw
import Derived.Lib.SliceRun
import Derived.Deep.CutBlock
import Derived.Deep.DeepCutAuto
namespace Go.Proofs.Ythkpoiaakggimaa
set_option linter.unusedVariables false
open Go.ChangeShapes Go.WideShapes Go.ChangeAt Go.RowKit

theorem own_base {w : World} {b b' : Nat} {e : TypeId} {size : Nat} {v : Value} {n : Nat} {xs : List Value} (h : w.ownsRow b e size v n xs) (hb : b' ≤ b) : w.ownsRow b' e size v n xs := by
  obtain ⟨h1, h2 | ⟨g, cap, cur, e1, e2, e3⟩⟩ := h
  · exact ⟨h1, .inl h2⟩
  · exact ⟨h1, .inr ⟨g, cap, cur, e1, by omega, e3⟩⟩
theorem own_below {w w' : World} {base : Nat} {e : TypeId} {size : Nat} {v : Value} {n : Nat} {xs : List Value} (h : w.ownsRow base e size v n xs) (hb : Below w.heap.size w w') : w'.ownsRow base e size v n xs := by
  obtain ⟨h1, h2 | ⟨g', c', cur, e1, e2, e3, e4⟩⟩ := h
  · exact ⟨h1, .inl h2⟩
  · exact ⟨h1, .inr ⟨g', c', cur, e1, e2, by rw [hb.block g' (Array.getElem?_eq_some_iff.1 e3).1]; exact e3, e4⟩⟩
theorem own_cap {w : World} {base : Nat} {e : TypeId} {size : Nat} {v : Value} {n : Nat} {xs : List Value} (h : w.ownsRow base e size v n xs) : ∃ p cap, v = .slice p n cap ∧ n ≤ cap := by
  obtain ⟨h1, ⟨h2, h3⟩ | ⟨g', c', cur, e1, e2, e3, e4, _⟩⟩ := h
  · subst h3; exact ⟨_, _, h2, Nat.le_refl _⟩
  · exact ⟨_, _, e1, e4⟩
theorem own_go {w : World} {base : Nat} {e : TypeId} {size : Nat} {p : Option Addr} {n c : Nat} {xs : List Value} (h : w.ownsRow base e size (.slice p n c) n xs) (h0 : 0 < n) : ∃ g, p = some ⟨g, 0, none⟩ ∧ n ≤ c ∧ c ≤ maxLen ∧ base ≤ g ∧ g < w.heap.size := by
  obtain ⟨h1, ⟨_, h2⟩ | ⟨g, cap, cur, e1, e2, e3, e4, e5, _⟩⟩ := h
  · omega
  · injection e1 with e1 e6 e7
    subst e7
    exact ⟨g, e1, e4, e5, e2, (Array.getElem?_eq_some_iff.1 e3).1⟩
theorem own_off {w : World} {base : Nat} {e : TypeId} {size : Nat} {v : Value} {n : Nat} {xs : List Value} (h : w.ownsRow base e size v n xs) {R : Nat} (hR : ∀ g, v.ownBlock = some g → g ≠ R) (j : Nat) (u : Value) : (w.setCell ⟨R, j, none⟩ u).ownsRow base e size v n xs := by
  refine h.kept (row := some R) ⟨rfl, rfl, rfl, by simp, fun k _ hk => heap_setCell_other w ⟨R, j, none⟩ k u (fun e => hk (by simp [e]))⟩ ?_
  cases hv : v.ownBlock with
  | none => exact .inl rfl
  | some b => exact .inr (fun e2 => by injection e2 with e2; exact hR b hv e2)
theorem info4 : (Try.prog.info? 4).map (fun i => (i.zero, i.size, i.bytes)) = some (some (.bool false), 1, 1) := by kernel_rfl
theorem info3 : (Try.prog.info? 3).map (fun i => (i.zero, i.size, i.bytes)) = some (some (.int .i64 0), 1, 8) := by kernel_rfl

def boC (l : List Bool) : List Value := l.map .bool
theorem boC_len (l : List Bool) : (boC l).length = l.length := List.length_map _
theorem boC_one (l : List Bool) : ∀ u ∈ boC l, u.oneCell' = true := by
  intro u hu
  obtain ⟨x, _, rfl⟩ := List.mem_map.1 hu
  rfl
theorem boC_at (l : List Bool) (k : Nat) (hk : k < l.length) : (boC l)[k]? = some (.bool (l.getD k false)) := by
  unfold boC
  rw [List.getElem?_map, List.getD_eq_getElem?_getD, List.getElem?_eq_getElem hk]
  rfl
theorem boC_set (l : List Bool) (k : Nat) (b : Bool) : (boC l).set k (.bool b) = boC (l.set k b) := by
  unfold boC; rw [List.map_set]
theorem boC_rep (n : Nat) : List.replicate n (Value.bool false) = boC (List.replicate n false) := by
  unfold boC; rw [List.map_replicate]
def inC (l : List Nat) : List Value := l.map fun (n : Nat) => .int .i64 (n : Int)
theorem inC_len (l : List Nat) : (inC l).length = l.length := List.length_map _
theorem inC_app (l m : List Nat) : inC (l ++ m) = inC l ++ inC m := by unfold inC; exact List.map_append
theorem inC_one (l : List Nat) : ∀ u ∈ inC l, u.oneCell' = true := by
  intro u hu
  obtain ⟨x, _, rfl⟩ := List.mem_map.1 hu
  rfl
theorem inC_at (l : List Nat) (k : Nat) (hk : k < l.length) : (inC l)[k]? = some (.int .i64 (l.getD k 0 : Nat)) := by
  unfold inC
  rw [List.getElem?_map, List.getD_eq_getElem?_getD, List.getElem?_eq_getElem hk]
  rfl
theorem Sl.set {w : World} {p : Option Addr} {n : Nat} {cs : List Value} (h : Sl w p n cs) {R : Nat} (ho : 0 < n → ∀ a, p = some a → a.block ≠ R) (j : Nat) (u : Value) : Sl (w.setCell ⟨R, j, none⟩ u) p n cs := fun h0 => by
  obtain ⟨b, off, h1, h2, h3⟩ := h h0
  have hne := ho h0 _ h2
  exact ⟨b, off, by simpa using h1, h2, fun k hk => (World.cell?_setCell_other _ _ _ _ (by intro e; injection e with e1; exact hne e1.symm)).trans (h3 k hk)⟩
theorem blk_sl {w : World} {B n : Nat} {l : List Value} (h : Blk w B l.toArray) : Sl w (some ⟨B, 0, none⟩) n l := fun _ => ⟨B, 0, h.lt, rfl, fun j hj => by rw [Nat.zero_add, h.c j]; simp⟩
/-- The block R isn't the one behind p. -/
def Off (R : Nat) (p : Option Addr) (n : Nat) : Prop := 0 < n → ∀ a, p = some a → a.block ≠ R
/-- What is known of a line, in memory. -/
structure Ec (w : World) (p : Option Addr) (n c : Nat) (E : En) : Prop where
  len : E.share.length = n
  sl : Sl w p n (boC E.share)
  cn : n ≤ c
  n100 : n ≤ 100
theorem Ec.below {w w' : World} {p : Option Addr} {n c : Nat} {E : En} (h : Ec w p n c E) (hb : Below w.heap.size w w') : Ec w' p n c E := ⟨h.len, h.sl.below hb, h.cn, h.n100⟩
theorem Ec.off {w : World} {p : Option Addr} {n c : Nat} {E : En} (h : Ec w p n c E) {R : Nat} (hR : w.heap.size ≤ R) : Off R p n := fun h0 a e => by
  obtain ⟨b, off, h1, h2, _⟩ := h.sl h0
  rw [h2] at e
  injection e with e
  subst e
  show b ≠ R
  omega
theorem Ec.set {w : World} {p : Option Addr} {n c : Nat} {E : En} (h : Ec w p n c E) {R : Nat} (ho : Off R p n) (j : Nat) (u : Value) : Ec (w.setCell ⟨R, j, none⟩ u) p n c E := ⟨h.len, h.sl.set ho j u, h.cn, h.n100⟩
theorem Ec.at_ {w : World} {p : Option Addr} {n c : Nat} {E : En} (h : Ec w p n c E) (k : Nat) (hk : k < n) : ∃ b off, p = some ⟨b, off, none⟩ ∧ b < w.heap.size ∧ w.cell? ⟨b, off + k, none⟩ = some (.bool (E.share.getD k false)) := by
  obtain ⟨b, off, h1, h2, h3⟩ := h.sl (by omega)
  exact ⟨b, off, h2, h1, by rw [h3 k (by rw [boC_len, h.len]; exact hk), boC_at _ k (by rw [h.len]; exact hk)]⟩
theorem Ec.own {base : Nat} {w : World} {p : Option Addr} {n c : Nat} {E : En} (h : w.ownsRow base 4 1 (.slice p n c) n (boC E.share)) (hm : n ≤ 100) : Ec w p n c E := by
  obtain ⟨p', c', e, hs⟩ := Sl.own h
  injection e with e1 e2 e3
  subst e1 e3
  obtain ⟨p', c', e, hc⟩ := own_cap h
  injection e with e1 e2 e3
  subst e3
  exact ⟨by have := h.1; rw [boC_len, Nat.mul_one] at this; exact this, hs, hc, hm⟩
theorem own_offR {base : Nat} {w : World} {p : Option Addr} {n c : Nat} {xs : List Value} {e : TypeId} {z : Nat} (h : w.ownsRow base e z (.slice p n c) n xs) {R : Nat} (hR : R < base) : Off R p n := fun h0 a ha => by
  subst ha
  have := (h.lt a.block rfl).1
  omega
/-- A value that reads as what is known of a line, and lies in none of the blocks S. -/
def Eo (S : Nat → Prop) (w : World) (v : Value) (E : En) : Prop := ∃ p n c, v = .agg #[.int .i64 E.owner, .slice p n c] ∧ Ec w p n c E ∧ ∀ R, S R → Off R p n
theorem Eo.below {S : Nat → Prop} {w w' : World} {v : Value} {E : En} (h : Eo S w v E) (hb : Below w.heap.size w w') : Eo S w' v E := by
  obtain ⟨p, n, c, e, h1, h2⟩ := h
  exact ⟨p, n, c, e, h1.below hb, h2⟩
theorem Eo.set {S : Nat → Prop} {w : World} {v : Value} {E : En} (h : Eo S w v E) {R : Nat} (hR : S R) (j : Nat) (u : Value) : Eo S (w.setCell ⟨R, j, none⟩ u) v E := by
  obtain ⟨p, n, c, e, h1, h2⟩ := h
  exact ⟨p, n, c, e, h1.set (h2 R hR) j u, h2⟩
theorem Eo.weak {S S' : Nat → Prop} {w : World} {v : Value} {E : En} (h : Eo S w v E) (hs : ∀ R, S' R → S R) : Eo S' w v E := by
  obtain ⟨p, n, c, e, h1, h2⟩ := h
  exact ⟨p, n, c, e, h1, fun R hR => h2 R (hs R hR)⟩
theorem Eo.later {S S' : Nat → Prop} {w : World} {v : Value} {E : En} (h : Eo S w v E) (hs : ∀ R, S' R → S R ∨ w.heap.size ≤ R) : Eo S' w v E := by
  obtain ⟨p, n, c, e, h1, h2⟩ := h
  exact ⟨p, n, c, e, h1, fun R hR => (hs R hR).elim (h2 R) h1.off⟩
theorem Eo.set2 {S : Nat → Prop} {w : World} {v : Value} {E : En} (h : Eo S w v E) {R : Nat} (hR : S R) (u0 u1 : Value) : Eo S ((w.setCell ⟨R, 0, none⟩ u0).setCell ⟨R, 1, none⟩ u1) v E := (h.set hR 0 u0).set hR 1 u1
theorem set2_below {s R : Nat} {w0 w : World} (h : Below s w0 w) (hR : s ≤ R) (u0 u1 : Value) : Below s w0 ((w.setCell ⟨R, 0, none⟩ u0).setCell ⟨R, 1, none⟩ u1) :=
  (h.setCell (p := ⟨R, 0, none⟩) hR _).setCell (p := ⟨R, 1, none⟩) hR _
theorem set2_other {w : World} {B R : Nat} {cs : Array Value} (h : Blk w B cs) (hne : R ≠ B) (u0 u1 : Value) : Blk ((w.setCell ⟨R, 0, none⟩ u0).setCell ⟨R, 1, none⟩ u1) B cs := (h.other u0 hne).other u1 hne
theorem set2_same {w : World} {R : Nat} {a0 a1 : Value} (h : Blk w R #[a0, a1]) (u0 u1 : Value) : Blk ((w.setCell ⟨R, 0, none⟩ u0).setCell ⟨R, 1, none⟩ u1) R #[u0, u1] := (h.set (n := 0) u0 (by simp)).set (n := 1) u1 (by simp)
theorem drewN_below {B : Nat} {a w : World} (h : Below B a w) (n : Nat) : Below B a (w.drewN n) := ⟨h.os, h.tape, h.output, h.size, h.block⟩
/-- What is known, and a number. -/
def Out2 (S : Nat → Prop) (w w' : World) (e : Ending) (E : En) (X : Int) : Prop := ∃ v, e = .returned (.tuple #[v, .int .i64 X]) ∧ Eo S w' v E ∧ Below w.heap.size w w'
/-- What is known, and two numbers. -/
def Out3 (S : Nat → Prop) (w w' : World) (e : Ending) (E : En) (F X : Int) : Prop := ∃ v, e = .returned (.tuple #[v, .int .i64 F, .int .i64 X]) ∧ Eo S w' v E ∧ Below w.heap.size w w'
/-- What is known, a number, a list of numbers, and a number. -/
def Out4 (S : Nat → Prop) (w w' : World) (e : Ending) (E : En) (F : Int) (T : List Nat) (X : Int) : Prop := ∃ v q d, e = .returned (.tuple #[v, .int .i64 F, .slice q T.length d, .int .i64 X]) ∧ Eo S w' v E ∧ Sl w' q T.length (inC T) ∧ (∀ R, S R → Off R q T.length) ∧ T.length ≤ 100 ∧ Below w.heap.size w w'
/-- A variable in block b that holds what is known of a line, which lies in none of the blocks S. -/
def Var (S : Nat → Prop) (w : World) (b : Nat) (E : En) : Prop := ∃ p n c, Blk w b #[.int .i64 E.owner, .slice p n c] ∧ Ec w p n c E ∧ ∀ R, S R → Off R p n
theorem Var.below {S : Nat → Prop} {w w' : World} {b : Nat} {E : En} (h : Var S w b E) (hb : Below w.heap.size w w') : Var S w' b E := by
  obtain ⟨p, n, c, h1, h2, h3⟩ := h
  exact ⟨p, n, c, h1.below hb, h2.below hb, h3⟩
theorem Var.lt {S : Nat → Prop} {w : World} {b : Nat} {E : En} (h : Var S w b E) : b < w.heap.size := by
  obtain ⟨p, n, c, h1, _⟩ := h
  exact h1.lt
theorem Var.eo {S : Nat → Prop} {w : World} {b : Nat} {E : En} (h : Var S w b E) : ∃ p n c, Blk w b #[.int .i64 E.owner, .slice p n c] ∧ Eo S w (.agg #[.int .i64 E.owner, .slice p n c]) E ∧ Ec w p n c E := by
  obtain ⟨p, n, c, h1, h2, h3⟩ := h
  exact ⟨p, n, c, h1, ⟨p, n, c, rfl, h2, h3⟩, h2⟩
theorem Var.later {S S' : Nat → Prop} {w : World} {b : Nat} {E : En} (h : Var S w b E) (hs : ∀ R, S' R → S R ∨ w.heap.size ≤ R) : Var S' w b E := by
  obtain ⟨p, n, c, h1, h2, h3⟩ := h
  exact ⟨p, n, c, h1, h2, fun R hR => (hs R hR).elim (h3 R) h2.off⟩
theorem Var.set2 {S : Nat → Prop} {w : World} {b : Nat} {E : En} (h : Var S w b E) {R : Nat} (hR : S R) (hne : R ≠ b) (u0 u1 : Value) : Var S ((w.setCell ⟨R, 0, none⟩ u0).setCell ⟨R, 1, none⟩ u1) b E := by
  obtain ⟨p, n, c, h1, h2, h3⟩ := h
  exact ⟨p, n, c, set2_other h1 hne _ _, (h2.set (h3 R hR) 0 u0).set (h3 R hR) 1 u1, h3⟩
theorem Var.new {S : Nat → Prop} {w : World} {E : En} {u0 u1 : Value} (h : Eo S w (.agg #[u0, u1]) E) : Var S (w.alloc (.cells #[u0, u1] 24)) w.heap.size E := by
  obtain ⟨p, n, c, e, h2, h3⟩ := h
  injection e with e
  simp at e
  obtain ⟨rfl, rfl⟩ := e
  exact ⟨p, n, c, Blk.new _ _ _, h2.below ((Below.refl _ _).alloc (Nat.le_refl _) _), h3⟩
theorem Var.put {S : Nat → Prop} {w : World} {b : Nat} {E : En} {u0 u1 a0 a1 : Value} (hk : Blk w b #[a0, a1]) (h : Eo S w (.agg #[u0, u1]) E) (hS : S b) : Var S ((w.setCell ⟨b, 0, none⟩ u0).setCell ⟨b, 1, none⟩ u1) b E := by
  have h4 := h.set2 hS u0 u1
  have hk4 := set2_same hk u0 u1
  obtain ⟨p, n, c, e, h2, h3⟩ := h4
  injection e with e
  simp at e
  obtain ⟨rfl, rfl⟩ := e
  exact ⟨p, n, c, hk4, h2, h3⟩
end Go.Proofs.Ythkpoiaakggimaa
