/- Clocks in memory, as they read, and in which blocks they don't lie; no condition but that they read. -/
import Derived.Test.YtbogkloemmddcaaCkNum
import Derived.Test.YtbogkloemmddcaaRows
import Derived.WalkSpells
import Derived.Outline
import Derived.Laws.CopyOwn
import Derived.Deep.WholeRow
import Derived.OwnWalk
import Derived.BigGuardPart
import Derived.Deep.RegionLaw
import Derived.Lib.SliceRun
import Derived.Deep.CutBlock
import Derived.Deep.DeepCutAuto
namespace Go.Proofs.Ytbogkloemmddcaa
set_option linter.unusedVariables false
open Go.ChangeShapes Go.WideShapes Go.ChangeAt Go.RowKit

theorem own_base {w : World} {b b' : Nat} {e : TypeId} {size : Nat} {v : Value} {n : Nat} {xs : List Value} (h : w.ownsRow b e size v n xs) (hb : b' ≤ b) : w.ownsRow b' e size v n xs := by
  obtain ⟨h1, h2 | ⟨g, cap, cur, e1, e2, e3⟩⟩ := h
  · exact ⟨h1, .inl h2⟩
  · exact ⟨h1, .inr ⟨g, cap, cur, e1, by omega, e3⟩⟩
theorem own_below {w w' : World} {base : Nat} {e : TypeId} {size : Nat} {v : Value} {n : Nat} {xs : List Value} (h : w.ownsRow base e size v n xs) (hb : Below w.heap.size w w') : w'.ownsRow base e size v n xs := by
  obtain ⟨h1, h2 | ⟨g', c', cur, e1, e2, e3, e4⟩⟩ := h
  · exact ⟨h1, .inl h2⟩
  · exact ⟨h1, .inr ⟨g', c', cur, e1, e2, by rw [hb.block g' (Array.getElem?_eq_some_iff.1 e3).1]; exact e3, e4⟩⟩
theorem own_cap {w : World} {base : Nat} {e : TypeId} {size : Nat} {v : Value} {n : Nat} {xs : List Value} (h : w.ownsRow base e size v n xs) : ∃ p cap, v = .slice p n cap ∧ n ≤ cap := by
  obtain ⟨h1, ⟨h2, h3⟩ | ⟨g', c', cur, e1, e2, e3, e4, _⟩⟩ := h
  · subst h3; exact ⟨_, _, h2, Nat.le_refl _⟩
  · exact ⟨_, _, e1, e4⟩
theorem own_go {w : World} {base : Nat} {e : TypeId} {size : Nat} {p : Option Addr} {n c : Nat} {xs : List Value} (h : w.ownsRow base e size (.slice p n c) n xs) (h0 : 0 < n) : ∃ g, p = some ⟨g, 0, none⟩ ∧ n ≤ c ∧ c ≤ maxLen ∧ base ≤ g ∧ g < w.heap.size := by
  obtain ⟨h1, ⟨_, h2⟩ | ⟨g, cap, cur, e1, e2, e3, e4, e5, _⟩⟩ := h
  · omega
  · injection e1 with e1 e6 e7
    subst e7
    exact ⟨g, e1, e4, e5, e2, (Array.getElem?_eq_some_iff.1 e3).1⟩
theorem own_off {w : World} {base : Nat} {e : TypeId} {size : Nat} {v : Value} {n : Nat} {xs : List Value} (h : w.ownsRow base e size v n xs) {R : Nat} (hR : ∀ g, v.ownBlock = some g → g ≠ R) (j : Nat) (u : Value) : (w.setCell ⟨R, j, none⟩ u).ownsRow base e size v n xs := by
  refine h.kept (row := some R) ⟨rfl, rfl, rfl, by simp, fun k _ hk => heap_setCell_other w ⟨R, j, none⟩ k u (fun e => hk (by simp [e]))⟩ ?_
  cases hv : v.ownBlock with
  | none => exact .inl rfl
  | some b => exact .inr (fun e2 => by injection e2 with e2; exact hR b hv e2)
theorem infoM : (Try.prog.info? 32).map (fun i => (i.zero, i.size, i.bytes)) = some (some (.agg #[.int .i64 0, .int .i64 0, .slice none 0 0]), 3, 40) := by kernel_rfl
theorem infoC : (Try.prog.info? 50).map (fun i => (i.zero, i.size, i.bytes)) = some (some (.agg #[.int .u32 0, .int .u32 0, .int .u32 0, .int .u32 0, .int .u32 0, .int .u32 0, .int .u32 0, .int .u32 0, .int .i64 0, .bool false]), 10, 48) := by kernel_rfl

theorem flat_len {α : Type} (f : α → List Value) (k : Nat) (hf : ∀ x, (f x).length = k) (l : List α) : (l.flatMap f).length = l.length * k := by
  induction l with
  | nil => simp
  | cons x l ih => rw [List.flatMap_cons, List.length_append, hf, ih, List.length_cons, Nat.succ_mul, Nat.add_comm]
theorem flat_at {α : Type} (f : α → List Value) (k : Nat) (hf : ∀ x, (f x).length = k) (z : α) (l : List α) (i j : Nat) (hi : i < l.length) (hj : j < k) : (l.flatMap f)[i * k + j]? = (f (l.getD i z))[j]? := by
  induction l generalizing i with
  | nil => simp at hi
  | cons x l ih =>
    rw [List.flatMap_cons]
    cases i with
    | zero => rw [List.getElem?_append_left (by rw [hf]; omega)]; simp
    | succ i =>
      have hi' : i < l.length := by simpa using hi
      rw [List.getElem?_append_right (by rw [hf, Nat.succ_mul]; omega), hf]
      have e : (i + 1) * k + j - k = i * k + j := by rw [Nat.succ_mul]; omega
      rw [e, ih i hi']
      simp
theorem flat_take {α : Type} (f : α → List Value) (k : Nat) (hf : ∀ x, (f x).length = k) (l : List α) (n : Nat) : (l.take n).flatMap f = (l.flatMap f).take (n * k) := by
  induction l generalizing n with
  | nil => simp
  | cons x l ih =>
    cases n with
    | zero => simp
    | succ n =>
      rw [List.take_succ_cons, List.flatMap_cons, List.flatMap_cons, List.take_append, hf, Nat.succ_mul, Nat.add_sub_cancel, ih]
      rw [List.take_of_length_le (show (f x).length ≤ n * k + k by rw [hf]; omega)]
theorem flat_drop {α : Type} (f : α → List Value) (k : Nat) (hf : ∀ x, (f x).length = k) (l : List α) (n : Nat) : (l.drop n).flatMap f = (l.flatMap f).drop (n * k) := by
  induction l generalizing n with
  | nil => simp
  | cons x l ih =>
    cases n with
    | zero => simp
    | succ n =>
      rw [List.drop_succ_cons, List.flatMap_cons, ih, List.drop_append, hf, Nat.succ_mul, Nat.add_sub_cancel, List.drop_of_length_le (show (f x).length ≤ n * k + k by rw [hf]; omega), List.nil_append]
def Cor.row (c : Cor) : Array Value := #[.int .u32 (c.r 0), .int .u32 (c.r 1), .int .u32 (c.r 2), .int .u32 (c.r 3), .int .u32 (c.r 4), .int .u32 (c.r 5), .int .u32 (c.r 6), .int .u32 (c.r 7), .int .i64 c.pc, .bool c.h]
def coreC (c : Cor) : List Value := c.row.toList
def coresC (l : List Cor) : List Value := l.flatMap coreC
theorem coreC_len (c : Cor) : (coreC c).length = 10 := rfl
theorem coresC_len (l : List Cor) : (coresC l).length = l.length * 10 := flat_len coreC 10 coreC_len l
theorem coresC_at (l : List Cor) (i j : Nat) (hi : i < l.length) (hj : j < 10) : (coresC l)[i * 10 + j]? = (l.getD i zcor).row[j]? := by
  have h := flat_at coreC 10 coreC_len zcor l i j hi hj
  rw [coresC, h]
  show (l.getD i zcor).row.toList[j]? = (l.getD i zcor).row[j]?
  simp
theorem coresC_one (l : List Cor) : ∀ u ∈ coresC l, u.oneCell' = true := by
  intro u hu
  obtain ⟨x, _, hx⟩ := List.mem_flatMap.1 hu
  simp [coreC, Cor.row] at hx
  rcases hx with rfl | rfl | rfl | rfl | rfl | rfl | rfl | rfl | rfl | rfl <;> rfl
/-- A mark as it stands in memory, with the cores that it reads as. -/
structure Mv where
  span : Int
  when : Int
  q : Option Addr
  m : Nat
  c : Nat
  cs : List Cor
def zV : Mv := ⟨0, 0, none, 0, 0, []⟩
def Mv.mk' (x : Mv) : Mk := ⟨x.span, x.when, x.cs⟩
theorem zV_mk : zV.mk' = zM := rfl
def mksOf (xs : List Mv) : List Mk := xs.map Mv.mk'
theorem mksOf_at (xs : List Mv) (k : Nat) : (mksOf xs).getD k zM = (xs.getD k zV).mk' := getD_map Mv.mk' xs zV k
theorem mksOf_len (xs : List Mv) : (mksOf xs).length = xs.length := List.length_map _
def mvR (x : Mv) : Array Value := #[.int .i64 x.span, .int .i64 x.when, .slice x.q x.m x.c]
def mvL (x : Mv) : List Value := (mvR x).toList
def mvC (l : List Mv) : List Value := l.flatMap mvL
theorem mvL_len (x : Mv) : (mvL x).length = 3 := rfl
theorem mvC_len (l : List Mv) : (mvC l).length = l.length * 3 := flat_len mvL 3 mvL_len l
theorem mvC_nil : mvC [] = [] := rfl
theorem mvC_app (l m : List Mv) : mvC (l ++ m) = mvC l ++ mvC m := List.flatMap_append
theorem mvC_take (l : List Mv) (k : Nat) : mvC (l.take k) = (mvC l).take (k * 3) := flat_take mvL 3 mvL_len l k
theorem mvC_drop (l : List Mv) (k : Nat) : mvC (l.drop k) = (mvC l).drop (k * 3) := flat_drop mvL 3 mvL_len l k
theorem mvC_at (l : List Mv) (i j : Nat) (hi : i < l.length) (hj : j < 3) : (mvC l)[i * 3 + j]? = (mvR (l.getD i zV))[j]? := by
  have h := flat_at mvL 3 mvL_len zV l i j hi hj
  rw [mvC, h]
  show (mvR (l.getD i zV)).toList[j]? = _
  simp
theorem mvC_one (l : List Mv) : ∀ u ∈ mvC l, u.oneCell' = true := by
  intro u hu
  obtain ⟨x, _, hx⟩ := List.mem_flatMap.1 hu
  simp [mvL, mvR] at hx
  rcases hx with rfl | rfl | rfl <;> rfl
theorem mvC_set (l : List Mv) (i : Nat) (y : Mv) (hi : i < l.length) : (((mvC l).set (i * 3) (.int .i64 y.span)).set (i * 3 + 1) (.int .i64 y.when)).set (i * 3 + 2) (.slice y.q y.m y.c) = mvC (l.set i y) := by
  induction l generalizing i with
  | nil => simp at hi
  | cons x l ih =>
    have e : mvC (x :: l) = .int .i64 x.span :: .int .i64 x.when :: .slice x.q x.m x.c :: mvC l := rfl
    rw [e]
    cases i with
    | zero => rfl
    | succ i =>
      rw [List.set_cons_succ]
      have e2 : mvC (x :: l.set i y) = .int .i64 x.span :: .int .i64 x.when :: .slice x.q x.m x.c :: mvC (l.set i y) := rfl
      rw [e2, ← ih i (by simpa using hi), show (i + 1) * 3 = i * 3 + 1 + 1 + 1 by omega]
      simp only [List.set_cons_succ]

theorem Sl.set {w : World} {p : Option Addr} {n : Nat} {cs : List Value} (h : Sl w p n cs) {R : Nat} (ho : 0 < n → ∀ a, p = some a → a.block ≠ R) (j : Nat) (u : Value) : Sl (w.setCell ⟨R, j, none⟩ u) p n cs := fun h0 => by
  obtain ⟨b, off, h1, h2, h3⟩ := h h0
  have hne := ho h0 _ h2
  exact ⟨b, off, by simpa using h1, h2, fun k hk => (World.cell?_setCell_other _ _ _ _ (by intro e; injection e with e1; exact hne e1.symm)).trans (h3 k hk)⟩
theorem Sl.grown {w w' : World} {p : Option Addr} {n : Nat} {cs : List Value} {row : Option Nat} (h : Sl w p n cs) (hg : w.grownBy w' row) (ho : ∀ R, row = some R → 0 < n → ∀ a, p = some a → a.block ≠ R) : Sl w' p n cs := fun h0 => by
  obtain ⟨b, off, h1, h2, h3⟩ := h h0
  have e := hg.block b h1 (fun e => ho b e.symm h0 _ h2 rfl)
  refine ⟨b, off, Nat.lt_of_lt_of_le h1 hg.size, h2, fun k hk => ?_⟩
  rw [← h3 k hk]; unfold World.cell?; rw [e]
theorem blk_sl {w : World} {B n : Nat} {l : List Value} (h : Blk w B l.toArray) : Sl w (some ⟨B, 0, none⟩) n l := fun _ => ⟨B, 0, h.lt, rfl, fun j hj => by rw [Nat.zero_add, h.c j]; simp⟩
/-- The block R isn't the one behind p. -/
def Off (R : Nat) (p : Option Addr) (n : Nat) : Prop := 0 < n → ∀ a, p = some a → a.block ≠ R
theorem Sl.off {w : World} {p : Option Addr} {n : Nat} {cs : List Value} (h : Sl w p n cs) {R : Nat} (hR : w.heap.size ≤ R) : Off R p n := fun h0 a e => by
  obtain ⟨b, off, h1, h2, _⟩ := h h0
  rw [h2] at e
  injection e with e
  subst e
  show b ≠ R
  omega
theorem own_offR {base : Nat} {w : World} {p : Option Addr} {n c : Nat} {xs : List Value} {e : TypeId} {z : Nat} (h : w.ownsRow base e z (.slice p n c) n xs) {R : Nat} (hR : R < base) : Off R p n := fun h0 a ha => by
  subst ha
  have := (h.lt a.block rfl).1
  omega
/-- A mark's cores read. -/
structure Mr (w : World) (x : Mv) : Prop where
  ml : x.cs.length = x.m
  mc : x.m ≤ x.c
  mb : x.m ≤ 10000
  sl : Sl w x.q x.m (coresC x.cs)
theorem Mr.below {w w' : World} {x : Mv} (h : Mr w x) (hb : Below w.heap.size w w') : Mr w' x := ⟨h.ml, h.mc, h.mb, h.sl.below hb⟩
theorem Mr.set {w : World} {x : Mv} (h : Mr w x) {R : Nat} (ho : Off R x.q x.m) (j : Nat) (u : Value) : Mr (w.setCell ⟨R, j, none⟩ u) x := ⟨h.ml, h.mc, h.mb, h.sl.set ho j u⟩
theorem Mr.grown {w w' : World} {x : Mv} {row : Option Nat} (h : Mr w x) (hg : w.grownBy w' row) (ho : ∀ R, row = some R → Off R x.q x.m) : Mr w' x := ⟨h.ml, h.mc, h.mb, h.sl.grown hg ho⟩
/-- A clock's marks, in memory. -/
structure Kc (w : World) (p : Option Addr) (n c : Nat) (xs : List Mv) : Prop where
  xl : xs.length = n
  nc : n ≤ c
  nb : n ≤ 10000
  sl : Sl w p n (mvC xs)
  rd : ∀ x ∈ xs, Mr w x
theorem Kc.below {w w' : World} {p : Option Addr} {n c : Nat} {xs : List Mv} (h : Kc w p n c xs) (hb : Below w.heap.size w w') : Kc w' p n c xs := ⟨h.xl, h.nc, h.nb, h.sl.below hb, fun x hx => (h.rd x hx).below hb⟩
theorem Kc.set {w : World} {p : Option Addr} {n c : Nat} {xs : List Mv} (h : Kc w p n c xs) {R : Nat} (h1 : Off R p n) (h2 : ∀ x ∈ xs, Off R x.q x.m) (j : Nat) (u : Value) : Kc (w.setCell ⟨R, j, none⟩ u) p n c xs :=
  ⟨h.xl, h.nc, h.nb, h.sl.set h1 j u, fun x hx => (h.rd x hx).set (h2 x hx) j u⟩
/-- A mark of a list, in memory. -/
structure MkAt (w : World) (b off k : Nat) (x : Mv) : Prop where
  lt : b < w.heap.size
  c0 : w.cell? ⟨b, off + k * 3, none⟩ = some (.int .i64 x.span)
  c1 : w.cell? ⟨b, off + k * 3 + 1, none⟩ = some (.int .i64 x.when)
  c2 : w.cell? ⟨b, off + k * 3 + 2, none⟩ = some (.slice x.q x.m x.c)
theorem MkAt.below {w w' : World} {b off k : Nat} {x : Mv} (h : MkAt w b off k x) (hb : Below w.heap.size w w') : MkAt w' b off k x :=
  ⟨Nat.lt_of_lt_of_le h.lt hb.size, (hb.cell (p := ⟨b, _, none⟩) h.lt).trans h.c0, (hb.cell (p := ⟨b, _, none⟩) h.lt).trans h.c1, (hb.cell (p := ⟨b, _, none⟩) h.lt).trans h.c2⟩
theorem mk_at {w : World} {p : Option Addr} {n : Nat} {xs : List Mv} (h : Sl w p n (mvC xs)) (hl : xs.length = n) (k : Nat) (hk : k < n) : ∃ b off, p = some ⟨b, off, none⟩ ∧ MkAt w b off k (xs.getD k zV) := by
  obtain ⟨b, off, h1, h2, h3⟩ := h (by omega)
  have hc := fun j (hj : j < 3) => (h3 (k * 3 + j) (by rw [mvC_len]; omega)).trans (mvC_at xs k j (by omega) hj)
  exact ⟨b, off, h2, h1, hc 0 (by decide), hc 1 (by decide), hc 2 (by decide)⟩
theorem Kc.at_ {w : World} {p : Option Addr} {n c : Nat} {xs : List Mv} (h : Kc w p n c xs) (k : Nat) (hk : k < n) : ∃ b off, p = some ⟨b, off, none⟩ ∧ MkAt w b off k (xs.getD k zV) ∧ Mr w (xs.getD k zV) := by
  obtain ⟨b, off, h1, h2⟩ := mk_at h.sl h.xl k hk
  exact ⟨b, off, h1, h2, h.rd _ (mem_getD xs zV k (by rw [h.xl]; exact hk))⟩
/-- A clock's marks in memory of one's own: the cores lie in none of the marks' own block, and in none below base. -/
structure OwnK (base : Nat) (w : World) (p : Option Addr) (n c : Nat) (xs : List Mv) : Prop where
  ro : w.ownsRow base 32 3 (.slice p n c) n (mvC xs)
  nb : n ≤ 10000
  rd : ∀ x ∈ xs, Mr w x
  of : ∀ g, (Value.slice p n c).ownBlock = some g → ∀ x ∈ xs, Off g x.q x.m
  nw : ∀ R, R < base → ∀ x ∈ xs, Off R x.q x.m
theorem OwnK.xl {base : Nat} {w : World} {p : Option Addr} {n c : Nat} {xs : List Mv} (h : OwnK base w p n c xs) : xs.length = n := by
  have := h.ro.1; rw [mvC_len] at this; omega
theorem OwnK.kc {base : Nat} {w : World} {p : Option Addr} {n c : Nat} {xs : List Mv} (h : OwnK base w p n c xs) : Kc w p n c xs := by
  obtain ⟨p', c', e, hs⟩ := Sl.own h.ro
  injection e with e1 e2 e3
  subst e1
  obtain ⟨p', c', e, hc⟩ := own_cap h.ro
  injection e with e1 e2 e3
  subst e3
  exact ⟨h.xl, hc, h.nb, hs, h.rd⟩
theorem OwnK.below {base : Nat} {w w' : World} {p : Option Addr} {n c : Nat} {xs : List Mv} (h : OwnK base w p n c xs) (hb : Below w.heap.size w w') : OwnK base w' p n c xs := ⟨own_below h.ro hb, h.nb, fun x hx => (h.rd x hx).below hb, h.of, h.nw⟩
theorem OwnK.mono {base base' : Nat} {w : World} {p : Option Addr} {n c : Nat} {xs : List Mv} (h : OwnK base w p n c xs) (hb : base' ≤ base) : OwnK base' w p n c xs := ⟨own_base h.ro hb, h.nb, h.rd, h.of, fun R hR => h.nw R (by omega)⟩
/-- A store in a block that is none of its own. -/
theorem OwnK.off {base : Nat} {w : World} {p : Option Addr} {n c : Nat} {xs : List Mv} (h : OwnK base w p n c xs) {R : Nat} (h1 : ∀ g, (Value.slice p n c).ownBlock = some g → g ≠ R) (h2 : ∀ x ∈ xs, Off R x.q x.m) (j : Nat) (u : Value) : OwnK base (w.setCell ⟨R, j, none⟩ u) p n c xs :=
  ⟨own_off h.ro h1 j u, h.nb, fun x hx => (h.rd x hx).set (h2 x hx) j u, h.of, h.nw⟩
theorem OwnK.offB {base : Nat} {w : World} {p : Option Addr} {n c : Nat} {xs : List Mv} (h : OwnK base w p n c xs) {R : Nat} (hR : R < base) (j : Nat) (u : Value) : OwnK base (w.setCell ⟨R, j, none⟩ u) p n c xs :=
  h.off (fun g e => by have := (h.ro.lt g e).1; omega) (h.nw R hR) j u
/-- The row has turned, and all its cores are elder ones, or new. -/
theorem OwnK.turn {base : Nat} {w w' : World} {p p' : Option Addr} {n c n' c' : Nat} {xs ys : List Mv} (h : OwnK base w p n c xs) (hn : n' ≤ 10000) (ho : w'.ownsRow base 32 3 (.slice p' n' c') n' (mvC ys)) (hg : w.grownBy w' (Value.slice p n c).ownBlock)
    (hb : (Value.slice p' n' c').ownBlock = (Value.slice p n c).ownBlock ∨ ∀ g, (Value.slice p' n' c').ownBlock = some g → w.heap.size ≤ g) (hs : ∀ y ∈ ys, y ∈ xs) : OwnK base w' p' n' c' ys := by
  refine ⟨ho, hn, fun y hy => (h.rd y (hs y hy)).grown hg (fun R e => h.of R e y (hs y hy)), fun g e y hy => ?_, fun R hR y hy => h.nw R hR y (hs y hy)⟩
  rcases hb with hb | hb
  · exact h.of g (by rw [← hb]; exact e) y (hs y hy)
  · exact (h.rd y (hs y hy)).sl.off (hb g e)
theorem OwnK.turnA {base : Nat} {w w' : World} {p p' : Option Addr} {n c n' c' : Nat} {xs : List Mv} {y : Mv} (h : OwnK base w p n c xs) (hn : n' ≤ 10000) (ho : w'.ownsRow base 32 3 (.slice p' n' c') n' (mvC (xs ++ [y]))) (hg : w.grownBy w' (Value.slice p n c).ownBlock)
    (hb : (Value.slice p' n' c').ownBlock = (Value.slice p n c).ownBlock ∨ ∀ g, (Value.slice p' n' c').ownBlock = some g → w.heap.size ≤ g) (hr : Mr w y) (h1 : ∀ g, (Value.slice p n c).ownBlock = some g → Off g y.q y.m) (h2 : ∀ R, R < base → Off R y.q y.m) : OwnK base w' p' n' c' (xs ++ [y]) := by
  have hr' : ∀ z ∈ xs ++ [y], Mr w z := fun z hz => by
    rcases List.mem_append.1 hz with hz | hz
    · exact h.rd z hz
    · rw [List.mem_singleton.1 hz]; exact hr
  have hof : ∀ g, (Value.slice p n c).ownBlock = some g → ∀ z ∈ xs ++ [y], Off g z.q z.m := fun g e z hz => by
    rcases List.mem_append.1 hz with hz | hz
    · exact h.of g e z hz
    · rw [List.mem_singleton.1 hz]; exact h1 g e
  refine ⟨ho, hn, fun z hz => (hr' z hz).grown hg (fun R e => hof R e z hz), fun g e z hz => ?_, fun R hR z hz => ?_⟩
  · rcases hb with hb | hb
    · exact hof g (by rw [← hb]; exact e) z hz
    · exact (hr' z hz).sl.off (hb g e)
  · rcases List.mem_append.1 hz with hz | hz
    · exact h.nw R hR z hz
    · rw [List.mem_singleton.1 hz]; exact h2 R hR
/-- A value that reads as a clock, and lies in none of the blocks S. -/
def Ko (S : Nat → Prop) (w : World) (v : Value) (C : Ck) : Prop := ∃ p n c xs, v = .agg #[.slice p n c, .int .i64 C.wait] ∧ C.marks = mksOf xs ∧ Kc w p n c xs ∧ ∀ R, S R → Off R p n ∧ ∀ x ∈ xs, Off R x.q x.m
theorem Ko.below {S : Nat → Prop} {w w' : World} {v : Value} {C : Ck} (h : Ko S w v C) (hb : Below w.heap.size w w') : Ko S w' v C := by
  obtain ⟨p, n, c, xs, e, e2, h1, h2⟩ := h
  exact ⟨p, n, c, xs, e, e2, h1.below hb, h2⟩
theorem Ko.set {S : Nat → Prop} {w : World} {v : Value} {C : Ck} (h : Ko S w v C) {R : Nat} (hR : S R) (j : Nat) (u : Value) : Ko S (w.setCell ⟨R, j, none⟩ u) v C := by
  obtain ⟨p, n, c, xs, e, e2, h1, h2⟩ := h
  exact ⟨p, n, c, xs, e, e2, h1.set (h2 R hR).1 (h2 R hR).2 j u, h2⟩
theorem Ko.later {S S' : Nat → Prop} {w : World} {v : Value} {C : Ck} (h : Ko S w v C) (hs : ∀ R, S' R → S R ∨ w.heap.size ≤ R) : Ko S' w v C := by
  obtain ⟨p, n, c, xs, e, e2, h1, h2⟩ := h
  exact ⟨p, n, c, xs, e, e2, h1, fun R hR => (hs R hR).elim (h2 R) fun h => ⟨h1.sl.off h, fun x hx => (h1.rd x hx).sl.off h⟩⟩
theorem OwnK.out {base : Nat} {w : World} {p : Option Addr} {n c : Nat} {xs : List Mv} (h : OwnK base w p n c xs) {S : Nat → Prop} (hS : ∀ R, S R → R < base) (wt : Int) : Ko S w (.agg #[.slice p n c, .int .i64 wt]) ⟨mksOf xs, wt⟩ :=
  ⟨p, n, c, xs, rfl, rfl, h.kc, fun R hR => ⟨own_offR h.ro (hS R hR), h.nw R (hS R hR)⟩⟩
/-- A value that reads as a mark, and lies in none of the blocks S. -/
def Mo (S : Nat → Prop) (w : World) (v : Value) (M : Mk) : Prop := ∃ x : Mv, v = .agg (mvR x) ∧ M = x.mk' ∧ Mr w x ∧ ∀ R, S R → Off R x.q x.m
theorem Mo.below {S : Nat → Prop} {w w' : World} {v : Value} {M : Mk} (h : Mo S w v M) (hb : Below w.heap.size w w') : Mo S w' v M := by
  obtain ⟨x, e, e2, h1, h2⟩ := h
  exact ⟨x, e, e2, h1.below hb, h2⟩
theorem Mo.set {S : Nat → Prop} {w : World} {v : Value} {M : Mk} (h : Mo S w v M) {R : Nat} (hR : S R) (j : Nat) (u : Value) : Mo S (w.setCell ⟨R, j, none⟩ u) v M := by
  obtain ⟨x, e, e2, h1, h2⟩ := h
  exact ⟨x, e, e2, h1.set (h2 R hR) j u, h2⟩
theorem Mo.later {S S' : Nat → Prop} {w : World} {v : Value} {M : Mk} (h : Mo S w v M) (hs : ∀ R, S' R → S R ∨ w.heap.size ≤ R) : Mo S' w v M := by
  obtain ⟨x, e, e2, h1, h2⟩ := h
  exact ⟨x, e, e2, h1, fun R hR => (hs R hR).elim (h2 R) fun h => h1.sl.off h⟩
theorem drewN_below {B : Nat} {a w : World} (h : Below B a w) (n : Nat) : Below B a (w.drewN n) := ⟨h.os, h.tape, h.output, h.size, h.block⟩
theorem set2_below {s R : Nat} {w0 w : World} (h : Below s w0 w) (hR : s ≤ R) (u0 u1 : Value) : Below s w0 ((w.setCell ⟨R, 0, none⟩ u0).setCell ⟨R, 1, none⟩ u1) :=
  (h.setCell (p := ⟨R, 0, none⟩) hR _).setCell (p := ⟨R, 1, none⟩) hR _
theorem set2_other {w : World} {B R : Nat} {cs : Array Value} (h : Blk w B cs) (hne : R ≠ B) (u0 u1 : Value) : Blk ((w.setCell ⟨R, 0, none⟩ u0).setCell ⟨R, 1, none⟩ u1) B cs := (h.other u0 hne).other u1 hne
theorem set2_same {w : World} {R : Nat} {a0 a1 : Value} (h : Blk w R #[a0, a1]) (u0 u1 : Value) : Blk ((w.setCell ⟨R, 0, none⟩ u0).setCell ⟨R, 1, none⟩ u1) R #[u0, u1] := (h.set (n := 0) u0 (by simp)).set (n := 1) u1 (by simp)
theorem set3_below {s R : Nat} {w0 w : World} (h : Below s w0 w) (hR : s ≤ R) (u0 u1 u2 : Value) : Below s w0 (((w.setCell ⟨R, 0, none⟩ u0).setCell ⟨R, 1, none⟩ u1).setCell ⟨R, 2, none⟩ u2) :=
  ((h.setCell (p := ⟨R, 0, none⟩) hR _).setCell (p := ⟨R, 1, none⟩) hR _).setCell (p := ⟨R, 2, none⟩) hR _
theorem set3_below' {s R : Nat} {w0 w : World} (h : Below s w0 w) (hR : s ≤ R) (a b c : Nat) (u0 u1 u2 : Value) : Below s w0 (((w.setCell ⟨R, a, none⟩ u0).setCell ⟨R, b, none⟩ u1).setCell ⟨R, c, none⟩ u2) :=
  ((h.setCell (p := ⟨R, a, none⟩) hR _).setCell (p := ⟨R, b, none⟩) hR _).setCell (p := ⟨R, c, none⟩) hR _
theorem set3_other {w : World} {B R : Nat} {cs : Array Value} (h : Blk w B cs) (hne : R ≠ B) (u0 u1 u2 : Value) : Blk (((w.setCell ⟨R, 0, none⟩ u0).setCell ⟨R, 1, none⟩ u1).setCell ⟨R, 2, none⟩ u2) B cs := ((h.other u0 hne).other u1 hne).other u2 hne
theorem set3_same {w : World} {R : Nat} {a0 a1 a2 : Value} (h : Blk w R #[a0, a1, a2]) (u0 u1 u2 : Value) : Blk (((w.setCell ⟨R, 0, none⟩ u0).setCell ⟨R, 1, none⟩ u1).setCell ⟨R, 2, none⟩ u2) R #[u0, u1, u2] := ((h.set (n := 0) u0 (by simp)).set (n := 1) u1 (by simp)).set (n := 2) u2 (by simp)
theorem OwnK.set2 {base : Nat} {w : World} {p : Option Addr} {n c : Nat} {xs : List Mv} (h : OwnK base w p n c xs) {R : Nat} (hR : R < base) (u0 u1 : Value) : OwnK base ((w.setCell ⟨R, 0, none⟩ u0).setCell ⟨R, 1, none⟩ u1) p n c xs := (h.offB hR 0 u0).offB hR 1 u1
theorem Ko.set2 {S : Nat → Prop} {w : World} {v : Value} {C : Ck} (h : Ko S w v C) {R : Nat} (hR : S R) (u0 u1 : Value) : Ko S ((w.setCell ⟨R, 0, none⟩ u0).setCell ⟨R, 1, none⟩ u1) v C := (h.set hR 0 u0).set hR 1 u1
theorem Mo.set3 {S : Nat → Prop} {w : World} {v : Value} {M : Mk} (h : Mo S w v M) {R : Nat} (hR : S R) (u0 u1 u2 : Value) : Mo S (((w.setCell ⟨R, 0, none⟩ u0).setCell ⟨R, 1, none⟩ u1).setCell ⟨R, 2, none⟩ u2) v M := ((h.set hR 0 u0).set hR 1 u1).set hR 2 u2
end Go.Proofs.Ytbogkloemmddcaa
