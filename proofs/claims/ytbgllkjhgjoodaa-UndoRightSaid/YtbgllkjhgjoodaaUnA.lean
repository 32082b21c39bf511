/- Logs in memory, as they read, and in which blocks they don't lie; no condition but that they read. -/
import Derived.Test.YtbgllkjhgjoodaaUnNum
import Derived.Test.YtbgllkjhgjoodaaRows
import Derived.WalkSpells
import Derived.Outline
import Derived.Laws.CopyOwn
import Derived.Deep.WholeRow
import Derived.OwnWalk
import Derived.BigGuardPart
import Derived.Deep.RegionLaw
import Derived.Lib.SliceRun
import Derived.Deep.CutBlock
import Derived.Deep.DeepCutAuto
namespace Go.Proofs.Ytbgllkjhgjoodaa
set_option linter.unusedVariables false
open Go.ChangeShapes Go.WideShapes Go.ChangeAt Go.RowKit

theorem own_base {w : World} {b b' : Nat} {e : TypeId} {size : Nat} {v : Value} {n : Nat} {xs : List Value} (h : w.ownsRow b e size v n xs) (hb : b' ≤ b) : w.ownsRow b' e size v n xs := by
  obtain ⟨h1, h2 | ⟨g, cap, cur, e1, e2, e3⟩⟩ := h
  · exact ⟨h1, .inl h2⟩
  · exact ⟨h1, .inr ⟨g, cap, cur, e1, by omega, e3⟩⟩
theorem own_below {w w' : World} {base : Nat} {e : TypeId} {size : Nat} {v : Value} {n : Nat} {xs : List Value} (h : w.ownsRow base e size v n xs) (hb : Below w.heap.size w w') : w'.ownsRow base e size v n xs := by
  obtain ⟨h1, h2 | ⟨g', c', cur, e1, e2, e3, e4⟩⟩ := h
  · exact ⟨h1, .inl h2⟩
  · exact ⟨h1, .inr ⟨g', c', cur, e1, e2, by rw [hb.block g' (Array.getElem?_eq_some_iff.1 e3).1]; exact e3, e4⟩⟩
theorem own_cap {w : World} {base : Nat} {e : TypeId} {size : Nat} {v : Value} {n : Nat} {xs : List Value} (h : w.ownsRow base e size v n xs) : ∃ p cap, v = .slice p n cap ∧ n ≤ cap := by
  obtain ⟨h1, ⟨h2, h3⟩ | ⟨g', c', cur, e1, e2, e3, e4, _⟩⟩ := h
  · subst h3; exact ⟨_, _, h2, Nat.le_refl _⟩
  · exact ⟨_, _, e1, e4⟩
theorem own_go {w : World} {base : Nat} {e : TypeId} {size : Nat} {p : Option Addr} {n c : Nat} {xs : List Value} (h : w.ownsRow base e size (.slice p n c) n xs) (h0 : 0 < n) : ∃ g, p = some ⟨g, 0, none⟩ ∧ n ≤ c ∧ c ≤ maxLen ∧ base ≤ g ∧ g < w.heap.size := by
  obtain ⟨h1, ⟨_, h2⟩ | ⟨g, cap, cur, e1, e2, e3, e4, e5, _⟩⟩ := h
  · omega
  · injection e1 with e1 e6 e7
    subst e7
    exact ⟨g, e1, e4, e5, e2, (Array.getElem?_eq_some_iff.1 e3).1⟩
theorem own_off {w : World} {base : Nat} {e : TypeId} {size : Nat} {v : Value} {n : Nat} {xs : List Value} (h : w.ownsRow base e size v n xs) {R : Nat} (hR : ∀ g, v.ownBlock = some g → g ≠ R) (j : Nat) (u : Value) : (w.setCell ⟨R, j, none⟩ u).ownsRow base e size v n xs := by
  refine h.kept (row := some R) ⟨rfl, rfl, rfl, by simp, fun k _ hk => heap_setCell_other w ⟨R, j, none⟩ k u (fun e => hk (by simp [e]))⟩ ?_
  cases hv : v.ownBlock with
  | none => exact .inl rfl
  | some b => exact .inr (fun e2 => by injection e2 with e2; exact hR b hv e2)
theorem info26 : (Try.prog.info? 26).map (fun i => (i.zero, i.size, i.bytes)) = some (some (.int .u32 0), 1, 4) := by kernel_rfl
theorem info51 : (Try.prog.info? 51).map (fun i => (i.zero, i.size, i.bytes)) = some (some (.agg #[.int .i64 0, .int .i64 0, .int .u32 0]), 3, 24) := by kernel_rfl

def wdC (l : List Int) : List Value := l.map (Value.int .u32)
theorem wdC_len (l : List Int) : (wdC l).length = l.length := List.length_map _
theorem wdC_one (l : List Int) : ∀ u ∈ wdC l, u.oneCell' = true := by
  intro u hu
  obtain ⟨x, _, rfl⟩ := List.mem_map.1 hu
  rfl
theorem wdC_at (l : List Int) (k : Nat) (hk : k < l.length) : (wdC l)[k]? = some (.int .u32 (l.getD k 0)) := by
  unfold wdC
  rw [List.getElem?_map, List.getD_eq_getElem?_getD, List.getElem?_eq_getElem hk]
  rfl
theorem wdC_set (l : List Int) (k : Nat) (v : Int) : (wdC l).set k (.int .u32 v) = wdC (l.set k v) := by unfold wdC; rw [List.map_set]
theorem wdC_rep (n : Nat) : List.replicate n (Value.int .u32 0) = wdC (List.replicate n 0) := by unfold wdC; rw [List.map_replicate]
def unR (u : Un) : Array Value := #[.int .i64 u.span, .int .i64 u.at_, .int .u32 u.val]
def unC (l : List Un) : List Value := l.flatMap fun u => (unR u).toList
theorem unC_nil : unC [] = [] := rfl
theorem unC_cons (u : Un) (l : List Un) : unC (u :: l) = (unR u).toList ++ unC l := rfl
theorem unC_app (l m : List Un) : unC (l ++ m) = unC l ++ unC m := by unfold unC; exact List.flatMap_append
theorem unC_len (l : List Un) : (unC l).length = l.length * 3 := by
  induction l with
  | nil => rfl
  | cons x l ih => rw [unC_cons, List.length_append, ih, List.length_cons]; show 3 + l.length * 3 = _; omega
theorem unC_oneCell (l : List Un) : ∀ u ∈ unC l, u.oneCell' = true := by
  intro u hu
  obtain ⟨x, _, hx⟩ := List.mem_flatMap.1 hu
  simp [unR] at hx
  rcases hx with rfl | rfl | rfl <;> rfl
theorem unC_at (l : List Un) (k j : Nat) (hk : k < l.length) (hj : j < 3) : (unC l)[k * 3 + j]? = (unR (l.getD k zU))[j]? := by
  induction l generalizing k with
  | nil => exact absurd hk (Nat.not_lt_zero _)
  | cons x l ih =>
    rw [unC_cons]
    cases k with
    | zero =>
      rw [List.getElem?_append_left (by show 0 * 3 + j < 3; omega), Nat.zero_mul, Nat.zero_add]
      simp
    | succ k =>
      rw [List.getElem?_append_right (by show 3 ≤ (k + 1) * 3 + j; omega)]
      have e : (k + 1) * 3 + j - ((unR x).toList).length = k * 3 + j := by show (k + 1) * 3 + j - 3 = _; omega
      rw [e, ih k (by simpa using hk), List.getD_cons_succ]
theorem unC_take (l : List Un) (k : Nat) : unC (l.take k) = (unC l).take (k * 3) := by
  induction l generalizing k with
  | nil => simp [unC_nil]
  | cons x l ih =>
    cases k with
    | zero => simp [unC_nil]
    | succ k => rw [List.take_succ_cons, unC_cons, unC_cons, ih, List.take_append, show (unR x).toList.length = 3 from rfl, show (k + 1) * 3 - 3 = k * 3 by omega, List.take_of_length_le (show (unR x).toList.length ≤ (k + 1) * 3 by show 3 ≤ _; omega)]
theorem unC_drop (l : List Un) (k : Nat) : unC (l.drop k) = (unC l).drop (k * 3) := by
  induction l generalizing k with
  | nil => simp [unC_nil]
  | cons x l ih =>
    cases k with
    | zero => simp
    | succ k => rw [List.drop_succ_cons, unC_cons, ih, List.drop_append, show (unR x).toList.length = 3 from rfl, show (k + 1) * 3 - 3 = k * 3 by omega, List.drop_of_length_le (show (unR x).toList.length ≤ (k + 1) * 3 by show 3 ≤ _; omega), List.nil_append]
theorem Sl.set {w : World} {p : Option Addr} {n : Nat} {cs : List Value} (h : Sl w p n cs) {R : Nat} (ho : 0 < n → ∀ a, p = some a → a.block ≠ R) (j : Nat) (u : Value) : Sl (w.setCell ⟨R, j, none⟩ u) p n cs := fun h0 => by
  obtain ⟨b, off, h1, h2, h3⟩ := h h0
  have hne := ho h0 _ h2
  exact ⟨b, off, by simpa using h1, h2, fun k hk => (World.cell?_setCell_other _ _ _ _ (by intro e; injection e with e1; exact hne e1.symm)).trans (h3 k hk)⟩
theorem blk_sl {w : World} {B n : Nat} {l : List Value} (h : Blk w B l.toArray) : Sl w (some ⟨B, 0, none⟩) n l := fun _ => ⟨B, 0, h.lt, rfl, fun j hj => by rw [Nat.zero_add, h.c j]; simp⟩
/-- What one of its list is in memory. -/
structure UnAt (w : World) (b off k : Nat) (u : Un) : Prop where
  lt : b < w.heap.size
  c0 : w.cell? ⟨b, off + k * 3, none⟩ = some (.int .i64 u.span)
  c1 : w.cell? ⟨b, off + k * 3 + 1, none⟩ = some (.int .i64 u.at_)
  c2 : w.cell? ⟨b, off + k * 3 + 2, none⟩ = some (.int .u32 u.val)
theorem UnAt.below {w w' : World} {b off k : Nat} {u : Un} (h : UnAt w b off k u) (hb : Below w.heap.size w w') : UnAt w' b off k u :=
  ⟨Nat.lt_of_lt_of_le h.lt hb.size, (hb.cell (p := ⟨b, _, none⟩) h.lt).trans h.c0, (hb.cell (p := ⟨b, _, none⟩) h.lt).trans h.c1, (hb.cell (p := ⟨b, _, none⟩) h.lt).trans h.c2⟩
theorem un_at {w : World} {q : Option Addr} {l : List Un} (h : Sl w q l.length (unC l)) (k : Nat) (hk : k < l.length) : ∃ b off, q = some ⟨b, off, none⟩ ∧ UnAt w b off k (l.getD k zU) := by
  obtain ⟨b, off, h1, h2, h3⟩ := h (by omega)
  have hc := fun j (hj : j < 3) => (h3 (k * 3 + j) (by rw [unC_len]; omega)).trans (unC_at l k j hk hj)
  exact ⟨b, off, h2, h1, hc 0 (by decide), hc 1 (by decide), hc 2 (by decide)⟩
theorem wd_at {w : World} {p : Option Addr} {l : List Int} (h : Sl w p l.length (wdC l)) (k : Nat) (hk : k < l.length) : ∃ b off, p = some ⟨b, off, none⟩ ∧ b < w.heap.size ∧ w.cell? ⟨b, off + k, none⟩ = some (.int .u32 (l.getD k 0)) := by
  obtain ⟨b, off, h1, h2, h3⟩ := h (by omega)
  exact ⟨b, off, h2, h1, (h3 k (by rw [wdC_len]; exact hk)).trans (wdC_at l k hk)⟩
/-- The block R isn't the one behind p. -/
def Off (R : Nat) (p : Option Addr) (n : Nat) : Prop := 0 < n → ∀ a, p = some a → a.block ≠ R
theorem Sl.off {w : World} {p : Option Addr} {n : Nat} {cs : List Value} (h : Sl w p n cs) {R : Nat} (hR : w.heap.size ≤ R) : Off R p n := fun h0 a e => by
  obtain ⟨b, off, h1, h2, _⟩ := h h0
  rw [h2] at e
  injection e with e
  subst e
  show b ≠ R
  omega
theorem own_offR {base : Nat} {w : World} {p : Option Addr} {n c : Nat} {xs : List Value} {e : TypeId} {z : Nat} (h : w.ownsRow base e z (.slice p n c) n xs) {R : Nat} (hR : R < base) : Off R p n := fun h0 a ha => by
  subst ha
  have := (h.lt a.block rfl).1
  omega
/-- A log, in memory. -/
structure Lc (w : World) (p : Option Addr) (m c : Nat) (q : Option Addr) (n d : Nat) (L : Lg) : Prop where
  ml : L.mem.length = m
  ll : L.list.length = n
  ms : Sl w p m (wdC L.mem)
  ls : Sl w q n (unC L.list)
  mc : m ≤ c
  nd : n ≤ d
  m10 : m ≤ 10000
  n10 : n ≤ 10000
theorem Lc.below {w w' : World} {p q : Option Addr} {m c n d : Nat} {L : Lg} (h : Lc w p m c q n d L) (hb : Below w.heap.size w w') : Lc w' p m c q n d L := ⟨h.ml, h.ll, h.ms.below hb, h.ls.below hb, h.mc, h.nd, h.m10, h.n10⟩
theorem Lc.set {w : World} {p q : Option Addr} {m c n d : Nat} {L : Lg} (h : Lc w p m c q n d L) {R : Nat} (hp : Off R p m) (hq : Off R q n) (j : Nat) (u : Value) : Lc (w.setCell ⟨R, j, none⟩ u) p m c q n d L := ⟨h.ml, h.ll, h.ms.set hp j u, h.ls.set hq j u, h.mc, h.nd, h.m10, h.n10⟩
theorem Lc.unAt {w : World} {p q : Option Addr} {m c n d : Nat} {L : Lg} (h : Lc w p m c q n d L) (k : Nat) (hk : k < n) : ∃ b off, q = some ⟨b, off, none⟩ ∧ UnAt w b off k (L.list.getD k zU) := un_at (by rw [h.ll]; exact h.ls) k (by rw [h.ll]; exact hk)
theorem Lc.wdAt {w : World} {p q : Option Addr} {m c n d : Nat} {L : Lg} (h : Lc w p m c q n d L) (k : Nat) (hk : k < m) : ∃ b off, p = some ⟨b, off, none⟩ ∧ b < w.heap.size ∧ w.cell? ⟨b, off + k, none⟩ = some (.int .u32 (L.mem.getD k 0)) := wd_at (by rw [h.ml]; exact h.ms) k (by rw [h.ml]; exact hk)
/-- A log in memory of one's own: two lists that share no block. -/
structure OwnL (base : Nat) (w : World) (p : Option Addr) (m c : Nat) (q : Option Addr) (n d : Nat) (L : Lg) : Prop where
  mo : w.ownsRow base 26 1 (.slice p m c) m (wdC L.mem)
  lo : w.ownsRow base 51 3 (.slice q n d) n (unC L.list)
  sep : ∀ g, (Value.slice p m c).ownBlock = some g → (Value.slice q n d).ownBlock ≠ some g
  m10 : m ≤ 10000
  n10 : n ≤ 10000
theorem OwnL.below {base : Nat} {w w' : World} {p q : Option Addr} {m c n d : Nat} {L : Lg} (h : OwnL base w p m c q n d L) (hb : Below w.heap.size w w') : OwnL base w' p m c q n d L := ⟨own_below h.mo hb, own_below h.lo hb, h.sep, h.m10, h.n10⟩
theorem OwnL.mono {base base' : Nat} {w : World} {p q : Option Addr} {m c n d : Nat} {L : Lg} (h : OwnL base w p m c q n d L) (hb : base' ≤ base) : OwnL base' w p m c q n d L := ⟨own_base h.mo hb, own_base h.lo hb, h.sep, h.m10, h.n10⟩
theorem OwnL.ml {base : Nat} {w : World} {p q : Option Addr} {m c n d : Nat} {L : Lg} (h : OwnL base w p m c q n d L) : L.mem.length = m := by have := h.mo.1; rw [wdC_len, Nat.mul_one] at this; exact this
theorem OwnL.ll {base : Nat} {w : World} {p q : Option Addr} {m c n d : Nat} {L : Lg} (h : OwnL base w p m c q n d L) : L.list.length = n := by have := h.lo.1; rw [unC_len] at this; omega
theorem OwnL.lc {base : Nat} {w : World} {p q : Option Addr} {m c n d : Nat} {L : Lg} (h : OwnL base w p m c q n d L) : Lc w p m c q n d L := by
  obtain ⟨p', c', e, hs⟩ := Sl.own h.mo
  injection e with e1 e2 e3
  subst e1
  obtain ⟨p', c', e, hc⟩ := own_cap h.mo
  injection e with e1 e2 e3
  subst e3
  obtain ⟨p', c', e, ht⟩ := Sl.own h.lo
  injection e with e1 e2 e3
  subst e1
  obtain ⟨p', c', e, hd⟩ := own_cap h.lo
  injection e with e1 e2 e3
  subst e3
  exact ⟨h.ml, h.ll, hs, ht, hc, hd, h.m10, h.n10⟩
theorem OwnL.off {base : Nat} {w : World} {p q : Option Addr} {m c n d : Nat} {L : Lg} (h : OwnL base w p m c q n d L) {R : Nat} (hR : R < base) : Off R p m ∧ Off R q n := ⟨own_offR h.mo hR, own_offR h.lo hR⟩
theorem OwnL.setOff {base : Nat} {w : World} {p q : Option Addr} {m c n d : Nat} {L : Lg} (h : OwnL base w p m c q n d L) {R : Nat} (hR : R < base) (j : Nat) (u : Value) : OwnL base (w.setCell ⟨R, j, none⟩ u) p m c q n d L :=
  ⟨own_off h.mo (fun g e => by have := (h.mo.lt g e).1; omega) j u, own_off h.lo (fun g e => by have := (h.lo.lt g e).1; omega) j u, h.sep, h.m10, h.n10⟩
theorem OwnL.setOff3 {base : Nat} {w : World} {p q : Option Addr} {m c n d : Nat} {L : Lg} (h : OwnL base w p m c q n d L) {R : Nat} (hR : R < base) (u0 u1 u2 : Value) : OwnL base (((w.setCell ⟨R, 0, none⟩ u0).setCell ⟨R, 1, none⟩ u1).setCell ⟨R, 2, none⟩ u2) p m c q n d L :=
  ((h.setOff hR 0 u0).setOff hR 1 u1).setOff hR 2 u2
/-- A value that reads as a log, and lies in none of the blocks S. -/
def Lo (S : Nat → Prop) (w : World) (v : Value) (L : Lg) : Prop := ∃ p m c q n d, v = .agg #[.slice p m c, .int .i64 L.span, .slice q n d] ∧ Lc w p m c q n d L ∧ ∀ R, S R → Off R p m ∧ Off R q n
theorem Lo.below {S : Nat → Prop} {w w' : World} {v : Value} {L : Lg} (h : Lo S w v L) (hb : Below w.heap.size w w') : Lo S w' v L := by
  obtain ⟨p, m, c, q, n, d, e, h1, h2⟩ := h
  exact ⟨p, m, c, q, n, d, e, h1.below hb, h2⟩
theorem Lo.set {S : Nat → Prop} {w : World} {v : Value} {L : Lg} (h : Lo S w v L) {R : Nat} (hR : S R) (j : Nat) (u : Value) : Lo S (w.setCell ⟨R, j, none⟩ u) v L := by
  obtain ⟨p, m, c, q, n, d, e, h1, h2⟩ := h
  exact ⟨p, m, c, q, n, d, e, h1.set (h2 R hR).1 (h2 R hR).2 j u, h2⟩
theorem Lo.weak {S S' : Nat → Prop} {w : World} {v : Value} {L : Lg} (h : Lo S w v L) (hs : ∀ R, S' R → S R) : Lo S' w v L := by
  obtain ⟨p, m, c, q, n, d, e, h1, h2⟩ := h
  exact ⟨p, m, c, q, n, d, e, h1, fun R hR => h2 R (hs R hR)⟩
theorem Lo.later {S S' : Nat → Prop} {w : World} {v : Value} {L : Lg} (h : Lo S w v L) (hs : ∀ R, S' R → S R ∨ w.heap.size ≤ R) : Lo S' w v L := by
  obtain ⟨p, m, c, q, n, d, e, h1, h2⟩ := h
  exact ⟨p, m, c, q, n, d, e, h1, fun R hR => (hs R hR).elim (h2 R) fun h => ⟨h1.ms.off h, h1.ls.off h⟩⟩
theorem Lo.set3 {S : Nat → Prop} {w : World} {v : Value} {L : Lg} (h : Lo S w v L) {R : Nat} (hR : S R) (u0 u1 u2 : Value) : Lo S (((w.setCell ⟨R, 0, none⟩ u0).setCell ⟨R, 1, none⟩ u1).setCell ⟨R, 2, none⟩ u2) v L := ((h.set hR 0 u0).set hR 1 u1).set hR 2 u2
theorem OwnL.out {base : Nat} {w : World} {p q : Option Addr} {m c n d : Nat} {L : Lg} (h : OwnL base w p m c q n d L) {S : Nat → Prop} (hS : ∀ R, S R → R < base) : Lo S w (.agg #[.slice p m c, .int .i64 L.span, .slice q n d]) L :=
  ⟨p, m, c, q, n, d, rfl, h.lc, fun R hR => h.off (hS R hR)⟩
theorem set3_below {s R : Nat} {w0 w : World} (h : Below s w0 w) (hR : s ≤ R) (u0 u1 u2 : Value) : Below s w0 (((w.setCell ⟨R, 0, none⟩ u0).setCell ⟨R, 1, none⟩ u1).setCell ⟨R, 2, none⟩ u2) :=
  ((h.setCell (p := ⟨R, 0, none⟩) hR _).setCell (p := ⟨R, 1, none⟩) hR _).setCell (p := ⟨R, 2, none⟩) hR _
theorem set3_other {w : World} {B R : Nat} {cs : Array Value} (h : Blk w B cs) (hne : R ≠ B) (u0 u1 u2 : Value) : Blk (((w.setCell ⟨R, 0, none⟩ u0).setCell ⟨R, 1, none⟩ u1).setCell ⟨R, 2, none⟩ u2) B cs := ((h.other u0 hne).other u1 hne).other u2 hne
theorem set3_same {w : World} {R : Nat} {a0 a1 a2 : Value} (h : Blk w R #[a0, a1, a2]) (u0 u1 u2 : Value) : Blk (((w.setCell ⟨R, 0, none⟩ u0).setCell ⟨R, 1, none⟩ u1).setCell ⟨R, 2, none⟩ u2) R #[u0, u1, u2] := ((h.set (n := 0) u0 (by simp)).set (n := 1) u1 (by simp)).set (n := 2) u2 (by simp)
theorem drewN_below {B : Nat} {a w : World} (h : Below B a w) (n : Nat) : Below B a (w.drewN n) := ⟨h.os, h.tape, h.output, h.size, h.block⟩
/-- A log, and a number. -/
def OutL (S : Nat → Prop) (w w' : World) (e : Ending) (L : Lg) (X : Int) : Prop := ∃ v, e = .returned (.tuple #[v, .int .i64 X]) ∧ Lo S w' v L ∧ Below w.heap.size w w'
/-- A variable in block b that holds a log, which lies in none of the blocks S. -/
def Var (S : Nat → Prop) (w : World) (b : Nat) (L : Lg) : Prop := ∃ p m c q n d, Blk w b #[.slice p m c, .int .i64 L.span, .slice q n d] ∧ Lc w p m c q n d L ∧ ∀ R, S R → Off R p m ∧ Off R q n
theorem Var.below {S : Nat → Prop} {w w' : World} {b : Nat} {L : Lg} (h : Var S w b L) (hb : Below w.heap.size w w') : Var S w' b L := by
  obtain ⟨p, m, c, q, n, d, h1, h2, h3⟩ := h
  exact ⟨p, m, c, q, n, d, h1.below hb, h2.below hb, h3⟩
theorem Var.lt {S : Nat → Prop} {w : World} {b : Nat} {L : Lg} (h : Var S w b L) : b < w.heap.size := by
  obtain ⟨p, m, c, q, n, d, h1, _⟩ := h
  exact h1.lt
theorem Var.lo {S : Nat → Prop} {w : World} {b : Nat} {L : Lg} (h : Var S w b L) : ∃ p m c q n d, Blk w b #[.slice p m c, .int .i64 L.span, .slice q n d] ∧ Lo S w (.agg #[.slice p m c, .int .i64 L.span, .slice q n d]) L ∧ Lc w p m c q n d L := by
  obtain ⟨p, m, c, q, n, d, h1, h2, h3⟩ := h
  exact ⟨p, m, c, q, n, d, h1, ⟨p, m, c, q, n, d, rfl, h2, h3⟩, h2⟩
theorem Var.later {S S' : Nat → Prop} {w : World} {b : Nat} {L : Lg} (h : Var S w b L) (hs : ∀ R, S' R → S R ∨ w.heap.size ≤ R) : Var S' w b L := by
  obtain ⟨p, m, c, q, n, d, h1, h2, h3⟩ := h
  exact ⟨p, m, c, q, n, d, h1, h2, fun R hR => (hs R hR).elim (h3 R) fun h => ⟨h2.ms.off h, h2.ls.off h⟩⟩
theorem Var.set {S : Nat → Prop} {w : World} {b : Nat} {L : Lg} (h : Var S w b L) {R : Nat} (hR : S R) (hne : R ≠ b) (j : Nat) (u : Value) : Var S (w.setCell ⟨R, j, none⟩ u) b L := by
  obtain ⟨p, m, c, q, n, d, h1, h2, h3⟩ := h
  exact ⟨p, m, c, q, n, d, h1.other u hne, h2.set (h3 R hR).1 (h3 R hR).2 j u, h3⟩
theorem Var.set3 {S : Nat → Prop} {w : World} {b : Nat} {L : Lg} (h : Var S w b L) {R : Nat} (hR : S R) (hne : R ≠ b) (u0 u1 u2 : Value) : Var S (((w.setCell ⟨R, 0, none⟩ u0).setCell ⟨R, 1, none⟩ u1).setCell ⟨R, 2, none⟩ u2) b L :=
  ((h.set hR hne 0 u0).set hR hne 1 u1).set hR hne 2 u2
theorem Var.new {S : Nat → Prop} {w : World} {L : Lg} {u0 u1 u2 : Value} (h : Lo S w (.agg #[u0, u1, u2]) L) : Var S (w.alloc (.cells #[u0, u1, u2] 25)) w.heap.size L := by
  obtain ⟨p, m, c, q, n, d, e, h2, h3⟩ := h
  injection e with e
  simp at e
  obtain ⟨rfl, rfl, rfl⟩ := e
  exact ⟨p, m, c, q, n, d, Blk.new _ _ _, h2.below ((Below.refl _ _).alloc (Nat.le_refl _) _), h3⟩
theorem Var.newt {S : Nat → Prop} {w : World} {L : Lg} {u0 u1 u2 : Value} (t : TypeId) (h : Lo S w (.agg #[u0, u1, u2]) L) : Var S (w.alloc (.cells #[u0, u1, u2] t)) w.heap.size L := by
  obtain ⟨p, m, c, q, n, d, e, h2, h3⟩ := h
  injection e with e
  simp at e
  obtain ⟨rfl, rfl, rfl⟩ := e
  exact ⟨p, m, c, q, n, d, Blk.new _ _ _, h2.below ((Below.refl _ _).alloc (Nat.le_refl _) _), h3⟩
theorem Var.put {S : Nat → Prop} {w : World} {b : Nat} {L : Lg} {u0 u1 u2 a0 a1 a2 : Value} (hk : Blk w b #[a0, a1, a2]) (h : Lo S w (.agg #[u0, u1, u2]) L) (hS : S b) : Var S (((w.setCell ⟨b, 0, none⟩ u0).setCell ⟨b, 1, none⟩ u1).setCell ⟨b, 2, none⟩ u2) b L := by
  have h4 := h.set3 hS u0 u1 u2
  have hk4 := set3_same hk u0 u1 u2
  obtain ⟨p, m, c, q, n, d, e, h2, h3⟩ := h4
  injection e with e
  simp at e
  obtain ⟨rfl, rfl, rfl⟩ := e
  exact ⟨p, m, c, q, n, d, hk4, h2, h3⟩
end Go.Proofs.Ytbgllkjhgjoodaa
