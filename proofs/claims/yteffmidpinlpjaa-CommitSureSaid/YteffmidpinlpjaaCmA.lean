/- Gates in memory, as they read, and in which blocks they don't lie; no condition but that they read. -/
import Derived.Test.YteffmidpinlpjaaCmNum
import Derived.Test.YteffmidpinlpjaaRows
import Derived.WalkSpells
import Derived.Outline
import Derived.Laws.CopyOwn
import Derived.Deep.WholeRow
import Derived.OwnWalk
import Derived.BigGuardPart
import Derived.Deep.RegionLaw
import Derived.Lib.SliceRun
import Derived.Deep.CutBlock
import Derived.Deep.DeepCutAuto
namespace Go.Proofs.Yteffmidpinlpjaa
set_option linter.unusedVariables false
set_option linter.unusedSimpArgs false
open Go.ChangeShapes Go.WideShapes Go.ChangeAt Go.RowKit

theorem own_base {w : World} {b b' : Nat} {e : TypeId} {size : Nat} {v : Value} {n : Nat} {xs : List Value} (h : w.ownsRow b e size v n xs) (hb : b' ≤ b) : w.ownsRow b' e size v n xs := by
  obtain ⟨h1, h2 | ⟨g, cap, cur, e1, e2, e3⟩⟩ := h
  · exact ⟨h1, .inl h2⟩
  · exact ⟨h1, .inr ⟨g, cap, cur, e1, by omega, e3⟩⟩
theorem own_below {w w' : World} {base : Nat} {e : TypeId} {size : Nat} {v : Value} {n : Nat} {xs : List Value} (h : w.ownsRow base e size v n xs) (hb : Below w.heap.size w w') : w'.ownsRow base e size v n xs := by
  obtain ⟨h1, h2 | ⟨g', c', cur, e1, e2, e3, e4⟩⟩ := h
  · exact ⟨h1, .inl h2⟩
  · exact ⟨h1, .inr ⟨g', c', cur, e1, e2, by rw [hb.block g' (Array.getElem?_eq_some_iff.1 e3).1]; exact e3, e4⟩⟩
theorem own_cap {w : World} {base : Nat} {e : TypeId} {size : Nat} {v : Value} {n : Nat} {xs : List Value} (h : w.ownsRow base e size v n xs) : ∃ p cap, v = .slice p n cap ∧ n ≤ cap := by
  obtain ⟨h1, ⟨h2, h3⟩ | ⟨g', c', cur, e1, e2, e3, e4, _⟩⟩ := h
  · subst h3; exact ⟨_, _, h2, Nat.le_refl _⟩
  · exact ⟨_, _, e1, e4⟩
theorem own_go {w : World} {base : Nat} {e : TypeId} {size : Nat} {p : Option Addr} {n c : Nat} {xs : List Value} (h : w.ownsRow base e size (.slice p n c) n xs) (h0 : 0 < n) : ∃ g, p = some ⟨g, 0, none⟩ ∧ n ≤ c ∧ c ≤ maxLen ∧ base ≤ g ∧ g < w.heap.size := by
  obtain ⟨h1, ⟨_, h2⟩ | ⟨g, cap, cur, e1, e2, e3, e4, e5, _⟩⟩ := h
  · omega
  · injection e1 with e1 e6 e7
    subst e7
    exact ⟨g, e1, e4, e5, e2, (Array.getElem?_eq_some_iff.1 e3).1⟩
theorem own_off {w : World} {base : Nat} {e : TypeId} {size : Nat} {v : Value} {n : Nat} {xs : List Value} (h : w.ownsRow base e size v n xs) {R : Nat} (hR : ∀ g, v.ownBlock = some g → g ≠ R) (j : Nat) (u : Value) : (w.setCell ⟨R, j, none⟩ u).ownsRow base e size v n xs := by
  refine h.kept (row := some R) ⟨rfl, rfl, rfl, by simp, fun k _ hk => heap_setCell_other w ⟨R, j, none⟩ k u (fun e => hk (by simp [e]))⟩ ?_
  cases hv : v.ownBlock with
  | none => exact .inl rfl
  | some b => exact .inr (fun e2 => by injection e2 with e2; exact hR b hv e2)
theorem infoH : (Try.prog.info? 52).map (fun i => (i.zero, i.size, i.bytes)) = some (some (.agg #[.int .i64 0, .int .u32 0, .int .i64 0]), 3, 24) := by kernel_rfl
theorem infoT : (Try.prog.info? 28).map (fun i => (i.zero, i.size, i.bytes)) = some (some (.agg #[.int .i64 0, .int .u32 0]), 2, 16) := by kernel_rfl
theorem flat_len {α : Type} (f : α → List Value) (k : Nat) (hf : ∀ x, (f x).length = k) (l : List α) : (l.flatMap f).length = l.length * k := by
  induction l with
  | nil => simp
  | cons x l ih => rw [List.flatMap_cons, List.length_append, hf, ih, List.length_cons, Nat.succ_mul, Nat.add_comm]
theorem flat_at {α : Type} (f : α → List Value) (k : Nat) (hf : ∀ x, (f x).length = k) (z : α) (l : List α) (i j : Nat) (hi : i < l.length) (hj : j < k) : (l.flatMap f)[i * k + j]? = (f (l.getD i z))[j]? := by
  induction l generalizing i with
  | nil => simp at hi
  | cons x l ih =>
    rw [List.flatMap_cons]
    cases i with
    | zero => rw [List.getElem?_append_left (by rw [hf]; omega)]; simp
    | succ i =>
      have hi' : i < l.length := by simpa using hi
      rw [List.getElem?_append_right (by rw [hf, Nat.succ_mul]; omega), hf]
      have e : (i + 1) * k + j - k = i * k + j := by rw [Nat.succ_mul]; omega
      rw [e, ih i hi']
      simp
theorem flat_take {α : Type} (f : α → List Value) (k : Nat) (hf : ∀ x, (f x).length = k) (l : List α) (n : Nat) : (l.take n).flatMap f = (l.flatMap f).take (n * k) := by
  induction l generalizing n with
  | nil => simp
  | cons x l ih =>
    cases n with
    | zero => simp
    | succ n =>
      rw [List.take_succ_cons, List.flatMap_cons, List.flatMap_cons, List.take_append, hf, Nat.succ_mul, Nat.add_sub_cancel, ih]
      rw [List.take_of_length_le (show (f x).length ≤ n * k + k by rw [hf]; omega)]
theorem flat_drop {α : Type} (f : α → List Value) (k : Nat) (hf : ∀ x, (f x).length = k) (l : List α) (n : Nat) : (l.drop n).flatMap f = (l.flatMap f).drop (n * k) := by
  induction l generalizing n with
  | nil => simp
  | cons x l ih =>
    cases n with
    | zero => simp
    | succ n =>
      rw [List.drop_succ_cons, List.flatMap_cons, ih, List.drop_append, hf, Nat.succ_mul, Nat.add_sub_cancel, List.drop_of_length_le (show (f x).length ≤ n * k + k by rw [hf]; omega), List.nil_append]
def hdR (h : Hd) : Array Value := #[.int .i64 h.td.core, .int .u32 h.td.val, .int .i64 h.span]
def hdL (h : Hd) : List Value := (hdR h).toList
def hdC (l : List Hd) : List Value := l.flatMap hdL
theorem hdL_len (h : Hd) : (hdL h).length = 3 := rfl
theorem hdC_len (l : List Hd) : (hdC l).length = l.length * 3 := flat_len hdL 3 hdL_len l
theorem hdC_nil : hdC [] = [] := rfl
theorem hdC_app (l m : List Hd) : hdC (l ++ m) = hdC l ++ hdC m := List.flatMap_append
theorem hdC_take (l : List Hd) (k : Nat) : hdC (l.take k) = (hdC l).take (k * 3) := flat_take hdL 3 hdL_len l k
theorem hdC_drop (l : List Hd) (k : Nat) : hdC (l.drop k) = (hdC l).drop (k * 3) := flat_drop hdL 3 hdL_len l k
theorem hdC_at (l : List Hd) (i j : Nat) (hi : i < l.length) (hj : j < 3) : (hdC l)[i * 3 + j]? = (hdR (l.getD i zH))[j]? := by
  have h := flat_at hdL 3 hdL_len zH l i j hi hj
  rw [hdC, h]
  show (hdR (l.getD i zH)).toList[j]? = _
  simp
theorem hdC_one (l : List Hd) : ∀ u ∈ hdC l, u.oneCell' = true := by
  intro u hu
  obtain ⟨x, _, hx⟩ := List.mem_flatMap.1 hu
  simp [hdL, hdR] at hx
  rcases hx with rfl | rfl | rfl <;> rfl
def tdR (t : Td) : Array Value := #[.int .i64 t.core, .int .u32 t.val]
def tdL (t : Td) : List Value := (tdR t).toList
def tdC (l : List Td) : List Value := l.flatMap tdL
theorem tdL_len (t : Td) : (tdL t).length = 2 := rfl
theorem tdC_len (l : List Td) : (tdC l).length = l.length * 2 := flat_len tdL 2 tdL_len l
theorem tdC_nil : tdC [] = [] := rfl
theorem tdC_app (l m : List Td) : tdC (l ++ m) = tdC l ++ tdC m := List.flatMap_append
theorem tdC_take (l : List Td) (k : Nat) : tdC (l.take k) = (tdC l).take (k * 2) := flat_take tdL 2 tdL_len l k
theorem tdC_at (l : List Td) (i j : Nat) (hi : i < l.length) (hj : j < 2) : (tdC l)[i * 2 + j]? = (tdR (l.getD i zT))[j]? := by
  have h := flat_at tdL 2 tdL_len zT l i j hi hj
  rw [tdC, h]
  show (tdR (l.getD i zT)).toList[j]? = _
  simp
theorem tdC_one (l : List Td) : ∀ u ∈ tdC l, u.oneCell' = true := by
  intro u hu
  obtain ⟨x, _, hx⟩ := List.mem_flatMap.1 hu
  simp [tdL, tdR] at hx
  rcases hx with rfl | rfl <;> rfl
theorem Sl.set {w : World} {p : Option Addr} {n : Nat} {cs : List Value} (h : Sl w p n cs) {R : Nat} (ho : 0 < n → ∀ a, p = some a → a.block ≠ R) (j : Nat) (u : Value) : Sl (w.setCell ⟨R, j, none⟩ u) p n cs := fun h0 => by
  obtain ⟨b, off, h1, h2, h3⟩ := h h0
  have hne := ho h0 _ h2
  exact ⟨b, off, by simpa using h1, h2, fun k hk => (World.cell?_setCell_other _ _ _ _ (by intro e; injection e with e1; exact hne e1.symm)).trans (h3 k hk)⟩
theorem Sl.grown {w w' : World} {p : Option Addr} {n : Nat} {cs : List Value} {row : Option Nat} (h : Sl w p n cs) (hg : w.grownBy w' row) (ho : ∀ R, row = some R → 0 < n → ∀ a, p = some a → a.block ≠ R) : Sl w' p n cs := fun h0 => by
  obtain ⟨b, off, h1, h2, h3⟩ := h h0
  have e := hg.block b h1 (fun e => ho b e.symm h0 _ h2 rfl)
  refine ⟨b, off, Nat.lt_of_lt_of_le h1 hg.size, h2, fun k hk => ?_⟩
  rw [← h3 k hk]; unfold World.cell?; rw [e]
theorem blk_sl {w : World} {B n : Nat} {l : List Value} (h : Blk w B l.toArray) : Sl w (some ⟨B, 0, none⟩) n l := fun _ => ⟨B, 0, h.lt, rfl, fun j hj => by rw [Nat.zero_add, h.c j]; simp⟩
/-- The block R isn't the one behind p. -/
def Off (R : Nat) (p : Option Addr) (n : Nat) : Prop := 0 < n → ∀ a, p = some a → a.block ≠ R
theorem Sl.off {w : World} {p : Option Addr} {n : Nat} {cs : List Value} (h : Sl w p n cs) {R : Nat} (hR : w.heap.size ≤ R) : Off R p n := fun h0 a e => by
  obtain ⟨b, off, h1, h2, _⟩ := h h0
  rw [h2] at e
  injection e with e
  subst e
  show b ≠ R
  omega
theorem own_offR {base : Nat} {w : World} {p : Option Addr} {n c : Nat} {xs : List Value} {e : TypeId} {z : Nat} (h : w.ownsRow base e z (.slice p n c) n xs) {R : Nat} (hR : R < base) : Off R p n := fun h0 a ha => by
  subst ha
  have := (h.lt a.block rfl).1
  omega
/-- What one of the held is in memory. -/
structure HdAt (w : World) (b off k : Nat) (x : Hd) : Prop where
  lt : b < w.heap.size
  c0 : w.cell? ⟨b, off + k * 3, none⟩ = some (.int .i64 x.td.core)
  c1 : w.cell? ⟨b, off + k * 3 + 1, none⟩ = some (.int .u32 x.td.val)
  c2 : w.cell? ⟨b, off + k * 3 + 2, none⟩ = some (.int .i64 x.span)
theorem HdAt.below {w w' : World} {b off k : Nat} {x : Hd} (h : HdAt w b off k x) (hb : Below w.heap.size w w') : HdAt w' b off k x :=
  ⟨Nat.lt_of_lt_of_le h.lt hb.size, (hb.cell (p := ⟨b, _, none⟩) h.lt).trans h.c0, (hb.cell (p := ⟨b, _, none⟩) h.lt).trans h.c1, (hb.cell (p := ⟨b, _, none⟩) h.lt).trans h.c2⟩
theorem hd_at {w : World} {p : Option Addr} {n : Nat} {xs : List Hd} (h : Sl w p n (hdC xs)) (hl : xs.length = n) (k : Nat) (hk : k < n) : ∃ b off, p = some ⟨b, off, none⟩ ∧ HdAt w b off k (xs.getD k zH) := by
  obtain ⟨b, off, h1, h2, h3⟩ := h (by omega)
  have hc := fun j (hj : j < 3) => (h3 (k * 3 + j) (by rw [hdC_len]; omega)).trans (hdC_at xs k j (by omega) hj)
  exact ⟨b, off, h2, h1, hc 0 (by decide), hc 1 (by decide), hc 2 (by decide)⟩
/-- What one of those let out is in memory. -/
structure TdAt (w : World) (b off k : Nat) (x : Td) : Prop where
  lt : b < w.heap.size
  c0 : w.cell? ⟨b, off + k * 2, none⟩ = some (.int .i64 x.core)
  c1 : w.cell? ⟨b, off + k * 2 + 1, none⟩ = some (.int .u32 x.val)
theorem TdAt.below {w w' : World} {b off k : Nat} {x : Td} (h : TdAt w b off k x) (hb : Below w.heap.size w w') : TdAt w' b off k x :=
  ⟨Nat.lt_of_lt_of_le h.lt hb.size, (hb.cell (p := ⟨b, _, none⟩) h.lt).trans h.c0, (hb.cell (p := ⟨b, _, none⟩) h.lt).trans h.c1⟩
theorem td_at {w : World} {p : Option Addr} {n : Nat} {xs : List Td} (h : Sl w p n (tdC xs)) (hl : xs.length = n) (k : Nat) (hk : k < n) : ∃ b off, p = some ⟨b, off, none⟩ ∧ TdAt w b off k (xs.getD k zT) := by
  obtain ⟨b, off, h1, h2, h3⟩ := h (by omega)
  have hc := fun j (hj : j < 2) => (h3 (k * 2 + j) (by rw [tdC_len]; omega)).trans (tdC_at xs k j (by omega) hj)
  exact ⟨b, off, h2, h1, hc 0 (by decide), hc 1 (by decide)⟩
/-- A gate, in memory. -/
structure Lc (w : World) (p : Option Addr) (m c : Nat) (q : Option Addr) (n d : Nat) (L : Gt) : Prop where
  ml : L.held.length = m
  ll : L.out.length = n
  ms : Sl w p m (hdC L.held)
  ls : Sl w q n (tdC L.out)
  mc : m ≤ c
  nd : n ≤ d
  m10 : m ≤ 10000
  n10 : n ≤ 10000
theorem Lc.below {w w' : World} {p q : Option Addr} {m c n d : Nat} {L : Gt} (h : Lc w p m c q n d L) (hb : Below w.heap.size w w') : Lc w' p m c q n d L := ⟨h.ml, h.ll, h.ms.below hb, h.ls.below hb, h.mc, h.nd, h.m10, h.n10⟩
theorem Lc.set {w : World} {p q : Option Addr} {m c n d : Nat} {L : Gt} (h : Lc w p m c q n d L) {R : Nat} (hp : Off R p m) (hq : Off R q n) (j : Nat) (u : Value) : Lc (w.setCell ⟨R, j, none⟩ u) p m c q n d L := ⟨h.ml, h.ll, h.ms.set hp j u, h.ls.set hq j u, h.mc, h.nd, h.m10, h.n10⟩
theorem Lc.tdAt {w : World} {p q : Option Addr} {m c n d : Nat} {L : Gt} (h : Lc w p m c q n d L) (k : Nat) (hk : k < n) : ∃ b off, q = some ⟨b, off, none⟩ ∧ TdAt w b off k (L.out.getD k zT) := td_at h.ls h.ll k hk
theorem Lc.hdAt {w : World} {p q : Option Addr} {m c n d : Nat} {L : Gt} (h : Lc w p m c q n d L) (k : Nat) (hk : k < m) : ∃ b off, p = some ⟨b, off, none⟩ ∧ HdAt w b off k (L.held.getD k zH) := hd_at h.ms h.ml k hk
/-- A gate in memory of one's own: two lists that share no block. -/
structure OwnL (base : Nat) (w : World) (p : Option Addr) (m c : Nat) (q : Option Addr) (n d : Nat) (L : Gt) : Prop where
  mo : w.ownsRow base 52 3 (.slice p m c) m (hdC L.held)
  lo : w.ownsRow base 28 2 (.slice q n d) n (tdC L.out)
  sep : ∀ g, (Value.slice p m c).ownBlock = some g → (Value.slice q n d).ownBlock ≠ some g
  m10 : m ≤ 10000
  n10 : n ≤ 10000
theorem OwnL.below {base : Nat} {w w' : World} {p q : Option Addr} {m c n d : Nat} {L : Gt} (h : OwnL base w p m c q n d L) (hb : Below w.heap.size w w') : OwnL base w' p m c q n d L := ⟨own_below h.mo hb, own_below h.lo hb, h.sep, h.m10, h.n10⟩
theorem OwnL.mono {base base' : Nat} {w : World} {p q : Option Addr} {m c n d : Nat} {L : Gt} (h : OwnL base w p m c q n d L) (hb : base' ≤ base) : OwnL base' w p m c q n d L := ⟨own_base h.mo hb, own_base h.lo hb, h.sep, h.m10, h.n10⟩
theorem OwnL.ml {base : Nat} {w : World} {p q : Option Addr} {m c n d : Nat} {L : Gt} (h : OwnL base w p m c q n d L) : L.held.length = m := by have := h.mo.1; rw [hdC_len] at this; omega
theorem OwnL.ll {base : Nat} {w : World} {p q : Option Addr} {m c n d : Nat} {L : Gt} (h : OwnL base w p m c q n d L) : L.out.length = n := by have := h.lo.1; rw [tdC_len] at this; omega
theorem OwnL.lc {base : Nat} {w : World} {p q : Option Addr} {m c n d : Nat} {L : Gt} (h : OwnL base w p m c q n d L) : Lc w p m c q n d L := by
  obtain ⟨p', c', e, hs⟩ := Sl.own h.mo
  injection e with e1 e2 e3
  subst e1
  obtain ⟨p', c', e, hc⟩ := own_cap h.mo
  injection e with e1 e2 e3
  subst e3
  obtain ⟨p', c', e, ht⟩ := Sl.own h.lo
  injection e with e1 e2 e3
  subst e1
  obtain ⟨p', c', e, hd⟩ := own_cap h.lo
  injection e with e1 e2 e3
  subst e3
  exact ⟨h.ml, h.ll, hs, ht, hc, hd, h.m10, h.n10⟩
theorem OwnL.off {base : Nat} {w : World} {p q : Option Addr} {m c n d : Nat} {L : Gt} (h : OwnL base w p m c q n d L) {R : Nat} (hR : R < base) : Off R p m ∧ Off R q n := ⟨own_offR h.mo hR, own_offR h.lo hR⟩
theorem OwnL.setOff {base : Nat} {w : World} {p q : Option Addr} {m c n d : Nat} {L : Gt} (h : OwnL base w p m c q n d L) {R : Nat} (hR : R < base) (j : Nat) (u : Value) : OwnL base (w.setCell ⟨R, j, none⟩ u) p m c q n d L :=
  ⟨own_off h.mo (fun g e => by have := (h.mo.lt g e).1; omega) j u, own_off h.lo (fun g e => by have := (h.lo.lt g e).1; omega) j u, h.sep, h.m10, h.n10⟩
theorem OwnL.setOff2 {base : Nat} {w : World} {p q : Option Addr} {m c n d : Nat} {L : Gt} (h : OwnL base w p m c q n d L) {R : Nat} (hR : R < base) (u0 u1 : Value) : OwnL base ((w.setCell ⟨R, 0, none⟩ u0).setCell ⟨R, 1, none⟩ u1) p m c q n d L :=
  (h.setOff hR 0 u0).setOff hR 1 u1
/-- A value that reads as a gate, and lies in none of the blocks S. -/
def Lo (S : Nat → Prop) (w : World) (v : Value) (L : Gt) : Prop := ∃ p m c q n d, v = .agg #[.slice p m c, .slice q n d] ∧ Lc w p m c q n d L ∧ ∀ R, S R → Off R p m ∧ Off R q n
theorem Lo.below {S : Nat → Prop} {w w' : World} {v : Value} {L : Gt} (h : Lo S w v L) (hb : Below w.heap.size w w') : Lo S w' v L := by
  obtain ⟨p, m, c, q, n, d, e, h1, h2⟩ := h
  exact ⟨p, m, c, q, n, d, e, h1.below hb, h2⟩
theorem Lo.set {S : Nat → Prop} {w : World} {v : Value} {L : Gt} (h : Lo S w v L) {R : Nat} (hR : S R) (j : Nat) (u : Value) : Lo S (w.setCell ⟨R, j, none⟩ u) v L := by
  obtain ⟨p, m, c, q, n, d, e, h1, h2⟩ := h
  exact ⟨p, m, c, q, n, d, e, h1.set (h2 R hR).1 (h2 R hR).2 j u, h2⟩
theorem Lo.weak {S S' : Nat → Prop} {w : World} {v : Value} {L : Gt} (h : Lo S w v L) (hs : ∀ R, S' R → S R) : Lo S' w v L := by
  obtain ⟨p, m, c, q, n, d, e, h1, h2⟩ := h
  exact ⟨p, m, c, q, n, d, e, h1, fun R hR => h2 R (hs R hR)⟩
theorem Lo.later {S S' : Nat → Prop} {w : World} {v : Value} {L : Gt} (h : Lo S w v L) (hs : ∀ R, S' R → S R ∨ w.heap.size ≤ R) : Lo S' w v L := by
  obtain ⟨p, m, c, q, n, d, e, h1, h2⟩ := h
  exact ⟨p, m, c, q, n, d, e, h1, fun R hR => (hs R hR).elim (h2 R) fun h => ⟨h1.ms.off h, h1.ls.off h⟩⟩
theorem Lo.set2 {S : Nat → Prop} {w : World} {v : Value} {L : Gt} (h : Lo S w v L) {R : Nat} (hR : S R) (u0 u1 : Value) : Lo S ((w.setCell ⟨R, 0, none⟩ u0).setCell ⟨R, 1, none⟩ u1) v L := (h.set hR 0 u0).set hR 1 u1
theorem OwnL.out {base : Nat} {w : World} {p q : Option Addr} {m c n d : Nat} {L : Gt} (h : OwnL base w p m c q n d L) {S : Nat → Prop} (hS : ∀ R, S R → R < base) : Lo S w (.agg #[.slice p m c, .slice q n d]) L :=
  ⟨p, m, c, q, n, d, rfl, h.lc, fun R hR => h.off (hS R hR)⟩
theorem set2_below {s R : Nat} {w0 w : World} (h : Below s w0 w) (hR : s ≤ R) (u0 u1 : Value) : Below s w0 ((w.setCell ⟨R, 0, none⟩ u0).setCell ⟨R, 1, none⟩ u1) :=
  (h.setCell (p := ⟨R, 0, none⟩) hR _).setCell (p := ⟨R, 1, none⟩) hR _
theorem set2_other {w : World} {B R : Nat} {cs : Array Value} (h : Blk w B cs) (hne : R ≠ B) (u0 u1 : Value) : Blk ((w.setCell ⟨R, 0, none⟩ u0).setCell ⟨R, 1, none⟩ u1) B cs := (h.other u0 hne).other u1 hne
theorem set2_same {w : World} {R : Nat} {a0 a1 : Value} (h : Blk w R #[a0, a1]) (u0 u1 : Value) : Blk ((w.setCell ⟨R, 0, none⟩ u0).setCell ⟨R, 1, none⟩ u1) R #[u0, u1] := (h.set (n := 0) u0 (by simp)).set (n := 1) u1 (by simp)
theorem drewN_below {B : Nat} {a w : World} (h : Below B a w) (n : Nat) : Below B a (w.drewN n) := ⟨h.os, h.tape, h.output, h.size, h.block⟩
/-- A gate, and a number. -/
def OutL (S : Nat → Prop) (w w' : World) (e : Ending) (L : Gt) (X : Int) : Prop := ∃ v, e = .returned (.tuple #[v, .int .i64 X]) ∧ Lo S w' v L ∧ Below w.heap.size w w'
/-- A variable in block b that holds a gate, which lies in none of the blocks S. -/
def Var (S : Nat → Prop) (w : World) (b : Nat) (L : Gt) : Prop := ∃ p m c q n d, Blk w b #[.slice p m c, .slice q n d] ∧ Lc w p m c q n d L ∧ ∀ R, S R → Off R p m ∧ Off R q n
theorem Var.below {S : Nat → Prop} {w w' : World} {b : Nat} {L : Gt} (h : Var S w b L) (hb : Below w.heap.size w w') : Var S w' b L := by
  obtain ⟨p, m, c, q, n, d, h1, h2, h3⟩ := h
  exact ⟨p, m, c, q, n, d, h1.below hb, h2.below hb, h3⟩
theorem Var.lt {S : Nat → Prop} {w : World} {b : Nat} {L : Gt} (h : Var S w b L) : b < w.heap.size := by
  obtain ⟨p, m, c, q, n, d, h1, _⟩ := h
  exact h1.lt
theorem Var.lo {S : Nat → Prop} {w : World} {b : Nat} {L : Gt} (h : Var S w b L) : ∃ p m c q n d, Blk w b #[.slice p m c, .slice q n d] ∧ Lo S w (.agg #[.slice p m c, .slice q n d]) L ∧ Lc w p m c q n d L := by
  obtain ⟨p, m, c, q, n, d, h1, h2, h3⟩ := h
  exact ⟨p, m, c, q, n, d, h1, ⟨p, m, c, q, n, d, rfl, h2, h3⟩, h2⟩
theorem Var.later {S S' : Nat → Prop} {w : World} {b : Nat} {L : Gt} (h : Var S w b L) (hs : ∀ R, S' R → S R ∨ w.heap.size ≤ R) : Var S' w b L := by
  obtain ⟨p, m, c, q, n, d, h1, h2, h3⟩ := h
  exact ⟨p, m, c, q, n, d, h1, h2, fun R hR => (hs R hR).elim (h3 R) fun h => ⟨h2.ms.off h, h2.ls.off h⟩⟩
theorem Var.set {S : Nat → Prop} {w : World} {b : Nat} {L : Gt} (h : Var S w b L) {R : Nat} (hR : S R) (hne : R ≠ b) (j : Nat) (u : Value) : Var S (w.setCell ⟨R, j, none⟩ u) b L := by
  obtain ⟨p, m, c, q, n, d, h1, h2, h3⟩ := h
  exact ⟨p, m, c, q, n, d, h1.other u hne, h2.set (h3 R hR).1 (h3 R hR).2 j u, h3⟩
theorem Var.set2 {S : Nat → Prop} {w : World} {b : Nat} {L : Gt} (h : Var S w b L) {R : Nat} (hR : S R) (hne : R ≠ b) (u0 u1 : Value) : Var S ((w.setCell ⟨R, 0, none⟩ u0).setCell ⟨R, 1, none⟩ u1) b L :=
  (h.set hR hne 0 u0).set hR hne 1 u1
theorem Var.new {S : Nat → Prop} {w : World} {L : Gt} {u0 u1 : Value} (h : Lo S w (.agg #[u0, u1]) L) : Var S (w.alloc (.cells #[u0, u1] 25)) w.heap.size L := by
  obtain ⟨p, m, c, q, n, d, e, h2, h3⟩ := h
  injection e with e
  simp at e
  obtain ⟨rfl, rfl⟩ := e
  exact ⟨p, m, c, q, n, d, Blk.new _ _ _, h2.below ((Below.refl _ _).alloc (Nat.le_refl _) _), h3⟩
theorem Var.newt {S : Nat → Prop} {w : World} {L : Gt} {u0 u1 : Value} (t : TypeId) (h : Lo S w (.agg #[u0, u1]) L) : Var S (w.alloc (.cells #[u0, u1] t)) w.heap.size L := by
  obtain ⟨p, m, c, q, n, d, e, h2, h3⟩ := h
  injection e with e
  simp at e
  obtain ⟨rfl, rfl⟩ := e
  exact ⟨p, m, c, q, n, d, Blk.new _ _ _, h2.below ((Below.refl _ _).alloc (Nat.le_refl _) _), h3⟩
theorem Var.put {S : Nat → Prop} {w : World} {b : Nat} {L : Gt} {u0 u1 a0 a1 : Value} (hk : Blk w b #[a0, a1]) (h : Lo S w (.agg #[u0, u1]) L) (hS : S b) : Var S ((w.setCell ⟨b, 0, none⟩ u0).setCell ⟨b, 1, none⟩ u1) b L := by
  have h4 := h.set2 hS u0 u1
  have hk4 := set2_same hk u0 u1
  obtain ⟨p, m, c, q, n, d, e, h2, h3⟩ := h4
  injection e with e
  simp at e
  obtain ⟨rfl, rfl⟩ := e
  exact ⟨p, m, c, q, n, d, hk4, h2, h3⟩
end Go.Proofs.Yteffmidpinlpjaa
