/- ClockSure: what its walk carries along; no condition. -/
import Derived.Test.YtbogkloemmddcaaCkN
import Derived.Test.YtbogkloemmddcaaCkR
namespace Go.Proofs.Ytbogkloemmddcaa
set_option linter.unusedVariables false
open Go.ChangeShapes Go.WideShapes Go.ChangeAt Go.RowKit

structure Dt where
  kind : Nat
  more : Nat
def Dt.row (x : Dt) : Array Value := #[.int .u8 x.kind, .int .u8 x.more]
def Dt.Fits (x : Dt) : Prop := x.kind < 256 ∧ x.more < 256
def dt0 : Dt := ⟨0, 0⟩
/-- Things in memory, one behind the other. -/
def Els (w : World) (p : Option Addr) (sz n : Nat) (g : Nat → Array Value) : Prop :=
  0 < n → ∃ b off, b < w.heap.size ∧ p = some ⟨b, off, none⟩ ∧ ∀ k, k < n → ∀ j, j < sz → w.cell? ⟨b, off + k * sz + j, none⟩ = (g k)[j]?
/-- A clock that reads, and lies in neither of two blocks. -/
structure Nk (W : World) (bc bl : Nat) (q : Option Addr) (m d : Nat) (ys : List Mv) : Prop where
  kc : Kc W q m d ys
  oc : Off bc q m ∧ ∀ x ∈ ys, Off bc x.q x.m
  ol : Off bl q m ∧ ∀ x ∈ ys, Off bl x.q x.m
theorem Nk.below {W W' : World} {bc bl : Nat} {q : Option Addr} {m d : Nat} {ys : List Mv} (h : Nk W bc bl q m d ys) (hb : Below W.heap.size W W') : Nk W' bc bl q m d ys := ⟨h.kc.below hb, h.oc, h.ol⟩
theorem Nk.setC {W : World} {bc bl : Nat} {q : Option Addr} {m d : Nat} {ys : List Mv} (h : Nk W bc bl q m d ys) (j : Nat) (u : Value) : Nk (W.setCell ⟨bc, j, none⟩ u) bc bl q m d ys := ⟨h.kc.set h.oc.1 h.oc.2 j u, h.oc, h.ol⟩
theorem Nk.setL {W : World} {bc bl : Nat} {q : Option Addr} {m d : Nat} {ys : List Mv} (h : Nk W bc bl q m d ys) (j : Nat) (u : Value) : Nk (W.setCell ⟨bl, j, none⟩ u) bc bl q m d ys := ⟨h.kc.set h.ol.1 h.ol.2 j u, h.oc, h.ol⟩
theorem Nk.ko {W : World} {bc bl : Nat} {q : Option Addr} {m d : Nat} {ys : List Mv} (h : Nk W bc bl q m d ys) (wt : Int) : Ko (fun _ => False) W (.agg #[.slice q m d, .int .i64 wt]) ⟨mksOf ys, wt⟩ := ⟨q, m, d, ys, rfl, rfl, h.kc, fun R h => h.elim⟩
theorem OwnK.nk {base : Nat} {W : World} {q : Option Addr} {m d : Nat} {ys : List Mv} (h : OwnK base W q m d ys) {bc bl : Nat} (h1 : bc < base) (h2 : bl < base) : Nk W bc bl q m d ys := ⟨h.kc, ⟨own_offR h.ro h1, h.nw bc h1⟩, ⟨own_offR h.ro h2, h.nw bl h2⟩⟩
/-- The statement's two variables: the clock, and what was sure last. -/
structure Cs (w W : World) (bc bl : Nat) (p : Option Addr) (n c : Nat) (wt : Int) (xs : List Mv) (lsp lt : Int) (lq : Option Addr) (lm lc : Nat) : Prop where
  hc : Blk W bc #[.slice p n c, .int .i64 wt]
  hl : Blk W bl #[.int .i64 lsp, .int .i64 lt, .slice lq lm lc]
  nk : Nk W bc bl p n c xs
  hb : Below w.heap.size w W
  g1 : w.heap.size ≤ bc
  g2 : w.heap.size ≤ bl
  ne : bc ≠ bl
theorem Cs.below {w W W' : World} {bc bl : Nat} {p : Option Addr} {n c : Nat} {wt : Int} {xs : List Mv} {lsp lt : Int} {lq : Option Addr} {lm lc : Nat} (h : Cs w W bc bl p n c wt xs lsp lt lq lm lc) (hb : Below W.heap.size W W') : Cs w W' bc bl p n c wt xs lsp lt lq lm lc :=
  ⟨h.hc.below hb, h.hl.below hb, h.nk.below hb, h.hb.trans (hb.mono h.hb.size), h.g1, h.g2, h.ne⟩
/-- Another clock is put into the variable. -/
theorem Cs.put {w W : World} {bc bl : Nat} {p : Option Addr} {n c : Nat} {wt : Int} {xs : List Mv} {lsp lt : Int} {lq : Option Addr} {lm lc : Nat} (h : Cs w W bc bl p n c wt xs lsp lt lq lm lc) {q : Option Addr} {m d : Nat} {ys : List Mv} (hn : Nk W bc bl q m d ys) (wt' : Int) :
    Cs w ((W.setCell ⟨bc, 0, none⟩ (.slice q m d)).setCell ⟨bc, 1, none⟩ (.int .i64 wt')) bc bl q m d wt' ys lsp lt lq lm lc :=
  ⟨set2_same h.hc _ _, set2_other h.hl h.ne _ _, (hn.setC 0 _).setC 1 _, set2_below h.hb h.g1 _ _, h.g1, h.g2, h.ne⟩
/-- What was sure last is put into the other one. -/
theorem Cs.last {w W : World} {bc bl : Nat} {p : Option Addr} {n c : Nat} {wt : Int} {xs : List Mv} {lsp lt : Int} {lq : Option Addr} {lm lc : Nat} (h : Cs w W bc bl p n c wt xs lsp lt lq lm lc) (ssp st : Int) (sq : Option Addr) (sm sc : Nat) :
    Cs w (((W.setCell ⟨bl, 0, none⟩ (.int .i64 ssp)).setCell ⟨bl, 1, none⟩ (.int .i64 st)).setCell ⟨bl, 2, none⟩ (.slice sq sm sc)) bc bl p n c wt xs ssp st sq sm sc :=
  ⟨set3_other h.hc (fun e => h.ne e.symm) _ _ _, set3_same h.hl _ _ _, ((h.nk.setL 0 _).setL 1 _).setL 2 _, set3_below h.hb h.g2 _ _ _, h.g1, h.g2, h.ne⟩
/-- The clock is as C. -/
def isC (C : Ck) (wt : Int) (xs : List Mv) : Prop := C = ⟨mksOf xs, wt⟩
theorem isC.last {C : Ck} {wt : Int} {xs : List Mv} (h : isC C wt xs) {n : Nat} (hn : xs.length = n) : (lastM C.marks).when = (xs.getD (n - 1) zV).when := by
  have : C = ⟨mksOf xs, wt⟩ := h
  subst this
  unfold lastM
  dsimp only
  rw [mksOf_len, hn, mksOf_at]
  rfl
theorem room_len {C : Ck} {now : Int} {n : Nat} (hn : C.marks.length = n) : roomB C now = (decide (n < 8) && decide ((lastM C.marks).when < now)) := by subst hn; rfl
theorem wrapA {a b : Int} (e : a = b) (h : -1000000000000000 ≤ b ∧ b ≤ 1000000000000000) : IntKind.i64.wrap a = b := by subst e; rw [IntKind.wrap_i64]; omega
theorem wrapB {a b : Int} (e : a = b) (h : -1000000000000000 ≤ b ∧ b ≤ 1000000000000000) : wrap64 a = b := by subst e; unfold wrap64; omega
theorem time_facts {now : Int} {more k : Nat} (h0 : 0 ≤ now) (hn : now ≤ 255 * k) (hk : k < 100) (hm : more < 256) :
    ∃ T : Int, (IntKind.i64.wrap (more : Int) = (more : Int) ∧ wrap64 (more : Int) = (more : Int)) ∧ (IntKind.i64.wrap (now + (more : Int)) = T ∧ wrap64 (now + (more : Int)) = T) ∧ now ≤ T ∧ 0 ≤ T ∧ T ≤ 255 * (k + 1 : Nat) ∧ T ≤ 1099511627776 :=
  ⟨now + more, ⟨wrapA rfl (by omega), wrapB rfl (by omega)⟩, ⟨wrapA rfl (by omega), wrapB rfl (by omega)⟩, by omega, by omega, by omega, by omega⟩
end Go.Proofs.Ytbogkloemmddcaa
