/- UndoBack: what its walk carries along; no condition. -/
import Derived.Test.YtbgllkjhgjoodaaUnP
import Derived.Test.YtbgllkjhgjoodaaUnO
import Derived.ArgAppend
namespace Go.Proofs.Ytbgllkjhgjoodaa
set_option linter.unusedVariables false
open Go.ChangeShapes Go.WideShapes Go.ChangeAt Go.RowKit

theorem op_store {P : Program} {ops : Array Oper} {Q : Exit → Act → World → Prop} {i : Nat} {a : Act} {w w1 : World} {o : Oper} {K : Act → World → Prop} (ho : ops[i]? = some o) (hw : Region.wanted o (yielded ops a.tmps) = true) (hr : (execOp a.eval o).run P w = .ok .skip w1) (h : K (a.put o.dst undef) w1) : wpOp P ops Q i K a w := by
  unfold wpOp
  simp only [ho, hw, if_true, Oper.wp, hr, Oper.upon]
  exact .inl h
theorem info22 : (Try.prog.info? 22).map (fun i => (i.zero, i.size, i.bytes)) = some (some (.slice none 0 0), 1, 24) := by kernel_rfl
theorem size22 (W : World) : (sizeOf (Try.prog.elem 43)).run Try.prog W = .ok 1 W := by
  obtain ⟨i0, hi, _, hz1, _⟩ := info_parts info22
  have e : Try.prog.elem 43 = 22 := by kernel_rfl
  rw [e]
  simp [sizeOf, typeInfo, hi, hz1]
/-- s[:k:k]. -/
theorem cut_hh (q : Option Addr) (n d k : Nat) (hk : k ≤ n) (hd : n ≤ d) : (∀ W, (Instr.slice 43 (.slice q n d) none (some (.int .i64 (k : Int))) (some (.int .i64 (k : Int)))).run Try.prog W = .ok (.slice q k k) W) ∧ True := by
  have he : Try.prog.underlying 43 = some (.slice (Try.prog.elem 43)) := by kernel_rfl
  refine ⟨fun W => ?_, trivial⟩
  have h1 : (k : Int) ≤ (d : Int) := by omega
  simp [Instr.slice, run_underlying he, Instr.sliceBounds, run_sliceBound, sliced, size22, h1, Result.andThen]
  intro _
  cases q with
  | none => rfl
  | some A => simp [Addr.add]
structure Dt where
  kind : Nat
  a : Nat
  t : Nat
  v : Nat
def Dt.row (x : Dt) : Array Value := #[.int .u8 x.kind, .int .u8 x.a, .int .u8 x.t, .int .u32 x.v]
def Dt.Fits (x : Dt) : Prop := x.kind < 256 ∧ x.a < 256 ∧ x.t < 256 ∧ x.v < 4294967296
def dt0 : Dt := ⟨0, 0, 0, 0⟩
/-- n elements of sz cells each lie behind p. -/
def Els (w : World) (p : Option Addr) (sz n : Nat) (g : Nat → Array Value) : Prop :=
  0 < n → ∃ b off, b < w.heap.size ∧ p = some ⟨b, off, none⟩ ∧ ∀ k, k < n → ∀ j, j < sz → w.cell? ⟨b, off + k * sz + j, none⟩ = (g k)[j]?

/-- Memories as they were, as rows of words, none of them in block b. -/
structure Was (b : Nat) (w : World) (q : Option Addr) (n N c : Nat) (xs : List Value) (Ws : List (List Int)) : Prop where
  n1 : 0 < N
  cap : N ≤ c
  len : xs.length = N
  wl : Ws.length = N
  sl : Sl w q N xs
  off : Off b q N
  rs : ∀ j, j < N → ∃ p d, xs[j]? = some (.slice p n d) ∧ Sl w p n (wdC (Ws.getD j [])) ∧ Off b p n ∧ (Ws.getD j []).length = n
theorem Was.below {b : Nat} {w w' : World} {q : Option Addr} {n N c : Nat} {xs : List Value} {Ws : List (List Int)} (h : Was b w q n N c xs Ws) (hb : Below w.heap.size w w') : Was b w' q n N c xs Ws :=
  ⟨h.n1, h.cap, h.len, h.wl, h.sl.below hb, h.off, fun j hj => by
    obtain ⟨p, d, h1, h2, h3, h4⟩ := h.rs j hj
    exact ⟨p, d, h1, h2.below hb, h3, h4⟩⟩
theorem Was.set {b : Nat} {w : World} {q : Option Addr} {n N c : Nat} {xs : List Value} {Ws : List (List Int)} (h : Was b w q n N c xs Ws) (j : Nat) (u : Value) : Was b (w.setCell ⟨b, j, none⟩ u) q n N c xs Ws :=
  ⟨h.n1, h.cap, h.len, h.wl, h.sl.set h.off j u, h.off, fun i hi => by
    obtain ⟨p, d, h1, h2, h3, h4⟩ := h.rs i hi
    exact ⟨p, d, h1, h2.set h3 j u, h3, h4⟩⟩
theorem Was.one {b : Nat} {w : World} {q : Option Addr} {n N c : Nat} {xs : List Value} {Ws : List (List Int)} (h : Was b w q n N c xs Ws) : ∀ u ∈ xs, u.oneCell' = true := by
  intro u hu
  obtain ⟨j, hj, rfl⟩ := List.getElem_of_mem hu
  obtain ⟨p, d, h1, _⟩ := h.rs j (by rw [← h.len]; exact hj)
  rw [List.getElem?_eq_getElem hj] at h1
  injection h1 with h1
  rw [h1]; rfl
theorem Was.at_ {b : Nat} {w : World} {q : Option Addr} {n N c : Nat} {xs : List Value} {Ws : List (List Int)} (h : Was b w q n N c xs Ws) (j : Nat) (hj : j < N) : ∃ g off p d, q = some ⟨g, off, none⟩ ∧ g < w.heap.size ∧ w.cell? ⟨g, off + j, none⟩ = some (.slice p n d) ∧ Sl w p n (wdC (Ws.getD j [])) ∧ (Ws.getD j []).length = n := by
  obtain ⟨g, off, h1, h2, h3⟩ := h.sl h.n1
  obtain ⟨p, d, h4, h5, _, h6⟩ := h.rs j hj
  exact ⟨g, off, p, d, h2, h1, (h3 j (by rw [h.len]; exact hj)).trans h4, h5, h6⟩
/-- The first one. -/
theorem Was.new {b : Nat} {W : World} {base n c : Nat} {M : List Int} (hb : b < base) {p : Option Addr} (hm : W.ownsRow base 26 1 (.slice p n c) n (wdC M)) {G : Nat} (hG : Blk W G #[.slice p n c]) (hGb : b < G) : Was b W (some ⟨G, 0, none⟩) n 1 1 [.slice p n c] [M] := by
  obtain ⟨p', c', e, hs⟩ := Sl.own hm
  injection e with e1 e2 e3
  subst e1 e3
  refine ⟨Nat.one_pos, Nat.le_refl _, rfl, rfl, fun _ => ⟨G, 0, hG.lt, rfl, fun j hj => ?_⟩, fun _ a e => ?_, fun j hj => ?_⟩
  · rw [Nat.zero_add, hG.c j]; simp
  · injection e with e; subst e; show G ≠ b; omega
  · have : j = 0 := by omega
    subst this
    exact ⟨p, c, rfl, hs, own_offR hm hb, by have := hm.1; rw [wdC_len, Nat.mul_one] at this; exact this⟩
/-- One more, behind the first k. -/
theorem Was.more {b : Nat} {w W : World} {q q' : Option Addr} {n N c d : Nat} {xs : List Value} {Ws : List (List Int)} {k base base2 : Nat} {p : Option Addr} {cp : Nat} {M : List Int} (h : Was b W q n N c xs Ws) (hk : k ≤ N) (hb : b < base) (hb2 : b < base2)
    (hm : W.ownsRow base 26 1 (.slice p n cp) n (wdC M)) (ho : W.ownsRow base2 22 1 (.slice q' (k + 1) d) (k + 1) (xs.take k ++ [.slice p n cp])) : Was b W q' n (k + 1) d (xs.take k ++ [.slice p n cp]) (Ws.take k ++ [M]) := by
  obtain ⟨p', c', e, hs⟩ := Sl.own hm
  injection e with e1 e2 e3
  subst e1 e3
  obtain ⟨p', c', e, hso⟩ := Sl.own ho
  injection e with e1 e2 e3
  subst e1 e3
  obtain ⟨p', c', e, hcap⟩ := own_cap ho
  injection e with e1 e2 e3
  subst e3
  refine ⟨Nat.succ_pos _, hcap, ?_, ?_, hso, own_offR ho hb2, fun j hj => ?_⟩
  · rw [List.length_append, List.length_take, h.len]; simp; omega
  · rw [List.length_append, List.length_take, h.wl]; simp; omega
  · by_cases e : j = k
    · subst e
      refine ⟨p, cp, ?_, ?_, own_offR hm hb, ?_⟩
      · rw [List.getElem?_append_right (by rw [List.length_take, h.len]; omega), List.length_take, h.len, show j - min j N = 0 by omega]; rfl
      · rw [List.getD_eq_getElem?_getD, List.getElem?_append_right (by rw [List.length_take, h.wl]; omega), List.length_take, h.wl, show j - min j N = 0 by omega]; exact hs
      · rw [List.getD_eq_getElem?_getD, List.getElem?_append_right (by rw [List.length_take, h.wl]; omega), List.length_take, h.wl, show j - min j N = 0 by omega]
        have := hm.1; rw [wdC_len, Nat.mul_one] at this; exact this
    · have hjk : j < k := by omega
      obtain ⟨p2, d2, h1, h2, h3, h4⟩ := h.rs j (by omega)
      have e2 : (Ws.take k ++ [M]).getD j [] = Ws.getD j [] := by
        rw [List.getD_eq_getElem?_getD, List.getD_eq_getElem?_getD, List.getElem?_append_left (by rw [List.length_take, h.wl]; omega), List.getElem?_take_of_lt hjk]
      refine ⟨p2, d2, ?_, by rw [e2]; exact h2, h3, by rw [e2]; exact h4⟩
      rw [List.getElem?_append_left (by rw [List.length_take, h.len]; omega), List.getElem?_take_of_lt hjk]; exact h1
/-- The walk's state. -/
structure UB (w W : World) (b : Nat) (L : Lg) (q : Option Addr) (n N c : Nat) (xs : List Value) (Ws : List (List Int)) : Prop where
  var : Var (fun R => R = b) W b L
  was : Was b W q n N c xs Ws
  hb : Below w.heap.size w W
  ge : w.heap.size ≤ b
theorem UB.below {w W W' : World} {b : Nat} {L : Lg} {q : Option Addr} {n N c : Nat} {xs : List Value} {Ws : List (List Int)} (h : UB w W b L q n N c xs Ws) (hb : Below W.heap.size W W') : UB w W' b L q n N c xs Ws :=
  ⟨h.var.below hb, h.was.below hb, h.hb.trans (hb.mono h.hb.size), h.ge⟩
theorem UB.put {w W : World} {b : Nat} {L L' : Lg} {q : Option Addr} {n N c : Nat} {xs : List Value} {Ws : List (List Int)} (h : UB w W b L q n N c xs Ws) {u0 u1 u2 : Value} (hl : Lo (fun R => R = b) W (.agg #[u0, u1, u2]) L') :
    UB w (((W.setCell ⟨b, 0, none⟩ u0).setCell ⟨b, 1, none⟩ u1).setCell ⟨b, 2, none⟩ u2) b L' q n N c xs Ws := by
  obtain ⟨p, m, c', q', n', d, hk, _⟩ := h.var
  exact ⟨Var.put hk hl rfl, ((h.was.set 0 u0).set 1 u1).set 2 u2, set3_below h.hb h.ge _ _ _, h.ge⟩
theorem UB.lt {w W : World} {b : Nat} {L : Lg} {q : Option Addr} {n N c : Nat} {xs : List Value} {Ws : List (List Int)} (h : UB w W b L q n N c xs Ws) : ∀ R, (fun R => R = b) R → R < W.heap.size := fun R hR => by rw [hR]; exact h.var.lt
/-- A log that a call has just answered, in a variable. -/
def FreshU (b : Nat) (w0 w : World) (b2 : Nat) (p : Option Addr) (m c : Nat) (s : Int) (q : Option Addr) (n d : Nat) (L : Lg) : Prop := w0.heap.size ≤ b2 ∧ Blk w b2 #[.slice p m c, .int .i64 s, .slice q n d] ∧ Lo (fun R => R = b) w (.agg #[.slice p m c, .int .i64 s, .slice q n d]) L ∧ Below w0.heap.size w0 w
theorem FreshU.first {b : Nat} {w0 w1 : World} {p q : Option Addr} {m c n d : Nat} {s : Int} {L : Lg} (hl : Lo (fun R => R = b) w1 (.agg #[.slice p m c, .int .i64 s, .slice q n d]) L) (hb : Below w0.heap.size w0 w1) : FreshU b w0 (w1.alloc (.cells #[.slice p m c, .int .i64 s, .slice q n d] 25)) w1.heap.size p m c s q n d L :=
  ⟨hb.size, Blk.new _ _ _, hl.below ((Below.refl _ _).alloc (Nat.le_refl _) _), hb.alloc hb.size _⟩
theorem FreshU.later {b : Nat} {w0 w1 w2 : World} {p q : Option Addr} {m c n d : Nat} {s : Int} {L : Lg} {a0 a1 a2 : Value} (h1 : w1 = w0.alloc (.cells #[a0, a1, a2] 25)) (hl : Lo (fun R => R < w1.heap.size) w2 (.agg #[.slice p m c, .int .i64 s, .slice q n d]) L) (hb : Below w1.heap.size w1 w2) (hbb : b < w0.heap.size) :
    FreshU b w0 (((w2.setCell ⟨w0.heap.size, 0, none⟩ (.slice p m c)).setCell ⟨w0.heap.size, 1, none⟩ (.int .i64 s)).setCell ⟨w0.heap.size, 2, none⟩ (.slice q n d)) w0.heap.size p m c s q n d L := by
  have hs : w1.heap.size = w0.heap.size + 1 := by rw [h1, size_new]
  have hk : Blk w2 w0.heap.size #[a0, a1, a2] := by
    have := (Blk.new w0 #[a0, a1, a2] 25)
    rw [← h1] at this
    exact this.below hb
  have hb0 : Below w0.heap.size w0 w2 := by
    have : Below w0.heap.size w0 w1 := by rw [h1]; exact (Below.refl _ _).alloc (Nat.le_refl _) _
    exact this.trans (hb.mono this.size)
  exact ⟨Nat.le_refl _, set3_same hk _ _ _, (hl.set3 (by show w0.heap.size < w1.heap.size; omega) _ _ _).weak (fun R hR => by rw [hR]; show b < w1.heap.size; omega), set3_below hb0 (Nat.le_refl _) _ _ _⟩
theorem FreshU.drew {b : Nat} {w0 w : World} {b2 : Nat} {p q : Option Addr} {m c n d : Nat} {s : Int} {L : Lg} (h : FreshU b w0.drew w b2 p m c s q n d L) : FreshU b w0 w b2 p m c s q n d L :=
  ⟨h.1, h.2.1, h.2.2.1, (Below.refl w0.heap.size w0).drew.trans h.2.2.2⟩
end Go.Proofs.Ytbgllkjhgjoodaa
