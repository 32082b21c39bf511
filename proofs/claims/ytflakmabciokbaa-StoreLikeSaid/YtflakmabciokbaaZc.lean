/- Laid together, in this order: UnQ, UnOpen, ParNum, ParX, StNum, ParA, ParB, ParC, ParD, ParE. -/
import Derived.Test.YtflakmabciokbaaZb
import Derived.ArgAppend
import Derived.OpenShut
import Derived.ProofKit
import Derived.Deep.Slices
import Derived.Test.YtflakmabciokbaaRows
import Derived.WalkSpells
import Derived.Outline
import Derived.Laws.CopyOwn
import Derived.Deep.WholeRow
import Derived.OwnWalk
import Derived.BigGuardPart
import Derived.Deep.RegionLaw
import Derived.Lib.SliceRun
import Derived.BigQuiet
import Derived.Deep.CutBlock
import Derived.Deep.DeepCutAuto
import Derived.Deep.RegionHeld3
set_option linter.unusedSimpArgs false
set_option linter.unusedVariables false
/- UndoBack: what its walk carries along; no condition. -/
namespace Go.Proofs.Ytflakmabciokbaa.Ud
set_option linter.unusedVariables false
open Go.ChangeShapes Go.WideShapes Go.ChangeAt Go.RowKit

theorem op_store {P : Program} {ops : Array Oper} {Q : Exit → Act → World → Prop} {i : Nat} {a : Act} {w w1 : World} {o : Oper} {K : Act → World → Prop} (ho : ops[i]? = some o) (hw : Region.wanted o (yielded ops a.tmps) = true) (hr : (execOp a.eval o).run P w = .ok .skip w1) (h : K (a.put o.dst undef) w1) : wpOp P ops Q i K a w := by
  unfold wpOp
  simp only [ho, hw, if_true, Oper.wp, hr, Oper.upon]
  exact .inl h
theorem info22 : (Try.prog.info? 23).map (fun i => (i.zero, i.size, i.bytes)) = some (some (.slice none 0 0), 1, 24) := by kernel_rfl
theorem size22 (W : World) : (sizeOf (Try.prog.elem 22)).run Try.prog W = .ok 1 W := by
  obtain ⟨i0, hi, _, hz1, _⟩ := info_parts info22
  have e : Try.prog.elem 22 = 23 := by kernel_rfl
  rw [e]
  simp [sizeOf, typeInfo, hi, hz1]
/-- s[:k:k]. -/
theorem cut_hh (q : Option Addr) (n d k : Nat) (hk : k ≤ n) (hd : n ≤ d) : (∀ W, (Instr.slice 22 (.slice q n d) none (some (.int .i64 (k : Int))) (some (.int .i64 (k : Int)))).run Try.prog W = .ok (.slice q k k) W) ∧ True := by
  have he : Try.prog.underlying 22 = some (.slice (Try.prog.elem 22)) := by kernel_rfl
  refine ⟨fun W => ?_, trivial⟩
  have h1 : (k : Int) ≤ (d : Int) := by omega
  simp [Instr.slice, run_underlying he, Instr.sliceBounds, run_sliceBound, sliced, size22, h1, Result.andThen]
  intro _
  cases q with
  | none => rfl
  | some A => simp [Addr.add]
structure Dt where
  kind : Nat
  a : Nat
  t : Nat
  v : Nat
def Dt.row (x : Dt) : Array Value := #[.int .u8 x.kind, .int .u8 x.a, .int .u8 x.t, .int .u32 x.v]
def Dt.Fits (x : Dt) : Prop := x.kind < 256 ∧ x.a < 256 ∧ x.t < 256 ∧ x.v < 4294967296
def dt0 : Dt := ⟨0, 0, 0, 0⟩
/-- n elements of sz cells each lie behind p. -/
def Els (w : World) (p : Option Addr) (sz n : Nat) (g : Nat → Array Value) : Prop :=
  0 < n → ∃ b off, b < w.heap.size ∧ p = some ⟨b, off, none⟩ ∧ ∀ k, k < n → ∀ j, j < sz → w.cell? ⟨b, off + k * sz + j, none⟩ = (g k)[j]?

/-- Memories as they were, as rows of words, none of them in block b. -/
structure Was (b : Nat) (w : World) (q : Option Addr) (n N c : Nat) (xs : List Value) (Ws : List (List Int)) : Prop where
  n1 : 0 < N
  cap : N ≤ c
  len : xs.length = N
  wl : Ws.length = N
  sl : Sl w q N xs
  off : Off b q N
  rs : ∀ j, j < N → ∃ p d, xs[j]? = some (.slice p n d) ∧ Sl w p n (wdC (Ws.getD j [])) ∧ Off b p n ∧ (Ws.getD j []).length = n
theorem Was.below {b : Nat} {w w' : World} {q : Option Addr} {n N c : Nat} {xs : List Value} {Ws : List (List Int)} (h : Was b w q n N c xs Ws) (hb : Below w.heap.size w w') : Was b w' q n N c xs Ws :=
  ⟨h.n1, h.cap, h.len, h.wl, h.sl.below hb, h.off, fun j hj => by
    obtain ⟨p, d, h1, h2, h3, h4⟩ := h.rs j hj
    exact ⟨p, d, h1, h2.below hb, h3, h4⟩⟩
theorem Was.set {b : Nat} {w : World} {q : Option Addr} {n N c : Nat} {xs : List Value} {Ws : List (List Int)} (h : Was b w q n N c xs Ws) (j : Nat) (u : Value) : Was b (w.setCell ⟨b, j, none⟩ u) q n N c xs Ws :=
  ⟨h.n1, h.cap, h.len, h.wl, h.sl.set h.off j u, h.off, fun i hi => by
    obtain ⟨p, d, h1, h2, h3, h4⟩ := h.rs i hi
    exact ⟨p, d, h1, h2.set h3 j u, h3, h4⟩⟩
theorem Was.one {b : Nat} {w : World} {q : Option Addr} {n N c : Nat} {xs : List Value} {Ws : List (List Int)} (h : Was b w q n N c xs Ws) : ∀ u ∈ xs, u.oneCell' = true := by
  intro u hu
  obtain ⟨j, hj, rfl⟩ := List.getElem_of_mem hu
  obtain ⟨p, d, h1, _⟩ := h.rs j (by rw [← h.len]; exact hj)
  rw [List.getElem?_eq_getElem hj] at h1
  injection h1 with h1
  rw [h1]; rfl
theorem Was.at_ {b : Nat} {w : World} {q : Option Addr} {n N c : Nat} {xs : List Value} {Ws : List (List Int)} (h : Was b w q n N c xs Ws) (j : Nat) (hj : j < N) : ∃ g off p d, q = some ⟨g, off, none⟩ ∧ g < w.heap.size ∧ w.cell? ⟨g, off + j, none⟩ = some (.slice p n d) ∧ Sl w p n (wdC (Ws.getD j [])) ∧ (Ws.getD j []).length = n := by
  obtain ⟨g, off, h1, h2, h3⟩ := h.sl h.n1
  obtain ⟨p, d, h4, h5, _, h6⟩ := h.rs j hj
  exact ⟨g, off, p, d, h2, h1, (h3 j (by rw [h.len]; exact hj)).trans h4, h5, h6⟩
/-- The first one. -/
theorem Was.new {b : Nat} {W : World} {base n c : Nat} {M : List Int} (hb : b < base) {p : Option Addr} (hm : W.ownsRow base 29 1 (.slice p n c) n (wdC M)) {G : Nat} (hG : Blk W G #[.slice p n c]) (hGb : b < G) : Was b W (some ⟨G, 0, none⟩) n 1 1 [.slice p n c] [M] := by
  obtain ⟨p', c', e, hs⟩ := Sl.own hm
  injection e with e1 e2 e3
  subst e1 e3
  refine ⟨Nat.one_pos, Nat.le_refl _, rfl, rfl, fun _ => ⟨G, 0, hG.lt, rfl, fun j hj => ?_⟩, fun _ a e => ?_, fun j hj => ?_⟩
  · rw [Nat.zero_add, hG.c j]; simp
  · injection e with e; subst e; show G ≠ b; omega
  · have : j = 0 := by omega
    subst this
    exact ⟨p, c, rfl, hs, own_offR hm hb, by have := hm.1; rw [wdC_len, Nat.mul_one] at this; exact this⟩
/-- One more, behind the first k. -/
theorem Was.more {b : Nat} {w W : World} {q q' : Option Addr} {n N c d : Nat} {xs : List Value} {Ws : List (List Int)} {k base base2 : Nat} {p : Option Addr} {cp : Nat} {M : List Int} (h : Was b W q n N c xs Ws) (hk : k ≤ N) (hb : b < base) (hb2 : b < base2)
    (hm : W.ownsRow base 29 1 (.slice p n cp) n (wdC M)) (ho : W.ownsRow base2 23 1 (.slice q' (k + 1) d) (k + 1) (xs.take k ++ [.slice p n cp])) : Was b W q' n (k + 1) d (xs.take k ++ [.slice p n cp]) (Ws.take k ++ [M]) := by
  obtain ⟨p', c', e, hs⟩ := Sl.own hm
  injection e with e1 e2 e3
  subst e1 e3
  obtain ⟨p', c', e, hso⟩ := Sl.own ho
  injection e with e1 e2 e3
  subst e1 e3
  obtain ⟨p', c', e, hcap⟩ := own_cap ho
  injection e with e1 e2 e3
  subst e3
  refine ⟨Nat.succ_pos _, hcap, ?_, ?_, hso, own_offR ho hb2, fun j hj => ?_⟩
  · rw [List.length_append, List.length_take, h.len]; simp; omega
  · rw [List.length_append, List.length_take, h.wl]; simp; omega
  · by_cases e : j = k
    · subst e
      refine ⟨p, cp, ?_, ?_, own_offR hm hb, ?_⟩
      · rw [List.getElem?_append_right (by rw [List.length_take, h.len]; omega), List.length_take, h.len, show j - min j N = 0 by omega]; rfl
      · rw [List.getD_eq_getElem?_getD, List.getElem?_append_right (by rw [List.length_take, h.wl]; omega), List.length_take, h.wl, show j - min j N = 0 by omega]; exact hs
      · rw [List.getD_eq_getElem?_getD, List.getElem?_append_right (by rw [List.length_take, h.wl]; omega), List.length_take, h.wl, show j - min j N = 0 by omega]
        have := hm.1; rw [wdC_len, Nat.mul_one] at this; exact this
    · have hjk : j < k := by omega
      obtain ⟨p2, d2, h1, h2, h3, h4⟩ := h.rs j (by omega)
      have e2 : (Ws.take k ++ [M]).getD j [] = Ws.getD j [] := by
        rw [List.getD_eq_getElem?_getD, List.getD_eq_getElem?_getD, List.getElem?_append_left (by rw [List.length_take, h.wl]; omega), List.getElem?_take_of_lt hjk]
      refine ⟨p2, d2, ?_, by rw [e2]; exact h2, h3, by rw [e2]; exact h4⟩
      rw [List.getElem?_append_left (by rw [List.length_take, h.len]; omega), List.getElem?_take_of_lt hjk]; exact h1
/-- The walk's state. -/
structure UB (w W : World) (b : Nat) (L : Lg) (q : Option Addr) (n N c : Nat) (xs : List Value) (Ws : List (List Int)) : Prop where
  var : Var (fun R => R = b) W b L
  was : Was b W q n N c xs Ws
  hb : Below w.heap.size w W
  ge : w.heap.size ≤ b
theorem UB.below {w W W' : World} {b : Nat} {L : Lg} {q : Option Addr} {n N c : Nat} {xs : List Value} {Ws : List (List Int)} (h : UB w W b L q n N c xs Ws) (hb : Below W.heap.size W W') : UB w W' b L q n N c xs Ws :=
  ⟨h.var.below hb, h.was.below hb, h.hb.trans (hb.mono h.hb.size), h.ge⟩
theorem UB.put {w W : World} {b : Nat} {L L' : Lg} {q : Option Addr} {n N c : Nat} {xs : List Value} {Ws : List (List Int)} (h : UB w W b L q n N c xs Ws) {u0 u1 u2 : Value} (hl : Lo (fun R => R = b) W (.agg #[u0, u1, u2]) L') :
    UB w (((W.setCell ⟨b, 0, none⟩ u0).setCell ⟨b, 1, none⟩ u1).setCell ⟨b, 2, none⟩ u2) b L' q n N c xs Ws := by
  obtain ⟨p, m, c', q', n', d, hk, _⟩ := h.var
  exact ⟨Var.put hk hl rfl, ((h.was.set 0 u0).set 1 u1).set 2 u2, set3_below h.hb h.ge _ _ _, h.ge⟩
theorem UB.lt {w W : World} {b : Nat} {L : Lg} {q : Option Addr} {n N c : Nat} {xs : List Value} {Ws : List (List Int)} (h : UB w W b L q n N c xs Ws) : ∀ R, (fun R => R = b) R → R < W.heap.size := fun R hR => by rw [hR]; exact h.var.lt
/-- A log that a call has just answered, in a variable. -/
def FreshU (b : Nat) (w0 w : World) (b2 : Nat) (p : Option Addr) (m c : Nat) (s : Int) (q : Option Addr) (n d : Nat) (L : Lg) : Prop := w0.heap.size ≤ b2 ∧ Blk w b2 #[.slice p m c, .int .i64 s, .slice q n d] ∧ Lo (fun R => R = b) w (.agg #[.slice p m c, .int .i64 s, .slice q n d]) L ∧ Below w0.heap.size w0 w
theorem FreshU.first {b : Nat} {w0 w1 : World} {p q : Option Addr} {m c n d : Nat} {s : Int} {L : Lg} (hl : Lo (fun R => R = b) w1 (.agg #[.slice p m c, .int .i64 s, .slice q n d]) L) (hb : Below w0.heap.size w0 w1) : FreshU b w0 (w1.alloc (.cells #[.slice p m c, .int .i64 s, .slice q n d] 59)) w1.heap.size p m c s q n d L :=
  ⟨hb.size, Blk.new _ _ _, hl.below ((Below.refl _ _).alloc (Nat.le_refl _) _), hb.alloc hb.size _⟩
theorem FreshU.later {b : Nat} {w0 w1 w2 : World} {p q : Option Addr} {m c n d : Nat} {s : Int} {L : Lg} {a0 a1 a2 : Value} (h1 : w1 = w0.alloc (.cells #[a0, a1, a2] 59)) (hl : Lo (fun R => R < w1.heap.size) w2 (.agg #[.slice p m c, .int .i64 s, .slice q n d]) L) (hb : Below w1.heap.size w1 w2) (hbb : b < w0.heap.size) :
    FreshU b w0 (((w2.setCell ⟨w0.heap.size, 0, none⟩ (.slice p m c)).setCell ⟨w0.heap.size, 1, none⟩ (.int .i64 s)).setCell ⟨w0.heap.size, 2, none⟩ (.slice q n d)) w0.heap.size p m c s q n d L := by
  have hs : w1.heap.size = w0.heap.size + 1 := by rw [h1, size_new]
  have hk : Blk w2 w0.heap.size #[a0, a1, a2] := by
    have := (Blk.new w0 #[a0, a1, a2] 59)
    rw [← h1] at this
    exact this.below hb
  have hb0 : Below w0.heap.size w0 w2 := by
    have : Below w0.heap.size w0 w1 := by rw [h1]; exact (Below.refl _ _).alloc (Nat.le_refl _) _
    exact this.trans (hb.mono this.size)
  exact ⟨Nat.le_refl _, set3_same hk _ _ _, (hl.set3 (by show w0.heap.size < w1.heap.size; omega) _ _ _).weak (fun R hR => by rw [hR]; show b < w1.heap.size; omega), set3_below hb0 (Nat.le_refl _) _ _ _⟩
theorem FreshU.drew {b : Nat} {w0 w : World} {b2 : Nat} {p q : Option Addr} {m c n d : Nat} {s : Int} {L : Lg} (h : FreshU b w0.drew w b2 p m c s q n d L) : FreshU b w0 w b2 p m c s q n d L :=
  ⟨h.1, h.2.1, h.2.2.1, (Below.refl w0.heap.size w0).drew.trans h.2.2.2⟩
end Go.Proofs.Ytflakmabciokbaa.Ud
/- What an argument that is bytes, or things to be done, reads as; no condition. -/
namespace Go.Proofs.Ytflakmabciokbaa.Ud
set_option linter.unusedVariables false
open Go.ChangeShapes Go.WideShapes Go.ChangeAt Go.RowKit Go.Deep

theorem cells_u8 : Try.prog.cellsOf 5 = 1 := by kernel_rfl
theorem cells_int : Try.prog.cellsOf 3 = 1 := by kernel_rfl
theorem cells_u32 : Try.prog.cellsOf 29 = 1 := by kernel_rfl
theorem cells_do : Try.prog.cellsOf 56 = 4 := by kernel_rfl
section
variable {H : Type} {enc : TypeId × Value → H} {w : World} {base : Nat} {spare : Nat → Bool} {held : Bool}

theorem add_zero_spot {a : Addr} {v : Value} (h : w.cell? (a.add 0) = some v) : a.block < w.heap.size ∧ a = ⟨a.block, a.off, none⟩ := by
  have hs : a.spot = none := by simpa [Addr.add] using World.cell?_spot h
  obtain ⟨b, o, s⟩ := a
  simp only at hs
  subst hs
  refine ⟨?_, rfl⟩
  have h0 : w.cell? ⟨b, o, none⟩ = some v := by simpa [Addr.add] using h
  by_cases hb : b < w.heap.size
  · exact hb
  · simp [World.cell?, Array.getElem?_eq_none (show w.heap.size ≤ b by omega)] at h0
theorem add_plain (b o k : Nat) : (⟨b, o, none⟩ : Addr).add k = ⟨b, o + k, none⟩ := by unfold Addr.add; split <;> simp_all
set_option maxRecDepth 100000 in
theorem do_of_cells {fuel : Nat} {cs : List Value} {x : DataW H × List MemPlace} (h : DataW.trod enc Try.prog w base spare held fuel 56 cs = some x) :
    ∃ y : Dt, cs = y.row.toList ∧ y.Fits := by
  obtain ⟨xs, n, _, _, hlen, hxl, hf⟩ := DataW.trod_struct Try.underlying56 h
  rw [cells_do] at hlen
  match cs, hlen with
  | [v0, v1, v2, v3], _ =>
    match xs, hxl with
    | [y0, y1, y2, y3], _ =>
      have e0 : DataW.trod enc Try.prog w base spare held n 5 [v0] = some y0 := by simpa [cells_u8, cells_u32] using hf 0 _ rfl
      have e1 : DataW.trod enc Try.prog w base spare held n 5 [v1] = some y1 := by simpa [cells_u8, cells_u32] using hf 1 _ rfl
      have e2 : DataW.trod enc Try.prog w base spare held n 5 [v2] = some y2 := by simpa [cells_u8, cells_u32] using hf 2 _ rfl
      have e3 : DataW.trod enc Try.prog w base spare held n 29 [v3] = some y3 := by simpa [cells_u8, cells_u32] using hf 3 _ rfl
      obtain ⟨x0, q0, _, wf0⟩ := DataW.trod_int Try.underlying5 e0
      obtain ⟨x1, q1, _, wf1⟩ := DataW.trod_int Try.underlying5 e1
      obtain ⟨x2, q2, _, wf2⟩ := DataW.trod_int Try.underlying5 e2
      obtain ⟨x3, q3, _, wf3⟩ := DataW.trod_int Try.underlying29 e3
      have b0 := bounds_u8 wf0
      have b1 := bounds_u8 wf1
      have b2 := bounds_u8 wf2
      have b3 := bounds_u32 wf3
      simp at q0 q1 q2 q3
      subst q0 q1 q2 q3
      obtain ⟨n0, rfl⟩ := Int.eq_ofNat_of_zero_le b0.1
      obtain ⟨n1, rfl⟩ := Int.eq_ofNat_of_zero_le b1.1
      obtain ⟨n2, rfl⟩ := Int.eq_ofNat_of_zero_le b2.1
      obtain ⟨n3, rfl⟩ := Int.eq_ofNat_of_zero_le b3.1
      exact ⟨⟨n0, n1, n2, n3⟩, rfl, by show n0 < 256; omega, by show n1 < 256; omega, by show n2 < 256; omega, by show n3 < 4294967296; omega⟩
theorem dos_of_cells {fuel : Nat} {p : Option Addr} {len cap : Nat} {x : DataW H × List MemPlace} (h : DataW.trod enc Try.prog w base spare held fuel 54 [.slice p len cap] = some x) :
    ∃ ps : List Dt, ps.length = len ∧ len ≤ maxLen ∧ (∀ y ∈ ps, y.Fits) ∧ Els w p 4 len (fun k => (ps.getD k dt0).row) := by
  rcases open_slice Try.underlying54 h with ⟨hcs, _⟩ | ⟨a, len', cap', m, n, D, Pl, hcs, _, hl, hm, hmm, _, hi⟩
  · simp at hcs
    obtain ⟨rfl, rfl, rfl⟩ := hcs
    exact ⟨[], rfl, Nat.zero_le _, fun m hm => (by cases hm), fun h0 => absurd h0 (Nat.lt_irrefl 0)⟩
  · simp at hcs
    obtain ⟨rfl, rfl, rfl⟩ := hcs
    have hlm : len ≤ m := by rw [hmm]; split <;> omega
    have hex : ∀ i, i < len → ∃ y : Dt, (∀ j, j < 4 → w.cell? ((a.add (i * 4)).add j) = y.row.toList[j]?) ∧ y.Fits := fun i hlt => by
      obtain ⟨cs', hc, ht⟩ := hi i (by omega)
      rw [cells_do] at hc
      obtain ⟨y, rfl, hy0⟩ := do_of_cells ht
      exact ⟨y, (World.cells?_some hc).2.2, hy0⟩
    have : Inhabited Dt := ⟨dt0⟩
    obtain ⟨f, hf⟩ := choose_lt hex
    refine ⟨(List.range len).map f, by simp, Nat.le_trans hl hm, fun m hm => ?_, fun h0 => ?_⟩
    · obtain ⟨i, hi', rfl⟩ := List.mem_map.1 hm
      exact (hf i (List.mem_range.1 hi')).2
    · have hc0 := (hf 0 h0).1 0 (by omega)
      have hz : (a.add (0 * 4)).add 0 = a.add 0 := by simp [Addr.add]
      rw [hz] at hc0
      obtain ⟨hlt, ha⟩ := add_zero_spot (v := .int .u8 (f 0).kind) (by rw [hc0]; rfl)
      refine ⟨a.block, a.off, hlt, by rw [← ha], fun k hk j hj => ?_⟩
      have := (hf k hk).1 j hj
      rw [ha, add_plain, add_plain] at this
      rw [this]
      simp [List.getD, hk]
end
end Go.Proofs.Ytflakmabciokbaa.Ud
/- Plain numbers for layer 7: what banks are, when they are right, and what they become; no program is run here; no condition. -/
namespace Go.Proofs.Ytflakmabciokbaa
set_option linter.unusedVariables false
open Go.RowKit

/-- Banks. -/
structure Bk where
  rows : List (List Nat)
  par : List Nat
  lost : Int
/-- What the first k rows, but one, are together at a place. -/
def colK (rows : List (List Nat)) (a : Nat) (but : Int) : Nat → Nat
  | 0 => 0
  | k + 1 => if (k : Int) = but then colK rows a but k else colK rows a but k ^^^ (rows.getD k []).getD a 0
def colX (rows : List (List Nat)) (a : Nat) (but : Int) : Nat := colK rows a but rows.length
def togL (rows : List (List Nat)) (m : Nat) : List Nat := (List.range m).map fun a => colX rows a (-1)
def zeroB (l : List Nat) : Bool := l.all fun x => decide (x = 0)
def mayN (n m : Int) : Bool := decide (1 ≤ n ∧ n ≤ 8 ∧ 1 ≤ m ∧ m ≤ 64)
def allB (rows : List (List Nat)) (m : Nat) : Bool := rows.all fun r => decide (r.length = m)
def sizedB (B : Bk) : Bool := mayN B.rows.length B.par.length && allB B.rows B.par.length
def fineB (B : Bk) : Bool := if B.lost = 0 then decide (B.par = togL B.rows B.par.length) else zeroB (B.rows.getD (B.lost - 1).toNat [])
def rightB (B : Bk) : Bool := sizedB B && (decide (0 ≤ B.lost ∧ B.lost ≤ B.rows.length) && fineB B)
def hasB (B : Bk) (k : Int) : Bool := rightB B && decide (0 ≤ k ∧ k < B.rows.length)
def hasW (B : Bk) (k a : Int) : Bool := hasB B k && decide (0 ≤ a ∧ a < B.par.length)
def wordB (B : Bk) (k a : Int) : Nat := (B.rows.getD k.toNat []).getD a.toNat 0
def readN (B : Bk) (k a : Int) : Nat := if hasW B k a then (if B.lost = k + 1 then 0 else wordB B k a) else 0
def readE (B : Bk) (k a : Int) : Int := if hasW B k a then (if B.lost = k + 1 then 8 else 0) else 1
def putB (B : Bk) (k a : Int) (v : Nat) : Bk := ⟨B.rows.set k.toNat ((B.rows.getD k.toNat []).set a.toNat v), B.par.set a.toNat (B.par.getD a.toNat 0 ^^^ (wordB B k a ^^^ v)), B.lost⟩
def writeB (B : Bk) (k a : Int) (v : Nat) : Bk := if hasW B k a then (if B.lost = 0 then putB B k a v else B) else B
def writeE (B : Bk) (k a : Int) : Int := if hasW B k a then (if B.lost = 0 then 0 else 8) else 1
def loseB (B : Bk) (k : Int) : Bk := if hasB B k then (if B.lost = 0 then ⟨B.rows.set k.toNat (List.replicate B.par.length 0), B.par, k + 1⟩ else B) else B
def loseE (B : Bk) (k : Int) : Int := if hasB B k then (if B.lost = 0 then 0 else 8) else 1
def backL (B : Bk) : List Nat := (List.range B.par.length).map fun a => B.par.getD a 0 ^^^ colX B.rows a (-1)
def rebuildB (B : Bk) : Bk := if rightB B then (if B.lost = 0 then B else ⟨B.rows.set (B.lost - 1).toNat (backL B), B.par, 0⟩) else B
def rebuildE (B : Bk) : Int := if rightB B then (if B.lost = 0 then 8 else 0) else 1
def newB (n m : Int) : Bk := if mayN n m then ⟨List.replicate n.toNat (List.replicate m.toNat 0), List.replicate m.toNat 0, 0⟩ else ⟨[], [], 0⟩
def newE (n m : Int) : Int := if mayN n m then 0 else 1

theorem xor_lt (a b : Nat) (ha : a < 4294967296) (hb : b < 4294967296) : a ^^^ b < 4294967296 := Nat.xor_lt_two_pow (n := 32) ha hb
theorem mem_getD {α : Type} (L : List α) (d : α) (k : Nat) (h : k < L.length) : L.getD k d ∈ L := by
  rw [List.getD_eq_getElem?_getD, List.getElem?_eq_getElem h]; exact List.getElem_mem h
theorem drop_getD {α : Type} (L : List α) (d : α) (k : Nat) (h : k < L.length) : L.drop k = L.getD k d :: L.drop (k + 1) := by
  rw [List.drop_eq_getElem_cons h, List.getD_eq_getElem?_getD, List.getElem?_eq_getElem h]; rfl
theorem take_getD {α : Type} (L : List α) (d : α) (k : Nat) (h : k < L.length) : L.take (k + 1) = L.take k ++ [L.getD k d] := by
  rw [List.take_succ_eq_append_getElem h, List.getD_eq_getElem?_getD, List.getElem?_eq_getElem h]; rfl
theorem getD_set {α : Type} (L : List α) (d v : α) (k j : Nat) (hk : k < L.length) : (L.set k v).getD j d = if j = k then v else L.getD j d := by
  simp only [List.getD_eq_getElem?_getD, List.getElem?_set]
  by_cases h : j = k
  · subst h; simp [hk]
  · rw [if_neg h, if_neg (fun e => h e.symm)]
theorem getD_append1 {α : Type} (L : List α) (d v : α) (j : Nat) : (L ++ [v]).getD j d = if j < L.length then L.getD j d else if j = L.length then v else d := by
  simp only [List.getD_eq_getElem?_getD]
  by_cases h : j < L.length
  · rw [if_pos h, List.getElem?_append_left h]
  · rw [if_neg h, List.getElem?_append_right (by omega)]
    by_cases h2 : j = L.length
    · rw [if_pos h2]; subst h2; simp
    · rw [if_neg h2, List.getElem?_eq_none (by simp; omega)]; rfl
theorem getD_map {α : Type} (m : Nat) (f : Nat → α) (d : α) (k : Nat) (h : k < m) : ((List.range m).map f).getD k d = f k := by simp [List.getD, h]
theorem ext_getD {l l' : List Nat} (h : l.length = l'.length) (h2 : ∀ k, k < l.length → l.getD k 0 = l'.getD k 0) : l = l' := by
  refine List.ext_getElem h fun k h3 h4 => ?_
  have := h2 k h3
  rwa [List.getD_eq_getElem?_getD, List.getD_eq_getElem?_getD, List.getElem?_eq_getElem h3, List.getElem?_eq_getElem h4] at this
theorem ext_rows {l l' : List (List Nat)} (h : l.length = l'.length) (h2 : ∀ k, k < l.length → l.getD k [] = l'.getD k []) : l = l' := by
  refine List.ext_getElem h fun k h3 h4 => ?_
  have := h2 k h3
  rwa [List.getD_eq_getElem?_getD, List.getD_eq_getElem?_getD, List.getElem?_eq_getElem h3, List.getElem?_eq_getElem h4] at this
theorem getD_rep {α : Type} (n : Nat) (v d : α) (k : Nat) (h : k < n) : (List.replicate n v).getD k d = v := by simp [List.getD, h]
theorem getD_rep0 (n k : Nat) : (List.replicate n 0).getD k 0 = 0 := by
  by_cases h : k < n
  · exact getD_rep n 0 0 k h
  · simp [List.getD, List.getElem?_replicate, h]

theorem colK_lt (rows : List (List Nat)) (a : Nat) (but : Int) (h : ∀ r ∈ rows, ∀ x ∈ r, x < 4294967296) (k : Nat) (hk : k ≤ rows.length) : colK rows a but k < 4294967296 := by
  induction k with
  | zero => show 0 < 4294967296; decide
  | succ k ih =>
    unfold colK
    split
    · exact ih (by omega)
    · refine xor_lt _ _ (ih (by omega)) ?_
      by_cases ha : a < (rows.getD k []).length
      · exact h _ (mem_getD rows [] k (by omega)) _ (mem_getD _ 0 a ha)
      · rw [List.getD_eq_getElem?_getD, List.getElem?_eq_none (by omega)]; decide
theorem colK_congr {rows rows' : List (List Nat)} {a : Nat} {but : Int} (k : Nat) (h : ∀ j, j < k → (j : Int) ≠ but → (rows.getD j []).getD a 0 = (rows'.getD j []).getD a 0) : colK rows a but k = colK rows' a but k := by
  induction k with
  | zero => rfl
  | succ k ih =>
    unfold colK
    by_cases e : (k : Int) = but
    · rw [if_pos e, if_pos e]; exact ih fun j hj => h j (by omega)
    · rw [if_neg e, if_neg e, ih fun j hj => h j (by omega), h k (by omega) e]
/-- One of the rows, and the others. -/
theorem colK_but (rows : List (List Nat)) (a b : Nat) (k : Nat) : colK rows a (-1) k = if b < k then colK rows a (b : Int) k ^^^ (rows.getD b []).getD a 0 else colK rows a (b : Int) k := by
  induction k with
  | zero => rfl
  | succ k ih =>
    have e1 : colK rows a (-1) (k + 1) = colK rows a (-1) k ^^^ (rows.getD k []).getD a 0 := by
      show (if (k : Int) = -1 then _ else _) = _
      rw [if_neg (by omega)]
    rw [e1, ih]
    by_cases hb : b = k
    · subst hb
      have e2 : colK rows a (b : Int) (b + 1) = colK rows a (b : Int) b := by
        show (if (b : Int) = b then _ else _) = _
        rw [if_pos rfl]
      rw [if_neg (Nat.lt_irrefl b), if_pos (by omega), e2]
    · have e2 : colK rows a (b : Int) (k + 1) = colK rows a (b : Int) k ^^^ (rows.getD k []).getD a 0 := by
        show (if (k : Int) = b then _ else _) = _
        rw [if_neg (by omega)]
      rw [e2]
      by_cases hlt : b < k
      · rw [if_pos hlt, if_pos (by omega), Nat.xor_assoc, Nat.xor_comm ((rows.getD b []).getD a 0), ← Nat.xor_assoc]
      · rw [if_neg hlt, if_neg (by omega)]
theorem colX_but (rows : List (List Nat)) (a b : Nat) (h : b < rows.length) : colX rows a (-1) = colX rows a (b : Int) ^^^ (rows.getD b []).getD a 0 := by
  unfold colX; rw [colK_but rows a b, if_pos h]
/-- What is together, where one row becomes another one. -/
theorem colX_set (rows : List (List Nat)) (a b : Nat) (r : List Nat) (h : b < rows.length) : colX (rows.set b r) a (-1) = colX rows a (-1) ^^^ ((rows.getD b []).getD a 0 ^^^ r.getD a 0) := by
  have e : colX (rows.set b r) a (b : Int) = colX rows a (b : Int) := by
    unfold colX
    rw [List.length_set]
    refine colK_congr _ fun j hj hne => ?_
    rw [getD_set _ _ _ _ _ h, if_neg (by omega)]
  rw [colX_but _ a b (by rw [List.length_set]; exact h), colX_but rows a b h, e, getD_set _ _ _ _ _ h, if_pos rfl, Nat.xor_assoc, ← Nat.xor_assoc ((rows.getD b []).getD a 0), Nat.xor_self, Nat.zero_xor]
theorem togL_len (rows : List (List Nat)) (m : Nat) : (togL rows m).length = m := by unfold togL; simp
theorem togL_at (rows : List (List Nat)) (m a : Nat) (h : a < m) : (togL rows m).getD a 0 = colX rows a (-1) := by unfold togL; exact getD_map m _ 0 a h
theorem togL_lt (rows : List (List Nat)) (m : Nat) (h : ∀ r ∈ rows, ∀ x ∈ r, x < 4294967296) : ∀ x ∈ togL rows m, x < 4294967296 := by
  intro x hx
  obtain ⟨a, _, rfl⟩ := List.mem_map.1 hx
  exact colK_lt rows a _ h _ (Nat.le_refl _)

theorem may_inv {n m : Int} (h : mayN n m = true) : 1 ≤ n ∧ n ≤ 8 ∧ 1 ≤ m ∧ m ≤ 64 := by unfold mayN at h; simpa using h
theorem zero_inv {l : List Nat} (h : zeroB l = true) (k : Nat) : l.getD k 0 = 0 := by
  by_cases hk : k < l.length
  · unfold zeroB at h; rw [List.all_eq_true] at h; simpa using h _ (mem_getD l 0 k hk)
  · rw [List.getD_eq_getElem?_getD, List.getElem?_eq_none (by omega)]; rfl
theorem zero_of {l : List Nat} (h : ∀ k, k < l.length → l.getD k 0 = 0) : zeroB l = true := by
  unfold zeroB; rw [List.all_eq_true]
  intro x hx
  obtain ⟨k, hk, rfl⟩ := List.getElem_of_mem hx
  have := h k hk
  rw [List.getD_eq_getElem?_getD, List.getElem?_eq_getElem hk] at this
  simpa using this
theorem all_inv {rows : List (List Nat)} {m : Nat} (h : allB rows m = true) : ∀ r ∈ rows, r.length = m := by
  unfold allB at h; rw [List.all_eq_true] at h
  intro r hr; simpa using h r hr
theorem all_at {rows : List (List Nat)} {m : Nat} (h : allB rows m = true) (k : Nat) (hk : k < rows.length) : (rows.getD k []).length = m := all_inv h _ (mem_getD rows [] k hk)
theorem all_of {rows : List (List Nat)} {m : Nat} (h : ∀ k, k < rows.length → (rows.getD k []).length = m) : allB rows m = true := by
  unfold allB; rw [List.all_eq_true]
  intro r hr
  obtain ⟨k, hk, rfl⟩ := List.getElem_of_mem hr
  have := h k hk
  rw [List.getD_eq_getElem?_getD, List.getElem?_eq_getElem hk] at this
  simpa using this
theorem right_inv {B : Bk} (h : rightB B = true) : 1 ≤ B.rows.length ∧ B.rows.length ≤ 8 ∧ 1 ≤ B.par.length ∧ B.par.length ≤ 64 ∧ allB B.rows B.par.length = true ∧ 0 ≤ B.lost ∧ B.lost ≤ B.rows.length ∧ fineB B = true := by
  unfold rightB sizedB at h
  simp only [Bool.and_eq_true, decide_eq_true_eq] at h
  obtain ⟨⟨h1, h2⟩, h3, h4⟩ := h
  have := may_inv h1
  exact ⟨by omega, by omega, by omega, by omega, h2, h3.1, h3.2, h4⟩
theorem right_of {B : Bk} (h1 : 1 ≤ B.rows.length) (h2 : B.rows.length ≤ 8) (h3 : 1 ≤ B.par.length) (h4 : B.par.length ≤ 64) (h5 : allB B.rows B.par.length = true) (h6 : 0 ≤ B.lost) (h7 : B.lost ≤ B.rows.length) (h8 : fineB B = true) : rightB B = true := by
  unfold rightB sizedB mayN
  simp only [Bool.and_eq_true, decide_eq_true_eq]
  exact ⟨⟨by omega, h5⟩, ⟨h6, h7⟩, h8⟩
theorem hasB_inv {B : Bk} {k : Int} (h : hasB B k = true) : rightB B = true ∧ 0 ≤ k ∧ k < B.rows.length := by
  unfold hasB at h; simpa using h
theorem hasW_inv {B : Bk} {k a : Int} (h : hasW B k a = true) : rightB B = true ∧ 0 ≤ k ∧ k < B.rows.length ∧ 0 ≤ a ∧ a < B.par.length := by
  unfold hasW at h
  rw [Bool.and_eq_true, decide_eq_true_eq] at h
  have := hasB_inv h.1
  exact ⟨this.1, this.2.1, this.2.2, h.2.1, h.2.2⟩
theorem hasW_of {B : Bk} {k a : Int} (h : rightB B = true) (h1 : 0 ≤ k) (h2 : k < B.rows.length) (h3 : 0 ≤ a) (h4 : a < B.par.length) : hasW B k a = true := by
  unfold hasW hasB
  simp only [Bool.and_eq_true, decide_eq_true_eq]
  exact ⟨⟨h, h1, h2⟩, h3, h4⟩
theorem fine_par {B : Bk} (h : rightB B = true) (h0 : B.lost = 0) (a : Nat) (ha : a < B.par.length) : B.par.getD a 0 = colX B.rows a (-1) := by
  have := (right_inv h).2.2.2.2.2.2.2
  unfold fineB at this
  rw [if_pos h0, decide_eq_true_eq] at this
  conv => lhs; rw [this]
  exact togL_at _ _ _ ha
theorem fine_zero {B : Bk} (h : rightB B = true) (h0 : B.lost ≠ 0) (a : Nat) : (B.rows.getD (B.lost - 1).toNat []).getD a 0 = 0 := by
  have := (right_inv h).2.2.2.2.2.2.2
  unfold fineB at this
  rw [if_neg h0] at this
  exact zero_inv this a

/-- The place of the first word that isn't 0. -/
def idxZ : List Nat → Nat → Int
  | [], _ => -1
  | x :: r, k => if x = 0 then idxZ r (k + 1) else (k : Int)
theorem idxZ_any (l : List Nat) (k : Nat) : decide (0 ≤ idxZ l k) = !zeroB l := by
  induction l generalizing k with
  | nil => rfl
  | cons x r ih =>
    unfold idxZ
    show _ = !(decide (x = 0) && zeroB r)
    by_cases h : x = 0
    · rw [if_pos h, decide_eq_true h, Bool.true_and]; exact ih (k + 1)
    · rw [if_neg h, decide_eq_false h, Bool.false_and]; simp
/-- The place of the first row that isn't of m words. -/
def idxR (m : Nat) : List (List Nat) → Nat → Int
  | [], _ => -1
  | x :: r, k => if x.length = m then idxR m r (k + 1) else (k : Int)
theorem idxR_any (m : Nat) (L : List (List Nat)) (k : Nat) : decide (0 ≤ idxR m L k) = !allB L m := by
  induction L generalizing k with
  | nil => rfl
  | cons x r ih =>
    unfold idxR
    show _ = !(decide (x.length = m) && allB r m)
    by_cases h : x.length = m
    · rw [if_pos h, decide_eq_true h, Bool.true_and]; exact ih (k + 1)
    · rw [if_neg h, decide_eq_false h, Bool.false_and]; simp
end Go.Proofs.Ytflakmabciokbaa
/- Plain numbers for layer 7: words that are written, banks lost and rebuilt; no program is run here; no condition. -/
namespace Go.Proofs.Ytflakmabciokbaa
set_option linter.unusedVariables false
open Go.RowKit

/-- Banks that are right, of which none is lost, n of m words. -/
structure Good (B : Bk) (n m : Nat) : Prop where
  right : rightB B = true
  lost : B.lost = 0
  zn : B.rows.length = n
  zm : B.par.length = m
def wd (B : Bk) (j i : Nat) : Nat := (B.rows.getD j []).getD i 0
theorem Good.all {B : Bk} {n m : Nat} (h : Good B n m) : ∀ k, k < n → (B.rows.getD k []).length = m := fun k hk => by
  rw [← h.zm]; exact all_at (right_inv h.right).2.2.2.2.1 k (by rw [h.zn]; exact hk)
theorem Good.par {B : Bk} {n m : Nat} (h : Good B n m) (a : Nat) (ha : a < m) : B.par.getD a 0 = colX B.rows a (-1) := fine_par h.right h.lost a (by rw [h.zm]; exact ha)
theorem Good.bd {B : Bk} {n m : Nat} (h : Good B n m) : 1 ≤ n ∧ n ≤ 8 ∧ 1 ≤ m ∧ m ≤ 64 := by
  have := right_inv h.right
  rw [h.zn, h.zm] at this
  exact ⟨this.1, this.2.1, this.2.2.1, this.2.2.2.1⟩
theorem good_of {B : Bk} {n m : Nat} (hl : B.lost = 0) (zn : B.rows.length = n) (zm : B.par.length = m) (hb : 1 ≤ n ∧ n ≤ 8 ∧ 1 ≤ m ∧ m ≤ 64) (hall : ∀ k, k < n → (B.rows.getD k []).length = m) (hp : ∀ a, a < m → B.par.getD a 0 = colX B.rows a (-1)) : Good B n m := by
  refine ⟨right_of (by omega) (by omega) (by omega) (by omega) (all_of (fun k hk => ?_)) (by omega) (by omega) ?_, hl, zn, zm⟩
  · rw [zm]; exact hall k (by rw [← zn]; exact hk)
  · unfold fineB
    rw [if_pos hl, decide_eq_true_eq]
    refine ext_getD (by rw [togL_len]) fun a ha => ?_
    rw [zm] at ha ⊢
    rw [togL_at _ _ _ ha]
    exact hp a ha
/-- They are known by their words. -/
theorem good_ext {B B' : Bk} {n m : Nat} (h : Good B n m) (h' : Good B' n m) (e : ∀ j i, j < n → i < m → wd B j i = wd B' j i) : B = B' := by
  have hr : B.rows = B'.rows := ext_rows (by rw [h.zn, h'.zn]) fun k hk => by
    rw [h.zn] at hk
    exact ext_getD (by rw [h.all k hk, h'.all k hk]) fun i hi => by
      rw [h.all k hk] at hi
      exact e k i hk hi
  have hp : B.par = B'.par := ext_getD (by rw [h.zm, h'.zm]) fun a ha => by
    rw [h.zm] at ha
    rw [h.par a ha, h'.par a ha, hr]
  obtain ⟨r, p, l⟩ := B
  obtain ⟨r', p', l'⟩ := B'
  have hl : l = l' := h.lost.trans h'.lost.symm
  simp only at hr hp
  rw [hr, hp, hl]
def put (B : Bk) (j i v : Nat) : Bk := putB B (j : Int) (i : Int) v
theorem put_form (B : Bk) (j i v : Nat) : put B j i v = ⟨B.rows.set j ((B.rows.getD j []).set i v), B.par.set i (B.par.getD i 0 ^^^ (wd B j i ^^^ v)), B.lost⟩ := by
  unfold put putB wordB wd; simp only [Int.toNat_natCast]
theorem wd_put {B : Bk} {n m : Nat} (h : Good B n m) {j i v : Nat} (hj : j < n) (hi : i < m) (j' i' : Nat) : wd (put B j i v) j' i' = if j' = j ∧ i' = i then v else wd B j' i' := by
  rw [put_form]
  unfold wd
  simp only
  rw [getD_set B.rows [] _ j j' (by rw [h.zn]; exact hj)]
  by_cases e : j' = j
  · subst e
    rw [if_pos rfl, getD_set _ 0 v i i' (by rw [h.all j' hj]; exact hi)]
    by_cases e2 : i' = i
    · rw [if_pos e2, if_pos ⟨rfl, e2⟩]
    · rw [if_neg e2, if_neg (fun h => e2 h.2)]
  · rw [if_neg e, if_neg (fun h => e h.1)]
theorem put_good {B : Bk} {n m : Nat} (h : Good B n m) {j i : Nat} (v : Nat) (hj : j < n) (hi : i < m) : Good (put B j i v) n m := by
  have hjl : j < B.rows.length := by rw [h.zn]; exact hj
  rw [put_form]
  refine good_of h.lost (by rw [List.length_set]; exact h.zn) (by rw [List.length_set]; exact h.zm) h.bd (fun k hk => ?_) (fun a ha => ?_)
  · show ((B.rows.set j _).getD k []).length = m
    rw [getD_set B.rows [] _ j k hjl]
    by_cases e : k = j
    · rw [if_pos e, List.length_set]; exact h.all j hj
    · rw [if_neg e]; exact h.all k hk
  · show (B.par.set i _).getD a 0 = colX (B.rows.set j _) a (-1)
    rw [colX_set _ _ _ _ hjl, getD_set _ 0 _ i a (by rw [h.zm]; exact hi), getD_set _ 0 v i a (by rw [h.all j hj]; exact hi)]
    by_cases e : a = i
    · subst e
      rw [if_pos rfl, if_pos rfl, h.par a ha]
      rfl
    · rw [if_neg e, if_neg e, h.par a ha, Nat.xor_self, Nat.xor_zero]
theorem put_turn {B : Bk} {n m : Nat} (h : Good B n m) {j i v j' i' v' : Nat} (hj : j < n) (hi : i < m) (hj' : j' < n) (hi' : i' < m) (hne : j ≠ j' ∨ i ≠ i') : put (put B j i v) j' i' v' = put (put B j' i' v') j i v := by
  refine good_ext (put_good (put_good h v hj hi) v' hj' hi') (put_good (put_good h v' hj' hi') v hj hi) fun a b ha hb => ?_
  rw [wd_put (put_good h v hj hi) hj' hi', wd_put h hj hi, wd_put (put_good h v' hj' hi') hj hi, wd_put h hj' hi']
  by_cases e1 : a = j' ∧ b = i'
  · rw [if_pos e1, if_neg (by omega), if_pos e1]
  · rw [if_neg e1, if_neg e1]
theorem put_same {B : Bk} {n m : Nat} (h : Good B n m) {j i : Nat} (hj : j < n) (hi : i < m) : put B j i (wd B j i) = B := by
  refine good_ext (put_good h _ hj hi) h fun a b ha hb => ?_
  rw [wd_put h hj hi]
  by_cases e : a = j ∧ b = i
  · rw [if_pos e, e.1, e.2]
  · rw [if_neg e]
theorem hasW_good {B : Bk} {n m : Nat} (h : Good B n m) {j i : Nat} (hj : j < n) (hi : i < m) : hasW B (j : Int) (i : Int) = true :=
  hasW_of h.right (by omega) (by rw [h.zn]; omega) (by omega) (by rw [h.zm]; omega)
theorem write_good {B : Bk} {n m : Nat} (h : Good B n m) {j i : Nat} (v : Nat) (hj : j < n) (hi : i < m) : writeB B (j : Int) (i : Int) v = put B j i v ∧ writeE B (j : Int) (i : Int) = 0 := by
  unfold writeB writeE
  rw [hasW_good h hj hi, if_pos rfl, if_pos rfl, if_pos h.lost, if_pos h.lost]
  exact ⟨rfl, rfl⟩
theorem read_good {B : Bk} {n m : Nat} (h : Good B n m) {j i : Nat} (hj : j < n) (hi : i < m) : readN B (j : Int) (i : Int) = wd B j i ∧ readE B (j : Int) (i : Int) = 0 := by
  unfold readN readE
  rw [hasW_good h hj hi, if_pos rfl, if_pos rfl, h.lost, if_neg (by omega), if_neg (by omega)]
  unfold wordB wd
  simp only [Int.toNat_natCast]
  exact ⟨trivial, trivial⟩
theorem new_good {n m : Nat} (hb : 1 ≤ n ∧ n ≤ 8 ∧ 1 ≤ m ∧ m ≤ 64) : Good (newB (n : Int) (m : Int)) n m ∧ newE (n : Int) (m : Int) = 0 ∧ ∀ j i, wd (newB (n : Int) (m : Int)) j i = 0 := by
  have e : mayN (n : Int) (m : Int) = true := by unfold mayN; exact decide_eq_true (by omega)
  have e1 : newB (n : Int) (m : Int) = ⟨List.replicate n (List.replicate m 0), List.replicate m 0, 0⟩ := by unfold newB; rw [e, if_pos rfl]; simp only [Int.toNat_natCast]
  have hw : ∀ j i, wd ⟨List.replicate n (List.replicate m 0), List.replicate m 0, 0⟩ j i = 0 := fun j i => by
    unfold wd
    by_cases hj : j < n
    · rw [getD_rep n _ _ j hj, getD_rep0]
    · show ((List.replicate n (List.replicate m 0)).getD j []).getD i 0 = 0
      rw [List.getD_eq_getElem?_getD (l := List.replicate n _), List.getElem?_eq_none (by simp; omega)]; rfl
  have hcol : ∀ (a k : Nat), colK (List.replicate n (List.replicate m 0)) a (-1) k = 0 := fun a k => by
    induction k with
    | zero => rfl
    | succ k ih =>
      unfold colK
      rw [if_neg (by omega), ih]
      have := hw k a
      unfold wd at this
      rw [this]
      rfl
  refine ⟨?_, by unfold newE; rw [e, if_pos rfl], by rw [e1]; exact hw⟩
  rw [e1]
  exact good_of rfl (by simp) (by simp) hb (fun k hk => by show ((List.replicate n _).getD k []).length = m; rw [getD_rep n _ _ k hk, List.length_replicate]) (fun a ha => by
    show (List.replicate m 0).getD a 0 = colX (List.replicate n (List.replicate m 0)) a (-1)
    rw [getD_rep0]
    unfold colX
    rw [hcol])
/-- Of one bank alone Par is the bank. -/
theorem par_one {B : Bk} {m : Nat} (h : Good B 1 m) {i : Nat} (hi : i < m) : B.par.getD i 0 = wd B 0 i := by
  rw [h.par i hi]
  unfold colX
  rw [h.zn]
  unfold colK colK wd
  rw [if_neg (by decide), Nat.zero_xor]

/-- The bank k is lost. -/
def gone (B : Bk) (k : Nat) : Bk := loseB B (k : Int)
theorem hasB_good {B : Bk} {n m : Nat} (h : Good B n m) {k : Nat} (hk : k < n) : hasB B (k : Int) = true := by
  unfold hasB
  rw [h.right, Bool.true_and]
  exact decide_eq_true (by rw [h.zn]; omega)
theorem gone_form {B : Bk} {n m : Nat} (h : Good B n m) {k : Nat} (hk : k < n) : gone B k = ⟨B.rows.set k (List.replicate m 0), B.par, (k : Int) + 1⟩ ∧ loseE B (k : Int) = 0 := by
  unfold gone loseB loseE
  rw [hasB_good h hk, if_pos rfl, if_pos rfl, if_pos h.lost, if_pos h.lost, h.zm]
  simp only [Int.toNat_natCast]
  exact ⟨trivial, trivial⟩
theorem gone_right {B : Bk} {n m : Nat} (h : Good B n m) {k : Nat} (hk : k < n) : rightB (gone B k) = true := by
  have hkl : k < B.rows.length := by rw [h.zn]; exact hk
  have hb := h.bd
  rw [(gone_form h hk).1]
  refine right_of (by show 1 ≤ (B.rows.set k _).length; rw [List.length_set, h.zn]; omega) (by show (B.rows.set k _).length ≤ 8; rw [List.length_set, h.zn]; omega) (by show 1 ≤ B.par.length; rw [h.zm]; omega) (by show B.par.length ≤ 64; rw [h.zm]; omega) (all_of (fun j hj => ?_)) (by show (0 : Int) ≤ (k : Int) + 1; omega) (by show (k : Int) + 1 ≤ ((B.rows.set k _).length : Int); rw [List.length_set, h.zn]; omega) ?_
  · show ((B.rows.set k _).getD j []).length = B.par.length
    rw [h.zm, getD_set B.rows [] _ k j hkl]
    by_cases e : j = k
    · rw [if_pos e, List.length_replicate]
    · rw [if_neg e]; exact h.all j (by rw [← h.zn]; rw [List.length_set] at hj; exact hj)
  · unfold fineB
    rw [if_neg (by show ¬ (k : Int) + 1 = 0; omega)]
    show zeroB ((B.rows.set k (List.replicate m 0)).getD ((k : Int) + 1 - 1).toNat []) = true
    rw [show ((k : Int) + 1 - 1).toNat = k by omega, getD_set B.rows [] _ k k hkl, if_pos rfl]
    exact zero_of (fun i hi => getD_rep0 _ _)
theorem wd_gone {B : Bk} {n m : Nat} (h : Good B n m) {k : Nat} (hk : k < n) (j i : Nat) : wd (gone B k) j i = if j = k then 0 else wd B j i := by
  rw [(gone_form h hk).1]
  unfold wd
  simp only
  rw [getD_set B.rows [] _ k j (by rw [h.zn]; exact hk)]
  by_cases e : j = k
  · rw [if_pos e, if_pos e, getD_rep0]
  · rw [if_neg e, if_neg e]
theorem gone_len {B : Bk} {n m : Nat} (h : Good B n m) {k : Nat} (hk : k < n) : (gone B k).rows.length = n ∧ (gone B k).par.length = m ∧ (gone B k).lost = (k : Int) + 1 := by
  rw [(gone_form h hk).1]
  exact ⟨by show (B.rows.set k _).length = n; rw [List.length_set]; exact h.zn, h.zm, rfl⟩
theorem gone_hasW {B : Bk} {n m : Nat} (h : Good B n m) {k j i : Nat} (hk : k < n) (hj : j < n) (hi : i < m) : hasW (gone B k) (j : Int) (i : Int) = true := by
  obtain ⟨h1, h2, h3⟩ := gone_len h hk
  exact hasW_of (gone_right h hk) (by omega) (by rw [h1]; omega) (by omega) (by rw [h2]; omega)
theorem gone_write {B : Bk} {n m : Nat} (h : Good B n m) {k j i : Nat} (hk : k < n) (hj : j < n) (hi : i < m) : writeE (gone B k) (j : Int) (i : Int) = 8 := by
  unfold writeE
  rw [gone_hasW h hk hj hi, if_pos rfl, (gone_len h hk).2.2, if_neg (by omega)]
theorem gone_lose {B : Bk} {n m : Nat} (h : Good B n m) {k : Nat} (hk : k < n) : loseE (gone B k) (k : Int) = 8 := by
  have hb : hasB (gone B k) (k : Int) = true := by
    unfold hasB
    rw [gone_right h hk, Bool.true_and]
    exact decide_eq_true (by rw [(gone_len h hk).1]; omega)
  unfold loseE
  rw [hb, if_pos rfl, (gone_len h hk).2.2, if_neg (by omega)]
theorem gone_read {B : Bk} {n m : Nat} (h : Good B n m) {k j i : Nat} (hk : k < n) (hj : j < n) (hi : i < m) : readN (gone B k) (j : Int) (i : Int) = (if j = k then 0 else wd B j i) ∧ readE (gone B k) (j : Int) (i : Int) = (if j = k then 8 else 0) := by
  unfold readN readE
  rw [gone_hasW h hk hj hi, if_pos rfl, if_pos rfl, (gone_len h hk).2.2]
  have hw : wordB (gone B k) (j : Int) (i : Int) = wd (gone B k) j i := by unfold wordB wd; simp only [Int.toNat_natCast]
  rw [hw, wd_gone h hk]
  by_cases e : j = k
  · subst e
    rw [if_pos rfl, if_pos rfl, if_pos rfl, if_pos rfl]
    exact ⟨rfl, rfl⟩
  · rw [if_neg e, if_neg e, if_neg (by omega), if_neg (by omega)]
    exact ⟨rfl, rfl⟩
/-- Rebuilt, they are as they were. -/
theorem gone_back {B : Bk} {n m : Nat} (h : Good B n m) {k : Nat} (hk : k < n) : rebuildB (gone B k) = B ∧ rebuildE (gone B k) = 0 := by
  have hkl : k < B.rows.length := by rw [h.zn]; exact hk
  have hr := gone_right h hk
  have hl := (gone_len h hk).2.2
  have hE : rebuildE (gone B k) = 0 := by unfold rebuildE; rw [hr, if_pos rfl, hl, if_neg (by omega)]
  refine ⟨?_, hE⟩
  have hc : ∀ a, a < m → B.par.getD a 0 ^^^ colX (B.rows.set k (List.replicate m 0)) a (-1) = (B.rows.getD k []).getD a 0 := fun a ha => by
    rw [colX_set _ _ _ _ hkl, getD_rep0, Nat.xor_zero, h.par a ha, ← Nat.xor_assoc, Nat.xor_self, Nat.zero_xor]
  have hback : backL (gone B k) = B.rows.getD k [] := by
    rw [(gone_form h hk).1]
    refine ext_getD ?_ fun a ha => ?_
    · show ((List.range B.par.length).map _).length = _
      rw [List.length_map, List.length_range, h.zm, h.all k hk]
    · have ha' : a < B.par.length := by
        have : ((List.range B.par.length).map fun a => B.par.getD a 0 ^^^ colX (B.rows.set k (List.replicate m 0)) a (-1)).length = B.par.length := by simp
        exact this ▸ ha
      show ((List.range B.par.length).map fun a => B.par.getD a 0 ^^^ colX (B.rows.set k (List.replicate m 0)) a (-1)).getD a 0 = _
      rw [getD_map _ _ _ _ ha']
      exact hc a (by rw [← h.zm]; exact ha')
  unfold rebuildB
  rw [hr, if_pos rfl, hl, if_neg (by omega), hback, show ((k : Int) + 1 - 1).toNat = k by omega, (gone_form h hk).1]
  show (⟨(B.rows.set k (List.replicate m 0)).set k (B.rows.getD k []), B.par, 0⟩ : Bk) = B
  have hs : (B.rows.set k (List.replicate m 0)).set k (B.rows.getD k []) = B.rows := ext_rows (by simp) fun j hj => by
    rw [getD_set _ [] _ k j (by rw [List.length_set]; exact hkl), getD_set B.rows [] _ k j hkl]
    by_cases e : j = k
    · rw [if_pos e, e]
    · rw [if_neg e, if_neg e]
  rw [hs]
  have h0 := h.lost
  obtain ⟨r, p, l⟩ := B
  simp only at h0
  rw [h0]
end Go.Proofs.Ytflakmabciokbaa
/- Stores in plain numbers: when one is right, what it becomes, and that its words are a log's; no program in sight; no condition. -/
namespace Go.Proofs.Ytflakmabciokbaa
set_option linter.unusedVariables false
open Go.RowKit

/-- A store. -/
structure Vt where
  B : Bk
  words : Int
  span : Int
  list : List Ud.Un
/-- The word a of banks: the word a / b of bank a mod b. -/
def wdA (B : Bk) (a : Nat) : Nat := wd B (a % B.rows.length) (a / B.rows.length)
def memB (B : Bk) (n : Nat) : List Int := (List.range n).map fun a => ((wdA B a : Nat) : Int)
/-- The log that a store is. -/
def lgV (V : Vt) : Ud.Lg := ⟨memB V.B V.words.toNat, V.span, V.list⟩
def needN (words banks : Int) : Int := (words - 1) / banks + 1
def liesV (V : Vt) : Bool := rightB V.B && decide ((V.B.par.length : Int) = needN V.words V.B.rows.length)
def rightV (V : Vt) : Bool := liesV V && Ud.rightL (lgV V)
def okA (V : Vt) (a : Int) : Bool := rightV V && decide (0 ≤ a ∧ a < V.words)
def putA (B : Bk) (a : Int) (v : Int) : Bk := writeB B ((a.toNat % B.rows.length : Nat) : Int) ((a.toNat / B.rows.length : Nat) : Int) v.toNat
def writeV (V : Vt) (a v : Int) : Vt := if okA V a && (decide (V.B.lost = 0) && !Ud.fullW (lgV V) a) then ⟨putA V.B a v, V.words, V.span, Ud.putL (lgV V) a⟩ else V
def writeVE (V : Vt) (a : Int) : Int := if okA V a then (if V.B.lost = 0 then (if Ud.fullW (lgV V) a then 6 else 0) else 8) else 1
def okNx (V : Vt) : Bool := rightV V && decide (V.span < Ud.topS)
def nextV (V : Vt) : Vt := if okNx V then ⟨V.B, V.words, V.span + 1, V.list⟩ else V
def nextVE (V : Vt) : Int := if okNx V then 0 else 1
def okS (V : Vt) (t : Int) : Bool := rightV V && decide (0 ≤ t ∧ t ≤ V.span)
/-- The last one first. -/
def undoB (l : List Ud.Un) (B : Bk) : Bk := l.foldr (fun u B => putA B u.at_ u.val) B
def backV (V : Vt) (t : Int) : Vt := if okS V t && decide (V.B.lost = 0) then ⟨undoB (Ud.fromL V.list t) V.B, V.words, t, Ud.belowL V.list t⟩ else V
def backVE (V : Vt) (t : Int) : Int := if okS V t then (if V.B.lost = 0 then 0 else 8) else 1
def trimV (V : Vt) (t : Int) : Vt := if okS V t then ⟨V.B, V.words, V.span, Ud.fromL V.list t⟩ else V
def trimVE (V : Vt) (t : Int) : Int := if okS V t then 0 else 1
def loseV (V : Vt) (k : Int) : Vt := if rightV V then ⟨loseB V.B k, V.words, V.span, V.list⟩ else V
def loseVE (V : Vt) (k : Int) : Int := if rightV V then loseE V.B k else 1
def rebV (V : Vt) : Vt := if rightV V then ⟨rebuildB V.B, V.words, V.span, V.list⟩ else V
def rebVE (V : Vt) : Int := if rightV V then rebuildE V.B else 1
def sizeV (n b : Int) : Bool := Ud.sizeB n && decide (1 ≤ b ∧ b ≤ 8)
def newV (n b : Int) : Vt := if sizeV n b then ⟨newB b (needN n b), n, 0, []⟩ else ⟨⟨[], [], 0⟩, 0, 0, []⟩
def newVE (n b : Int) : Int := if sizeV n b then 0 else 1
def readVN (V : Vt) (a : Int) : Nat := if okA V a then readN V.B ((a.toNat % V.B.rows.length : Nat) : Int) ((a.toNat / V.B.rows.length : Nat) : Int) else 0
def readVE (V : Vt) (a : Int) : Int := if okA V a then readE V.B ((a.toNat % V.B.rows.length : Nat) : Int) ((a.toNat / V.B.rows.length : Nat) : Int) else 1
def wordsV (V : Vt) : List Int := if rightV V then memB V.B V.words.toNat else []

theorem memB_len (B : Bk) (n : Nat) : (memB B n).length = n := by unfold memB; simp
theorem memB_at (B : Bk) (n a : Nat) (h : a < n) : (memB B n).getD a 0 = (wdA B a : Nat) := by unfold memB; simp [List.getD, h]
theorem ext_int {l l' : List Int} (h : l.length = l'.length) (h2 : ∀ k, k < l.length → l.getD k 0 = l'.getD k 0) : l = l' := by
  refine List.ext_getElem h fun k h3 h4 => ?_
  have := h2 k h3
  rwa [List.getD_eq_getElem?_getD, List.getD_eq_getElem?_getD, List.getElem?_eq_getElem h3, List.getElem?_eq_getElem h4] at this
theorem set_getD_int (l : List Int) (a j : Nat) (v : Int) (ha : a < l.length) : (l.set a v).getD j 0 = if j = a then v else l.getD j 0 := by
  simp only [List.getD_eq_getElem?_getD, List.getElem?_set]
  by_cases h : j = a
  · subst h; simp [ha]
  · rw [if_neg h, if_neg (fun e => h e.symm)]

/-- Banks of which none is lost that hold n words. -/
structure Sd (B : Bk) (n b m : Nat) : Prop where
  good : Good B b m
  n1 : 1 ≤ n
  mm : m = (n - 1) / b + 1
theorem Sd.b1 {B : Bk} {n b m : Nat} (h : Sd B n b m) : 1 ≤ b := h.good.bd.1
theorem place_lt {n b m a : Nat} (hb : 1 ≤ b) (hm : m = (n - 1) / b + 1) (ha : a < n) : a % b < b ∧ a / b < m := by
  refine ⟨Nat.mod_lt _ hb, ?_⟩
  have : a / b ≤ (n - 1) / b := Nat.div_le_div_right (by omega)
  omega
theorem place_ne {a a' b : Nat} (h : a % b = a' % b ∧ a / b = a' / b) : a = a' := by
  rw [← Nat.div_add_mod a b, ← Nat.div_add_mod a' b, h.1, h.2]
theorem Sd.put {B : Bk} {n b m : Nat} (h : Sd B n b m) {a : Nat} (ha : a < n) {v : Int} (hv : 0 ≤ v) : Sd (putA B a v) n b m ∧ memB (putA B a v) n = (memB B n).set a v ∧ putA B a v = Go.Proofs.Ytflakmabciokbaa.put B (a % b) (a / b) v.toNat := by
  obtain ⟨h1, h2⟩ := place_lt h.b1 h.mm ha
  have e : putA B a v = Go.Proofs.Ytflakmabciokbaa.put B (a % b) (a / b) v.toNat := by
    unfold putA
    rw [Int.toNat_natCast, h.good.zn]
    exact (write_good h.good _ h1 h2).1
  have hg := put_good h.good v.toNat h1 h2
  refine ⟨?_, ?_, e⟩
  · rw [e]; exact ⟨hg, h.n1, h.mm⟩
  · rw [e]
    refine ext_int (by rw [List.length_set, memB_len, memB_len]) fun k hk => ?_
    rw [memB_len] at hk
    rw [memB_at _ _ _ hk, set_getD_int _ _ _ _ (by rw [memB_len]; exact ha), memB_at _ _ _ hk]
    unfold wdA
    rw [hg.zn, h.good.zn, wd_put h.good h1 h2]
    by_cases ek : k = a
    · subst ek
      rw [if_pos ⟨rfl, rfl⟩, if_pos rfl]; omega
    · rw [if_neg (fun c => ek (place_ne c)), if_neg ek]
theorem Sd.undo {n b m : Nat} (l : List Ud.Un) (hl : ∀ u ∈ l, (0 ≤ u.at_ ∧ u.at_ < (n : Int)) ∧ 0 ≤ u.val) {B : Bk} (h : Sd B n b m) : Sd (undoB l B) n b m ∧ memB (undoB l B) n = Ud.undoM l (memB B n) := by
  induction l with
  | nil => exact ⟨h, rfl⟩
  | cons u l ih =>
    obtain ⟨h1, h2⟩ := ih (fun u hu => hl u (List.mem_cons_of_mem _ hu))
    obtain ⟨⟨h3, h4⟩, h5⟩ := hl u (List.mem_cons_self ..)
    have e : undoB (u :: l) B = putA (undoB l B) u.at_ u.val := rfl
    have ea : u.at_ = ((u.at_.toNat : Nat) : Int) := by omega
    obtain ⟨h6, h7, _⟩ := h1.put (a := u.at_.toNat) (by omega) h5
    rw [← ea] at h6 h7
    rw [e, Ud.undoM_cons]
    unfold Ud.setM
    rw [← h2]
    exact ⟨h6, h7⟩
/-- What a store that is right is. -/
structure Rv (V : Vt) (n b m : Nat) : Prop where
  w : V.words = (n : Int)
  right : rightB V.B = true
  zn : V.B.rows.length = b
  zm : V.B.par.length = m
  mm : m = (n - 1) / b + 1
  rt : Ud.Rt (lgV V)
theorem need_nat {n b : Nat} (h1 : 1 ≤ n) : needN (n : Int) (b : Int) = (((n - 1) / b + 1 : Nat) : Int) := by
  unfold needN
  rw [show (n : Int) - 1 = ((n - 1 : Nat) : Int) by omega]
  norm_cast
theorem rv_of {V : Vt} (h : rightV V = true) : ∃ n, Rv V n V.B.rows.length V.B.par.length := by
  unfold rightV liesV at h
  simp only [Bool.and_eq_true, decide_eq_true_eq] at h
  obtain ⟨⟨h1, h2⟩, h3⟩ := h
  have h3 := Ud.right_iff.1 h3
  have hm := h3.m1
  have e : (lgV V).mem.length = V.words.toNat := memB_len _ _
  rw [e] at hm
  have ew : V.words = ((V.words.toNat : Nat) : Int) := by omega
  refine ⟨V.words.toNat, ew, h1, rfl, rfl, ?_, h3⟩
  rw [ew, need_nat hm] at h2
  omega
theorem Rv.ok {V : Vt} {n b m : Nat} (h : Rv V n b m) : rightV V = true := by
  have hm := h.rt.m1
  have e : (lgV V).mem.length = n := by unfold lgV; rw [memB_len, h.w, Int.toNat_natCast]
  rw [e] at hm
  unfold rightV liesV
  rw [h.right, Ud.right_iff.2 h.rt, h.w, need_nat hm, h.zn, h.zm, h.mm]
  simp
theorem Rv.ml {V : Vt} {n b m : Nat} (h : Rv V n b m) : (lgV V).mem.length = n := by unfold lgV; rw [memB_len, h.w, Int.toNat_natCast]
theorem Rv.n1 {V : Vt} {n b m : Nat} (h : Rv V n b m) : 1 ≤ n ∧ n ≤ 64 := by
  have h1 := h.rt.m1
  have h2 := h.rt.m64
  rw [h.ml] at h1 h2
  exact ⟨h1, h2⟩
theorem Rv.bm {V : Vt} {n b m : Nat} (h : Rv V n b m) : 1 ≤ b ∧ b ≤ 8 ∧ 1 ≤ m ∧ m ≤ 64 := by
  have := right_inv h.right
  rw [h.zn, h.zm] at this
  omega
theorem Rv.sd {V : Vt} {n b m : Nat} (h : Rv V n b m) (h0 : V.B.lost = 0) : Sd V.B n b m := ⟨⟨h.right, h0, h.zn, h.zm⟩, h.n1.1, h.mm⟩
/-- A store of which no bank is lost, and what it is made of. -/
theorem rv_make {B : Bk} {n b m : Nat} (hs : Sd B n b m) {s : Int} {l : List Ud.Un} (hr : Ud.Rt ⟨memB B n, s, l⟩) : Rv ⟨B, n, s, l⟩ n b m :=
  ⟨rfl, hs.good.right, hs.good.zn, hs.good.zm, hs.mm, by unfold lgV; rw [Int.toNat_natCast]; exact hr⟩
theorem lg_make (B : Bk) (n : Nat) (s : Int) (l : List Ud.Un) : lgV ⟨B, n, s, l⟩ = ⟨memB B n, s, l⟩ := by unfold lgV; rw [Int.toNat_natCast]
/-- Values that are words. -/
def U32 (l : List Ud.Un) : Prop := ∀ u ∈ l, 0 ≤ u.val ∧ u.val < 4294967296
theorem Rv.write {V : Vt} {n b m : Nat} (h : Rv V n b m) (h0 : V.B.lost = 0) {a : Nat} (ha : a < n) {v : Int} (hv : 0 ≤ v) :
    lgV (writeV V a v) = Ud.writeL (lgV V) a v ∧ writeVE V a = Ud.writeE (lgV V) a ∧ Rv (writeV V a v) n b m ∧ (writeV V a v).B.lost = 0 := by
  have hok : okA V (a : Int) = true := by unfold okA; rw [h.ok, h.w, decide_eq_true (by omega)]; rfl
  have hok2 : Ud.okW (lgV V) (a : Int) = true := by unfold Ud.okW Ud.hasW; rw [Ud.right_iff.2 h.rt, h.ml, decide_eq_true (by omega)]; rfl
  have hs := h.sd h0
  obtain ⟨h1, h2, h3⟩ := hs.put ha hv
  unfold writeV writeVE Ud.writeL Ud.writeE
  rw [hok, hok2, h0]
  by_cases hf : Ud.fullW (lgV V) (a : Int) = true
  · rw [hf]
    exact ⟨rfl, rfl, h, h0⟩
  · have hf : Ud.fullW (lgV V) (a : Int) = false := by simpa using hf
    have hE : Ud.writeL (lgV V) a v = ⟨(lgV V).mem.set a v, V.span, Ud.putL (lgV V) a⟩ := by unfold Ud.writeL; rw [hok2, hf]; unfold Ud.setM; rw [Int.toNat_natCast]; rfl
    have hrt : Ud.Rt (Ud.writeL (lgV V) a v) := by
      by_cases hl : (lgV V).list.length < 256
      · exact (Ud.rt_write h.rt (by rw [h.ml]; exact ha) hl v).2.2
      · have h5 := h.rt.n256
        have h6 : (lgV V).list.length = 256 := by omega
        have h7 : Ud.hasU (lgV V).list (lgV V).span (a : Int) = true := by
          unfold Ud.fullW at hf
          rw [decide_eq_true h6, Bool.and_true] at hf
          simpa using hf
        rw [hE]
        unfold Ud.putL
        rw [if_pos h7]
        exact ⟨by simpa using h.rt.m1, by simpa using h.rt.m64, h.rt.s0, h.rt.st, h.rt.n256, fun u hu => by have h9 := h.rt.fit u hu; show Ud.FitU ((lgV V).mem.set a v).length V.span u; rw [List.length_set]; exact h9, h.rt.sort, h.rt.ap⟩
    have hm : (lgV V).mem = memB V.B n := by unfold lgV; rw [h.w, Int.toNat_natCast]
    rw [hE, hm] at hrt
    rw [hf]
    simp only [decide_true, Bool.not_false, Bool.and_self, if_true, Bool.false_eq_true, if_false, h.w]
    rw [lg_make, h2]
    refine ⟨?_, trivial, ?_, ?_⟩
    · unfold Ud.setM; rw [Int.toNat_natCast, hm]; rfl
    · exact rv_make h1 (by rw [h2]; exact hrt)
    · exact h1.good.lost
theorem Rv.next {V : Vt} {n b m : Nat} (h : Rv V n b m) : lgV (nextV V) = Ud.nextL (lgV V) ∧ nextVE V = Ud.nextE (lgV V) ∧ Rv (nextV V) n b m ∧ (nextV V).B = V.B := by
  unfold nextV nextVE Ud.nextL Ud.nextE okNx Ud.okN
  rw [h.ok, Ud.right_iff.2 h.rt]
  show _ ∧ _ ∧ _
  have es : (lgV V).span = V.span := rfl
  rw [es]
  by_cases hs : V.span < Ud.topS
  · rw [decide_eq_true hs]
    refine ⟨rfl, rfl, ⟨h.w, h.right, h.zn, h.zm, h.mm, ?_⟩, rfl⟩
    have := (Ud.rt_next h.rt hs)
    rw [this.1] at this
    exact this.2.2
  · rw [decide_eq_false hs]
    exact ⟨rfl, rfl, h, rfl⟩
theorem Rv.okS {V : Vt} {n b m : Nat} (h : Rv V n b m) (t : Int) : Go.Proofs.Ytflakmabciokbaa.okS V t = Ud.okB (lgV V) t := by
  unfold Go.Proofs.Ytflakmabciokbaa.okS Ud.okB
  rw [h.ok, Ud.right_iff.2 h.rt]
  rfl
theorem Rv.back {V : Vt} {n b m : Nat} (h : Rv V n b m) (h0 : V.B.lost = 0) (hu : U32 V.list) (t : Int) :
    lgV (backV V t) = Ud.backL (lgV V) t ∧ backVE V t = Ud.backE (lgV V) t ∧ Rv (backV V t) n b m ∧ (backV V t).B.lost = 0 := by
  unfold backV backVE Ud.backL Ud.backE
  rw [h.okS t, h0]
  by_cases hk : Ud.okB (lgV V) t = true
  · rw [hk]
    have hk2 := hk
    unfold Ud.okB at hk2
    rw [Bool.and_eq_true, decide_eq_true_eq] at hk2
    have hr := (Ud.rt_back h.rt hk2.2.1 hk2.2.2).2.2
    rw [(Ud.rt_back h.rt hk2.2.1 hk2.2.2).1] at hr
    have hm : (lgV V).mem = memB V.B n := by unfold lgV; rw [h.w, Int.toNat_natCast]
    obtain ⟨h1, h2⟩ := Sd.undo (Ud.fromL V.list t) (fun u hu' => by
      have hmem := (Ud.fromL_mem.1 hu').1
      have hf := h.rt.fit u hmem
      rw [h.ml] at hf
      exact ⟨hf.2, (hu u hmem).1⟩) (h.sd h0)
    simp only [decide_true, Bool.and_self, if_true, h.w]
    rw [lg_make, h2]
    refine ⟨by rw [hm]; rfl, trivial, rv_make h1 (by rw [h2, ← hm]; exact hr), h1.good.lost⟩
  · have hk : Ud.okB (lgV V) t = false := by simpa using hk
    rw [hk]
    exact ⟨rfl, rfl, h, h0⟩
theorem Rv.trim {V : Vt} {n b m : Nat} (h : Rv V n b m) (t : Int) : lgV (trimV V t) = Ud.trimL (lgV V) t ∧ trimVE V t = Ud.backE (lgV V) t ∧ Rv (trimV V t) n b m ∧ (trimV V t).B = V.B := by
  unfold trimV trimVE Ud.trimL Ud.backE
  rw [h.okS t]
  by_cases hk : Ud.okB (lgV V) t = true
  · rw [hk]
    have hk2 := hk
    unfold Ud.okB at hk2
    rw [Bool.and_eq_true, decide_eq_true_eq] at hk2
    have hr := (Ud.rt_trim h.rt hk2.2.1 hk2.2.2).2
    rw [(Ud.rt_trim h.rt hk2.2.1 hk2.2.2).1] at hr
    exact ⟨rfl, rfl, ⟨h.w, h.right, h.zn, h.zm, h.mm, hr⟩, rfl⟩
  · have hk : Ud.okB (lgV V) t = false := by simpa using hk
    rw [hk]
    exact ⟨rfl, rfl, h, rfl⟩
theorem new_rv {n b : Nat} (hn : 1 ≤ n ∧ n ≤ 64) (hb : 1 ≤ b ∧ b ≤ 8) : lgV (newV n b) = Ud.newL n ∧ newVE n b = 0 ∧ Ud.newE (n : Int) = 0 ∧ Rv (newV n b) n b ((n - 1) / b + 1) ∧ (newV n b).B.lost = 0 ∧ (newV n b).list = [] ∧ (newV n b).span = 0 := by
  have hok : Ud.sizeB (n : Int) = true := decide_eq_true (by omega)
  have hok2 : sizeV (n : Int) (b : Int) = true := by unfold sizeV; rw [hok, decide_eq_true (by omega)]; rfl
  have hm : (n - 1) / b + 1 ≤ 64 := by
    have : (n - 1) / b ≤ n - 1 := Nat.div_le_self _ _
    omega
  obtain ⟨h1, h2, h3⟩ := new_good (n := b) (m := (n - 1) / b + 1) ⟨hb.1, hb.2, Nat.le_add_left 1 _, hm⟩
  have e : newV n b = ⟨newB (b : Int) (((n - 1) / b + 1 : Nat) : Int), n, 0, []⟩ := by unfold newV; rw [hok2, need_nat hn.1]; rfl
  have hmem : memB (newB (b : Int) (((n - 1) / b + 1 : Nat) : Int)) n = List.replicate n 0 := by
    refine ext_int (by rw [memB_len, List.length_replicate]) fun k hk => ?_
    rw [memB_len] at hk
    rw [memB_at _ _ _ hk]
    unfold wdA
    rw [h3]
    simp [List.getD, List.getElem?_replicate, hk]
  have hs : Sd (newB (b : Int) (((n - 1) / b + 1 : Nat) : Int)) n b ((n - 1) / b + 1) := ⟨h1, hn.1, rfl⟩
  obtain ⟨g1, g2, g3⟩ := Ud.rt_new hn.1 hn.2
  rw [e]
  refine ⟨?_, by unfold newVE; rw [hok2]; rfl, g2, rv_make hs (by rw [hmem]; exact g3), h1.lost, rfl, rfl⟩
  rw [lg_make, hmem, g1]
/-- Lost, and rebuilt, it is as it was. -/
theorem Rv.gone {V : Vt} {n b m : Nat} (h : Rv V n b m) (h0 : V.B.lost = 0) {k : Nat} (hk : k < b) :
    loseV V k = ⟨Go.Proofs.Ytflakmabciokbaa.gone V.B k, V.words, V.span, V.list⟩ ∧ loseVE V k = 0 ∧ rightV (loseV V k) = true ∧ (loseV V k).B.lost ≠ 0 ∧ rebV (loseV V k) = V ∧ rebVE (loseV V k) = 0 := by
  have hg := (h.sd h0).good
  have e : loseV V k = ⟨Go.Proofs.Ytflakmabciokbaa.gone V.B k, V.words, V.span, V.list⟩ := by unfold loseV; rw [h.ok]; rfl
  obtain ⟨g1, g2, g3⟩ := gone_len hg hk
  have hr : rightV (loseV V k) = true := by
    rw [e]
    refine Rv.ok (n := n) (b := b) (m := m) ⟨h.w, gone_right hg hk, g1, g2, h.mm, ?_⟩
    have hr := h.rt
    have hl : (lgV ⟨Go.Proofs.Ytflakmabciokbaa.gone V.B k, V.words, V.span, V.list⟩).mem.length = (lgV V).mem.length := by unfold lgV; rw [memB_len, memB_len]
    exact ⟨by rw [hl]; exact hr.m1, by rw [hl]; exact hr.m64, hr.s0, hr.st, hr.n256, by rw [hl]; exact hr.fit, hr.sort, hr.ap⟩
  obtain ⟨b1, b2⟩ := gone_back hg hk
  refine ⟨e, ?_, hr, by rw [e]; show (Go.Proofs.Ytflakmabciokbaa.gone V.B k).lost ≠ 0; rw [g3]; omega, ?_, ?_⟩
  · unfold loseVE; rw [h.ok, if_pos rfl]; exact (gone_form hg hk).2
  · unfold rebV; rw [hr, if_pos rfl, e]
    show (⟨rebuildB (Go.Proofs.Ytflakmabciokbaa.gone V.B k), V.words, V.span, V.list⟩ : Vt) = V
    rw [b1]
  · unfold rebVE; rw [hr, if_pos rfl, e]; exact b2
theorem U32.put {V : Vt} (h : U32 V.list) (a : Int) (hb : ∀ x ∈ memB V.B V.words.toNat, 0 ≤ x ∧ x < 4294967296) (ha : a.toNat < V.words.toNat) : U32 (Ud.putL (lgV V) a) := by
  unfold Ud.putL
  by_cases e : Ud.hasU (lgV V).list (lgV V).span a = true
  · rw [if_pos e]; exact h
  · rw [if_neg e]
    intro u hu
    rcases List.mem_append.1 hu with hu | hu
    · exact h u hu
    · rw [List.mem_singleton] at hu
      subst hu
      exact hb _ (Ud.mem_getD _ _ _ (by show a.toNat < (memB _ _).length; rw [memB_len]; exact ha))
theorem U32.filter {l : List Ud.Un} (h : U32 l) (p : Ud.Un → Bool) : U32 (l.filter p) := fun u hu => h u (List.mem_filter.1 hu).1
end Go.Proofs.Ytflakmabciokbaa
/- Banks in memory, as they read; whether there may be so many; the first word that isn't 0; no condition but that they read. -/
namespace Go.Proofs.Ytflakmabciokbaa
set_option linter.unusedVariables false
open Go.ChangeShapes Go.WideShapes Go.ChangeAt Go.RowKit

theorem ret_int {k : IntKind} {a b : Int} (h : a = b) : Ending.returned (.int k a) = .returned (.int k b) := by rw [h]
def vz : Value := .bool false
def u32C (l : List Nat) : List Value := l.map fun x : Nat => .int .u32 (x : Int)
theorem u32C_len (l : List Nat) : (u32C l).length = l.length := by unfold u32C; simp
theorem u32C_one (l : List Nat) : ∀ u ∈ u32C l, u.oneCell' = true := by
  intro u hu; obtain ⟨x, _, rfl⟩ := List.mem_map.1 hu; rfl
theorem u32C_app (l m : List Nat) : u32C l ++ u32C m = u32C (l ++ m) := by unfold u32C; simp
theorem u32C_at (l : List Nat) (k : Nat) (h : k < l.length) : (u32C l)[k]? = some (.int .u32 (l.getD k 0 : Nat)) := by unfold u32C; simp [List.getD, h]
theorem u32C_set (l : List Nat) (k x : Nat) : (u32C l).set k (.int .u32 (x : Int)) = u32C (l.set k x) := by unfold u32C; rw [List.map_set]
theorem u32C_rep (n : Nat) : List.replicate n (Value.int .u32 0) = u32C (List.replicate n 0) := by unfold u32C; simp
theorem info26 : (Try.prog.info? 29).map (fun i => (i.zero, i.size, i.bytes)) = some (some (.int .u32 0), 1, 4) := by kernel_rfl
theorem info23 : (Try.prog.info? 23).map (fun i => (i.zero, i.size, i.bytes)) = some (some (.slice none 0 0), 1, 24) := by kernel_rfl

/-- A slice that reads as these words. -/
structure Nm (w : World) (p : Option Addr) (l : List Nat) : Prop where
  lt : ∀ x ∈ l, x < 4294967296
  c : 0 < l.length → ∃ b off, b < w.heap.size ∧ p = some ⟨b, off, none⟩ ∧ ∀ k, k < l.length → w.cell? ⟨b, off + k, none⟩ = some (.int .u32 (l.getD k 0 : Nat))
theorem Nm.below {w w' : World} {p : Option Addr} {l : List Nat} (h : Nm w p l) (hb : Below w.heap.size w w') : Nm w' p l :=
  ⟨h.lt, fun h0 => by
    obtain ⟨b, off, h1, h2, h3⟩ := h.c h0
    exact ⟨b, off, Nat.lt_of_lt_of_le h1 hb.size, h2, fun k hk => (hb.cell (p := ⟨b, off + k, none⟩) h1).trans (h3 k hk)⟩⟩
theorem Nm.sl {w : World} {p : Option Addr} {l : List Nat} (h : Nm w p l) : Sl w p l.length (u32C l) := fun h0 => by
  obtain ⟨b, off, h1, h2, h3⟩ := h.c h0
  exact ⟨b, off, h1, h2, fun j hj => by rw [u32C_len] at hj; rw [h3 j hj, u32C_at l j hj]⟩
theorem Nm.getD_lt {w : World} {p : Option Addr} {l : List Nat} (h : Nm w p l) (k : Nat) : l.getD k 0 < 4294967296 := by
  by_cases hk : k < l.length
  · exact h.lt _ (mem_getD l 0 k hk)
  · rw [List.getD_eq_getElem?_getD, List.getElem?_eq_none (by omega)]; decide
/-- A value that reads as a row. -/
def Rs (w : World) (v : Value) (l : List Nat) : Prop := ∃ p c, v = .slice p l.length c ∧ l.length ≤ c ∧ Nm w p l
theorem Rs.below {w w' : World} {v : Value} {l : List Nat} (h : Rs w v l) (hb : Below w.heap.size w w') : Rs w' v l := by
  obtain ⟨p, c, e, hc, h⟩ := h
  exact ⟨p, c, e, hc, h.below hb⟩
theorem Rs.one {w : World} {v : Value} {l : List Nat} (h : Rs w v l) : v.oneCell' = true := by
  obtain ⟨p, c, rfl, _⟩ := h
  rfl
/-- A slice of slices that reads as these rows. -/
structure Rw (w : World) (p : Option Addr) (xs : List Value) (L : List (List Nat)) : Prop where
  len : xs.length = L.length
  sl : Sl w p L.length xs
  rs : ∀ k, k < L.length → Rs w (xs.getD k vz) (L.getD k [])
  n100 : L.length ≤ 100
  l100 : ∀ l ∈ L, l.length ≤ 100
theorem Rw.below {w w' : World} {p : Option Addr} {xs : List Value} {L : List (List Nat)} (h : Rw w p xs L) (hb : Below w.heap.size w w') : Rw w' p xs L :=
  ⟨h.len, h.sl.below hb, fun k hk => (h.rs k hk).below hb, h.n100, h.l100⟩
theorem Rw.one {w : World} {p : Option Addr} {xs : List Value} {L : List (List Nat)} (h : Rw w p xs L) : ∀ u ∈ xs, u.oneCell' = true := by
  intro u hu
  obtain ⟨k, hk, rfl⟩ := List.getElem_of_mem hu
  have := (h.rs k (by rw [← h.len]; exact hk)).one
  rwa [List.getD_eq_getElem?_getD, List.getElem?_eq_getElem hk] at this
theorem Rw.at_ {w : World} {p : Option Addr} {xs : List Value} {L : List (List Nat)} (h : Rw w p xs L) (h0 : 0 < L.length) : ∃ b off, b < w.heap.size ∧ p = some ⟨b, off, none⟩ ∧ ∀ k, k < L.length → w.cell? ⟨b, off + k, none⟩ = some (xs.getD k vz) := by
  obtain ⟨b, off, h1, h2, h3⟩ := h.sl h0
  refine ⟨b, off, h1, h2, fun k hk => ?_⟩
  rw [h3 k (by rw [h.len]; exact hk), List.getD_eq_getElem?_getD, List.getElem?_eq_getElem (by rw [h.len]; exact hk)]
  rfl
theorem Rw.nil (w : World) (p : Option Addr) : Rw w p [] [] := ⟨rfl, Sl.empty _ _ _, fun k hk => absurd hk (Nat.not_lt_zero _), by decide, fun l hl => by cases hl⟩
theorem Rw.lt {w : World} {p : Option Addr} {xs : List Value} {L : List (List Nat)} (h : Rw w p xs L) : ∀ l ∈ L, ∀ x ∈ l, x < 4294967296 := by
  intro l hl
  obtain ⟨k, hk, rfl⟩ := List.getElem_of_mem hl
  obtain ⟨_, _, _, _, hb⟩ := h.rs k hk
  have e : L.getD k [] = L[k] := by rw [List.getD_eq_getElem?_getD, List.getElem?_eq_getElem hk]; rfl
  rw [e] at hb
  exact hb.lt
theorem Rw.word_lt {w : World} {p : Option Addr} {xs : List Value} {L : List (List Nat)} (h : Rw w p xs L) (k a : Nat) : (L.getD k []).getD a 0 < 4294967296 := by
  by_cases hk : k < L.length
  · obtain ⟨_, _, _, _, hb⟩ := h.rs k hk
    exact hb.getD_lt a
  · rw [List.getD_eq_getElem?_getD (l := L), List.getElem?_eq_none (by omega)]; simp
/-- What one of its rows is in memory. -/
structure RowAt (w : World) (b off : Nat) (k : Nat) (q : Option Addr) (x c2 : Nat) (l : List Nat) : Prop where
  lt : b < w.heap.size
  cell : w.cell? ⟨b, off + k, none⟩ = some (.slice q x c2)
  len : l.length = x
  nm : Nm w q l
  cap : x ≤ c2
  x100 : x ≤ 100
theorem RowAt.below {w w' : World} {b off k : Nat} {q : Option Addr} {x c2 : Nat} {l : List Nat} (h : RowAt w b off k q x c2 l) (hb : Below w.heap.size w w') : RowAt w' b off k q x c2 l :=
  ⟨Nat.lt_of_lt_of_le h.lt hb.size, (hb.cell (p := ⟨b, off + k, none⟩) h.lt).trans h.cell, h.len, h.nm.below hb, h.cap, h.x100⟩
theorem Rw.rowAt {w : World} {p : Option Addr} {xs : List Value} {L : List (List Nat)} (h : Rw w p xs L) (k : Nat) (hk : k < L.length) : ∃ b off q x c2, p = some ⟨b, off, none⟩ ∧ RowAt w b off k q x c2 (L.getD k []) := by
  obtain ⟨b, off, h1, h2, h3⟩ := h.at_ (by omega)
  obtain ⟨q, c2, hv, hc2, hn⟩ := h.rs k hk
  exact ⟨b, off, q, _, c2, h2, h1, by rw [h3 k hk, hv], rfl, hn, hc2, h.l100 _ (mem_getD L [] k hk)⟩
/-- The row, and a word of it. -/
theorem Nm.cellAt {w : World} {p : Option Addr} {l : List Nat} (h : Nm w p l) (a : Nat) (ha : a < l.length) : ∃ b off, b < w.heap.size ∧ p = some ⟨b, off, none⟩ ∧ w.cell? ⟨b, off + a, none⟩ = some (.int .u32 (l.getD a 0 : Nat)) := by
  obtain ⟨b, off, h1, h2, h3⟩ := h.c (by omega)
  exact ⟨b, off, h1, h2, h3 a ha⟩

theorem may_any (n m : Int) (w : World) : Calls Try.prog 87 #[.int .i64 n, .int .i64 m] w fun e w' => e = .returned (.bool (mayN n m)) ∧ w = w' := by
  by_cases h1 : 1 ≤ n
  · by_cases h2 : n ≤ 8
    · by_cases h3 : 1 ≤ m
      · by_cases h4 : m ≤ 64
        · have e : mayN n m = true := by unfold mayN; exact decide_eq_true ⟨h1, h2, h3, h4⟩
          rw [e]; clear e
          go_enter Try.func87, Try.ntmps87
          go_wp2
          go_ret
          exact ⟨rfl, rfl⟩
        · have e : mayN n m = false := by unfold mayN; exact decide_eq_false (by omega)
          rw [e]; clear e
          go_enter Try.func87, Try.ntmps87
          go_wp2
          go_ret
          exact ⟨rfl, rfl⟩
      · have e : mayN n m = false := by unfold mayN; exact decide_eq_false (by omega)
        rw [e]; clear e
        go_enter Try.func87, Try.ntmps87
        go_wp2
        go_ret
        exact ⟨rfl, rfl⟩
    · have e : mayN n m = false := by unfold mayN; exact decide_eq_false (by omega)
      rw [e]; clear e
      go_enter Try.func87, Try.ntmps87
      go_wp2
      go_ret
      exact ⟨rfl, rfl⟩
  · have e : mayN n m = false := by unfold mayN; exact decide_eq_false (by omega)
    rw [e]; clear e
    go_enter Try.func87, Try.ntmps87
    go_wp2
    go_ret
    exact ⟨rfl, rfl⟩

theorem notzero_any (x : Nat) (w : World) : Calls Try.prog 102 #[.int .u32 x] w fun e w' => e = .returned (.bool (!decide (x = 0))) ∧ w = w' := by
  by_cases h : x = 0
  · subst h
    go_enter Try.func102, Try.ntmps102
    go_wp2
    go_ret
    exact ⟨rfl, rfl⟩
  · rw [decide_eq_false h]
    have h2 : ((x : Int) != 0) = true := by simp; omega
    clear h
    go_enter Try.func102, Try.ntmps102
    go_wp2
    go_ret
    exact ⟨rfl, rfl⟩

set_option maxHeartbeats 1000000 in
theorem indexz_any (p : Option Addr) (n c : Nat) (l : List Nat) (w : World) (hz : l.length = n) (hm : n ≤ 100) (h : Nm w p l) :
    Calls Try.prog 108 #[.slice p n c, .func (.func 102) #[] #[]] w fun e w' => e = .returned (.int .i64 (idxZ l 0)) ∧ w = w' := by
  have HZ := Lib.hid hz
  have HB := Lib.hid h
  obtain ⟨r, hr⟩ : ∃ r, r = idxZ l 0 := ⟨_, rfl⟩
  rw [← hr]
  have HR := Lib.hid hr
  clear h hz hr
  go_enter Try.func108, Try.ntmps108
  go_wp2
  go_loop [8] (fun i => ∃ k : Nat, k ≤ n ∧ i = .int .i64 k ∧ Hid (r = idxZ (l.drop k) k)) (fun i => n - (intOf i).toNat)
  case atStart => exact ⟨0, Nat.zero_le _, rfl, by rw [List.drop_zero]; exact HR⟩
  case round =>
    obtain ⟨k, hk, rfl, hi⟩ := hrel
    by_cases hlt : k < n
    · obtain ⟨b, off, hb, rfl, hck⟩ := HB.out.cellAt k (by rw [HZ.out]; exact hlt)
      have hd := drop_getD l 0 k (by rw [HZ.out]; exact hlt)
      rw [hd] at hi
      obtain ⟨x, hx⟩ : ∃ x, x = l.getD k 0 := ⟨_, rfl⟩
      rw [← hx] at hi hck
      clear hd hx hb
      by_cases hf : x = 0
      · have HI : Hid (r = idxZ (l.drop (k + 1)) (k + 1)) := Lib.hid (by
          have he := hi.out
          unfold idxZ at he
          rw [if_pos hf] at he
          rw [he])
        have HF := Lib.hid hf
        clear hf hi
        go_wp2_with (first | (go_at_call 102; refine (notzero_any _ _).mono ?_; rintro e w' ⟨rfl, rfl⟩; rw [decide_eq_true HF.out, Bool.not_true]))
        go_round
        case rel => exact ⟨k + 1, by omega, by go_num, HI⟩
        case measure => simp [intOf]; omega
      · have he := hi.out
        unfold idxZ at he
        rw [if_neg hf] at he
        have HF := Lib.hid hf
        subst he
        clear hf hi HR
        go_wp2_with (first | (go_at_call 102; refine (notzero_any _ _).mono ?_; rintro e w' ⟨rfl, rfl⟩; rw [decide_eq_false HF.out, Bool.not_false]))
        go_ret
        exact ⟨rfl, rfl⟩
    · have hd : l.drop k = [] := List.drop_eq_nil_of_le (by rw [HZ.out]; omega)
      rw [hd] at hi
      have he : r = -1 := hi.out
      subst he
      clear hi hd HR
      go_wp2
      go_ret
      exact ⟨rfl, rfl⟩
theorem containsz_any (p : Option Addr) (n c : Nat) (l : List Nat) (w : World) (hz : l.length = n) (hm : n ≤ 100) (h : Nm w p l) :
    Calls Try.prog 101 #[.slice p n c, .func (.func 102) #[] #[]] w fun e w' => e = .returned (.bool (!(zeroB l))) ∧ w = w' := by
  have hi := indexz_any p n c l w hz hm h
  have he := idxZ_any l 0
  obtain ⟨r, hr⟩ : ∃ r, r = idxZ l 0 := ⟨_, rfl⟩
  rw [← hr] at hi he
  rw [← he]
  have HI := Lib.hid hi
  clear hi he hr h hz
  go_enter Try.func101, Try.ntmps101
  go_wp2_with (first | (go_at_call 108; refine HI.out.mono ?_; rintro e w' ⟨rfl, rfl⟩))
  go_ret
  exact ⟨rfl, rfl⟩
end Go.Proofs.Ytflakmabciokbaa
/- Whether a row has so many words, whether all have, what rows are together, whether two are the same; no condition but that they read. -/
namespace Go.Proofs.Ytflakmabciokbaa
set_option linter.unusedVariables false
open Go.ChangeShapes Go.WideShapes Go.ChangeAt Go.RowKit

theorem sized1_any (X : Nat) (q : Option Addr) (x c m : Nat) (w : World) (hx : x ≤ 100) (hX : w.cell? ⟨X, 0, none⟩ = some (.int .i64 m)) :
    Calls Try.prog 107 #[.slice q x c, .pointer (some ⟨X, 0, none⟩)] w fun e w' => e = .returned (.bool (!decide (x = m))) ∧ w = w' := by
  by_cases h : x = m
  · subst h
    go_enter Try.func107, Try.ntmps107
    go_wp2
    go_ret
    exact ⟨by simp, rfl⟩
  · rw [decide_eq_false h]
    have h2 : ((x : Int) != m) = true := by simp; omega
    clear h
    go_enter Try.func107, Try.ntmps107
    go_wp2
    go_ret
    exact ⟨rfl, rfl⟩

set_option maxHeartbeats 1000000 in
theorem indexr_any (X : Nat) (p : Option Addr) (n c m : Nat) (xs : List Value) (L : List (List Nat)) (w : World) (hz : L.length = n) (h : Rw w p xs L) (hX : w.cell? ⟨X, 0, none⟩ = some (.int .i64 m)) :
    Calls Try.prog 110 #[.slice p n c, .func (.func 107) #[] #[.pointer (some ⟨X, 0, none⟩)]] w fun e w' => e = .returned (.int .i64 (idxR m L 0)) ∧ w = w' := by
  have HZ := Lib.hid hz
  have HB := Lib.hid h
  have HX := Lib.hid hX
  have hm : n ≤ 100 := by rw [← hz]; exact h.n100
  obtain ⟨r, hr⟩ : ∃ r, r = idxR m L 0 := ⟨_, rfl⟩
  rw [← hr]
  have HR := Lib.hid hr
  clear h hz hr hX
  go_enter Try.func110, Try.ntmps110
  go_wp2
  go_loop [8] (fun i => ∃ k : Nat, k ≤ n ∧ i = .int .i64 k ∧ Hid (r = idxR m (L.drop k) k)) (fun i => n - (intOf i).toNat)
  case atStart => exact ⟨0, Nat.zero_le _, rfl, by rw [List.drop_zero]; exact HR⟩
  case round =>
    obtain ⟨k, hk, rfl, hi⟩ := hrel
    by_cases hlt : k < n
    · obtain ⟨b, off, q, x, c2, rfl, hrow⟩ := HB.out.rowAt k (by rw [HZ.out]; exact hlt)
      have hck := hrow.cell
      have hl := hrow.x100
      have HL := Lib.hid hrow.len
      have hd := drop_getD L [] k (by rw [HZ.out]; exact hlt)
      rw [hd] at hi
      obtain ⟨y, hy⟩ : ∃ y, y = L.getD k [] := ⟨_, rfl⟩
      rw [← hy] at hi HL
      clear hd hy hrow
      by_cases hf : x = m
      · have HI : Hid (r = idxR m (L.drop (k + 1)) (k + 1)) := Lib.hid (by
          have he := hi.out
          unfold idxR at he
          rw [if_pos (HL.out.trans hf)] at he
          rw [he])
        have HF := Lib.hid hf
        clear hf hi
        go_wp2_with (first | (go_at_call 107; refine (sized1_any X _ _ _ m _ hl HX.out).mono ?_; rintro e w' ⟨rfl, rfl⟩; rw [decide_eq_true HF.out, Bool.not_true]))
        go_round
        case rel => exact ⟨k + 1, by omega, by go_num, HI⟩
        case measure => simp [intOf]; omega
      · have he := hi.out
        unfold idxR at he
        rw [if_neg (fun e => hf (HL.out.symm.trans e))] at he
        have HF := Lib.hid hf
        subst he
        clear hf hi HR
        go_wp2_with (first | (go_at_call 107; refine (sized1_any X _ _ _ m _ hl HX.out).mono ?_; rintro e w' ⟨rfl, rfl⟩; rw [decide_eq_false HF.out, Bool.not_false]))
        go_ret
        exact ⟨rfl, rfl⟩
    · have hd : L.drop k = [] := List.drop_eq_nil_of_le (by rw [HZ.out]; omega)
      rw [hd] at hi
      have he : r = -1 := hi.out
      subst he
      clear hi hd HR
      go_wp2
      go_ret
      exact ⟨rfl, rfl⟩
theorem containsr_any (X : Nat) (p : Option Addr) (n c m : Nat) (xs : List Value) (L : List (List Nat)) (w : World) (hz : L.length = n) (h : Rw w p xs L) (hX : w.cell? ⟨X, 0, none⟩ = some (.int .i64 m)) :
    Calls Try.prog 106 #[.slice p n c, .func (.func 107) #[] #[.pointer (some ⟨X, 0, none⟩)]] w fun e w' => e = .returned (.bool (!(allB L m))) ∧ w = w' := by
  have hi := indexr_any X p n c m xs L w hz h hX
  have he := idxR_any m L 0
  obtain ⟨r, hr⟩ : ∃ r, r = idxR m L 0 := ⟨_, rfl⟩
  rw [← hr] at hi he
  rw [← he]
  have HI := Lib.hid hi
  clear hi he hr h hz hX
  go_enter Try.func106, Try.ntmps106
  go_wp2_with (first | (go_at_call 110; refine HI.out.mono ?_; rintro e w' ⟨rfl, rfl⟩))
  go_ret
  exact ⟨rfl, rfl⟩

/-- Banks in memory: what they read as. -/
structure Bn (w : World) (p : Option Addr) (n c : Nat) (xs : List Value) (pp : Option Addr) (m cc : Nat) (B : Bk) : Prop where
  zn : B.rows.length = n
  rw_ : Rw w p xs B.rows
  cn : n ≤ c
  zm : B.par.length = m
  nm : Nm w pp B.par
  cm : m ≤ cc
  m100 : m ≤ 100
theorem Bn.below {w w' : World} {p : Option Addr} {n c : Nat} {xs : List Value} {pp : Option Addr} {m cc : Nat} {B : Bk} (h : Bn w p n c xs pp m cc B) (hb : Below w.heap.size w w') : Bn w' p n c xs pp m cc B :=
  ⟨h.zn, h.rw_.below hb, h.cn, h.zm, h.nm.below hb, h.cm, h.m100⟩
theorem Bn.n100 {w : World} {p : Option Addr} {n c : Nat} {xs : List Value} {pp : Option Addr} {m cc : Nat} {B : Bk} (h : Bn w p n c xs pp m cc B) : n ≤ 100 := by rw [← h.zn]; exact h.rw_.n100
/-- A value that reads as banks. -/
def Rd (w : World) (v : Value) (B : Bk) : Prop := ∃ p n c xs pp m cc, v = .agg #[.slice p n c, .slice pp m cc, .int .i64 B.lost] ∧ Bn w p n c xs pp m cc B
theorem Rd.below {w w' : World} {v : Value} {B : Bk} (h : Rd w v B) (hb : Below w.heap.size w w') : Rd w' v B := by
  obtain ⟨p, n, c, xs, pp, m, cc, e, h⟩ := h
  exact ⟨p, n, c, xs, pp, m, cc, e, h.below hb⟩

set_option maxHeartbeats 1000000 in
theorem sized_any (p : Option Addr) (n c : Nat) (xs : List Value) (pp : Option Addr) (m cc : Nat) (B : Bk) (w : World) (h : Bn w p n c xs pp m cc B) :
    Calls Try.prog 99 #[.agg #[.slice p n c, .slice pp m cc, .int .i64 B.lost]] w fun e w' => e = .returned (.bool (sizedB B)) ∧ Below w.heap.size w w' := by
  obtain ⟨z, hz⟩ : ∃ z, z = B.lost := ⟨_, rfl⟩
  rw [← hz]
  have hm := h.m100
  have hn := h.n100
  have HH := Lib.hid h
  obtain ⟨s, hs⟩ : ∃ s, s = sizedB B := ⟨_, rfl⟩
  obtain ⟨y, hy⟩ : ∃ y, y = mayN n m := ⟨_, rfl⟩
  have hs2 : s = (y && allB B.rows m) := by rw [hs, hy]; unfold sizedB; rw [h.zn, h.zm]
  rw [← hs]
  have HS := Lib.hid hs2
  have HY := Lib.hid hy
  clear h hs hs2 hz hy
  go_enter Try.func99, Try.ntmps99
  cases y with
  | false =>
    go_wp2_with (first | (go_at_call 87; refine (may_any _ _ _).mono ?_; rintro e w' ⟨rfl, rfl⟩; rw [← HY.out]))
    go_ret
    exact ⟨by rw [HS.out]; rfl, ((Below.refl _ _).alloc (Nat.le_refl _) _).alloc (by simp) _⟩
  | true =>
    go_wp2_with (first | (go_at_call 87; refine (may_any _ _ _).mono ?_; rintro e w' ⟨rfl, rfl⟩; rw [← HY.out]) | fail)
    refine (containsr_any (w.heap.size + 1) _ _ _ m xs B.rows _ HH.out.zn (HH.out.rw_.below (((Below.refl _ _).alloc (Nat.le_refl _) _).alloc (by simp) _)) (by simp)).mono ?_
    rintro e w' ⟨rfl, rfl⟩
    go_wp2
    go_ret
    exact ⟨by rw [HS.out]; simp, ((Below.refl _ _).alloc (Nat.le_refl _) _).alloc (by simp) _⟩

theorem own_base {w : World} {b b' : Nat} {e : TypeId} {size : Nat} {v : Value} {n : Nat} {xs : List Value} (h : w.ownsRow b e size v n xs) (hb : b' ≤ b) : w.ownsRow b' e size v n xs := by
  obtain ⟨h1, h2 | ⟨g, cap, cur, e1, e2, e3⟩⟩ := h
  · exact ⟨h1, .inl h2⟩
  · exact ⟨h1, .inr ⟨g, cap, cur, e1, by omega, e3⟩⟩
theorem own_sl {w : World} {base : Nat} {e : TypeId} {size : Nat} {v : Value} {n : Nat} {xs : List Value} (h : w.ownsRow base e size v n xs) : ∃ p cap, v = .slice p n cap := by
  obtain ⟨p, cap, e, _⟩ := Sl.own h
  exact ⟨p, cap, e⟩
theorem own_below {w w' : World} {base : Nat} {e : TypeId} {size : Nat} {v : Value} {n : Nat} {xs : List Value} (h : w.ownsRow base e size v n xs) (hb : Below w.heap.size w w') : w'.ownsRow base e size v n xs := by
  obtain ⟨h1, h2 | ⟨g', c', cur, e1, e2, e3, e4⟩⟩ := h
  · exact ⟨h1, .inl h2⟩
  · exact ⟨h1, .inr ⟨g', c', cur, e1, e2, by rw [hb.block g' (Array.getElem?_eq_some_iff.1 e3).1]; exact e3, e4⟩⟩
theorem own_cap {w : World} {base : Nat} {e : TypeId} {size : Nat} {v : Value} {n : Nat} {xs : List Value} (h : w.ownsRow base e size v n xs) : ∃ p cap, v = .slice p n cap ∧ n ≤ cap := by
  obtain ⟨h1, ⟨h2, h3⟩ | ⟨g', c', cur, e1, e2, e3, e4, _⟩⟩ := h
  · subst h3; exact ⟨_, _, h2, Nat.le_refl _⟩
  · exact ⟨_, _, e1, e4⟩
theorem own_go {w : World} {base : Nat} {e : TypeId} {size : Nat} {p : Option Addr} {n c : Nat} {xs : List Value} (h : w.ownsRow base e size (.slice p n c) n xs) (h0 : 0 < n) : ∃ g, p = some ⟨g, 0, none⟩ ∧ n ≤ c ∧ c ≤ maxLen ∧ base ≤ g ∧ g < w.heap.size := by
  obtain ⟨h1, ⟨_, h2⟩ | ⟨g, cap, cur, e1, e2, e3, e4, e5, _⟩⟩ := h
  · omega
  · injection e1 with e1 e6 e7
    subst e7
    exact ⟨g, e1, e4, e5, e2, (Array.getElem?_eq_some_iff.1 e3).1⟩
theorem own_off {w : World} {base : Nat} {e : TypeId} {size : Nat} {v : Value} {n : Nat} {xs : List Value} (h : w.ownsRow base e size v n xs) {R : Nat} (hR : ∀ g, v.ownBlock = some g → g ≠ R) (j : Nat) (u : Value) : (w.setCell ⟨R, j, none⟩ u).ownsRow base e size v n xs := by
  refine h.kept (row := some R) ⟨rfl, rfl, rfl, by simp, fun k _ hk => heap_setCell_other w ⟨R, j, none⟩ k u (fun e => hk (by simp [e]))⟩ ?_
  cases hv : v.ownBlock with
  | none => exact .inl rfl
  | some b => exact .inr (fun e2 => by injection e2 with e2; exact hR b hv e2)
theorem nm_own {w : World} {base n cap : Nat} {p : Option Addr} {l : List Nat} (h : w.ownsRow base 29 1 (.slice p n cap) n (u32C l)) (hl : l.length = n) (hb : ∀ x ∈ l, x < 4294967296) : Nm w p l :=
  ⟨hb, fun h0 => by
    obtain ⟨p', c', e, hs⟩ := Sl.own h
    injection e with e1 e2 e3
    subst e1
    obtain ⟨b, off, h1, h2, h3⟩ := hs (by omega)
    exact ⟨b, off, h1, h2, fun k hk => by rw [h3 k (by rw [u32C_len]; exact hk), u32C_at l k hk]⟩⟩
/-- Words in memory of one's own. -/
structure Wd (base : Nat) (w : World) (g m c : Nat) (l : List Nat) : Prop where
  row : w.ownsRow base 29 1 (.slice (some ⟨g, 0, none⟩) m c) m (u32C l)
  len : l.length = m
  lt : ∀ x ∈ l, x < 4294967296
theorem Wd.nm {base : Nat} {w : World} {g m c : Nat} {l : List Nat} (h : Wd base w g m c l) : Nm w (some ⟨g, 0, none⟩) l := nm_own h.row h.len h.lt
theorem Wd.below {base : Nat} {w w' : World} {g m c : Nat} {l : List Nat} (h : Wd base w g m c l) (hb : Below w.heap.size w w') : Wd base w' g m c l := ⟨own_below h.row hb, h.len, h.lt⟩
theorem Wd.mono {base base' : Nat} {w : World} {g m c : Nat} {l : List Nat} (h : Wd base w g m c l) (hb : base' ≤ base) : Wd base' w g m c l := ⟨own_base h.row hb, h.len, h.lt⟩
theorem Wd.ge {base : Nat} {w : World} {g m c : Nat} {l : List Nat} (h : Wd base w g m c l) : base ≤ g ∧ g < w.heap.size := h.row.lt g rfl
theorem Wd.cap {base : Nat} {w : World} {g m c : Nat} {l : List Nat} (h : Wd base w g m c l) : m ≤ c := by
  obtain ⟨p, cap, e, hc⟩ := own_cap h.row
  injection e with _ _ e
  omega
theorem Wd.cell {base : Nat} {w : World} {g m c : Nat} {l : List Nat} (h : Wd base w g m c l) (a : Nat) (ha : a < m) : w.cell? ⟨g, a, none⟩ = some (.int .u32 (l.getD a 0 : Nat)) := by
  rw [h.row.cellAt a (by omega), u32C_at l a (by rw [h.len]; exact ha)]
theorem Wd.frozen {base : Nat} {w : World} {g m c : Nat} {l : List Nat} (h : Wd base w g m c l) (a : Nat) : w.frozen? ⟨g, a, none⟩ = false := h.row.frozenAt a
theorem Wd.set {base : Nat} {w : World} {g m c : Nat} {l : List Nat} (h : Wd base w g m c l) (a x : Nat) (hx : x < 4294967296) : Wd base (w.setCell ⟨g, a, none⟩ (.int .u32 (x : Int))) g m c (l.set a x) :=
  ⟨by rw [← u32C_set]; exact (h.row.stored a _).1, by rw [List.length_set]; exact h.len, fun y hy => by
    rcases List.mem_or_eq_of_mem_set hy with h1 | h1
    · exact h.lt y h1
    · rw [h1]; exact hx⟩
theorem Wd.off {base : Nat} {w : World} {g m c : Nat} {l : List Nat} (h : Wd base w g m c l) {R : Nat} (hR : g ≠ R) (j : Nat) (u : Value) : Wd base (w.setCell ⟨R, j, none⟩ u) g m c l :=
  ⟨own_off h.row (fun b e => by injection e with e; subst e; exact hR) j u, h.len, h.lt⟩
theorem rep_lt (n : Nat) : ∀ x ∈ List.replicate n 0, x < 4294967296 := by
  intro x hx; rw [(List.mem_replicate.1 hx).2]; decide
theorem Wd.made {base : Nat} {w : World} {g m : Nat} (h : w.ownsRow base 29 1 (.slice (some ⟨g, 0, none⟩) m m) m (madeCells #[.int .u32 0] m).toList) : Wd base w g m m (List.replicate m 0) := by
  refine ⟨?_, by simp, rep_lt m⟩
  have e : (madeCells #[Value.int .u32 0] m).toList = u32C (List.replicate m 0) := by
    rw [← u32C_rep]; exact toList_madeCells_one _ _
  rw [← e]
  exact h

set_option maxHeartbeats 4000000 in
theorem together_any (p : Option Addr) (n c m : Nat) (xs : List Value) (L : List (List Nat)) (w : World) (hz : L.length = n) (h : Rw w p xs L) (hm : m ≤ 100) (hall : allB L m = true) :
    Calls Try.prog 91 #[.slice p n c, .int .i64 m] w fun e w' => ∃ g, e = .returned (.slice (some ⟨g, 0, none⟩) m m) ∧ Wd w.heap.size w' g m m (togL L m) ∧ Below w.heap.size w w' := by
  obtain ⟨i0, hi, hz0, hz1, hz2⟩ := info_parts info26
  have HI := Lib.hid (And.intro hi (And.intro hz0 (And.intro hz1 hz2)))
  have HZ := Lib.hid hz
  have HP := Lib.hid h
  have HA := Lib.hid hall
  have hn : n ≤ 100 := by rw [← hz]; exact h.n100
  clear h hz hall hi hz0 hz1 hz2
  go_enter Try.func91, Try.ntmps91
  go_wp2_with (first | (refine wpList_make_full _ rfl _ _ 23 rfl w.heap.size 29 i0 (.int .u32 0) 1 Try.underlying23 HI.out.1 HI.out.2.1 HI.out.2.2.1 .i64 .i64 m m m rfl rfl rfl rfl (by rw [HI.out.2.2.2]; omega) (by unfold maxLen; omega) (Nat.le_refl _) ?_))
  intro w1 g1 g2
  have HW1 := Lib.hid (Wd.made g1)
  have HB1 : Hid (Below w.heap.size w w1) := Lib.hid ((Below.refl w.heap.size w).grown g2 (Nat.le_refl _) (fun k hk => by cases hk))
  clear g1 g2 HI
  go_wp2_with fail
  go_loopw [14] (fun s wr => ∃ k : Nat, k ≤ n ∧ s = .int .i64 k ∧ (∃ l, Wd w.heap.size wr w.heap.size m m l ∧ ∀ a, a < m → l.getD a 0 = colK L a (-1) k) ∧ Below w.heap.size w wr) (fun s _ => n - (intOf s).toNat)
  case atStart => exact ⟨0, Nat.zero_le _, rfl, ⟨_, HW1.out, fun a ha => by rw [getD_rep0]; rfl⟩, HB1.out⟩
  case round =>
    obtain ⟨k, hk, rfl, ⟨l, hl, hc⟩, hb⟩ := hrel
    clear HW1 HB1
    have HL := Lib.hid hl
    have HC := Lib.hid hc
    have HB := Lib.hid hb
    clear hl hc hb
    by_cases hlt : k < n
    · have hltI : decide ((k : Int) < n) = true := decide_eq_true (by omega)
      have hltk : k < L.length := by rw [HZ.out]; exact hlt
      obtain ⟨b, off, q, x, c2, rfl, hrow⟩ := HP.out.rowAt k hltk
      have hck := (hrow.below HB.out).cell
      have hxm : x = m := by rw [← hrow.len]; exact all_at HA.out k hltk
      subst hxm
      obtain ⟨r, hr⟩ : ∃ r, r = L.getD k [] := ⟨_, rfl⟩
      rw [← hr] at hrow
      have HR := Lib.hid hr
      have HROW := Lib.hid hrow
      clear hr hrow hltk
      obtain ⟨WR, hWR⟩ : ∃ W, W = wr := ⟨_, rfl⟩
      rw [← hWR] at HL HB hck ⊢
      clear hWR
      go_wp2_with fail
      go_loopw [20] (fun s wr => ∃ t : Nat, t ≤ x ∧ s = .int .i64 t ∧ (∃ l, Wd w.heap.size wr w.heap.size x x l ∧ ∀ a, a < x → l.getD a 0 = colK L a (-1) (if a < t then k + 1 else k)) ∧ Below w.heap.size w wr) (fun s _ => x - (intOf s).toNat)
      case atStart => exact ⟨0, Nat.zero_le _, rfl, ⟨_, HL.out, fun a ha => by rw [if_neg (Nat.not_lt_zero a)]; exact HC.out a ha⟩, HB.out⟩
      case round =>
        obtain ⟨t, ht, rfl, ⟨l2, hl2, hc2⟩, hb2⟩ := hrel
        have HL2 := Lib.hid hl2
        have HC2 := Lib.hid hc2
        have HB2 := Lib.hid hb2
        clear hl2 hc2 hb2 HL HC
        by_cases htl : t < x
        · have htlI : decide ((t : Int) < x) = true := decide_eq_true (by omega)
          have hrl : t < r.length := by rw [HROW.out.len]; exact htl
          obtain ⟨b2, off2, hb2l, hq, hcr⟩ := HROW.out.nm.cellAt t hrl
          subst hq
          have hcr2 := (HB2.out.cell (p := ⟨b2, off2 + t, none⟩) hb2l).trans hcr
          have hr32 := HROW.out.nm.getD_lt t
          have hl32 := HL2.out.nm.getD_lt t
          have hcl := HL2.out.cell t htl
          have hfl := HL2.out.frozen t
          obtain ⟨y, hy⟩ : ∃ y, y = r.getD t 0 := ⟨_, rfl⟩
          obtain ⟨z, hz⟩ : ∃ z, z = l2.getD t 0 := ⟨_, rfl⟩
          rw [← hy] at hcr2 hr32
          rw [← hz] at hcl hl32
          have hxor : bits .xor .u32 (z : Int) (y : Int) = ((z ^^^ y : Nat) : Int) := u32_xor_nat z y (by omega) (by omega)
          have HSET := Lib.hid (HL2.out.set t (z ^^^ y) (xor_lt _ _ hl32 hr32))
          have HBS := Lib.hid (HB2.out.setCell (p := ⟨w.heap.size, t, none⟩) (Nat.le_refl _) (.int .u32 ((z ^^^ y : Nat) : Int)))
          have HNEW : Hid (∀ a, a < x → (l2.set t (z ^^^ y)).getD a 0 = colK L a (-1) (if a < t + 1 then k + 1 else k)) := Lib.hid (fun a ha => by
            rw [getD_set l2 0 (z ^^^ y) t a (by rw [HL2.out.len]; exact htl)]
            by_cases e : a = t
            · subst e
              have hh := HC2.out a ha
              rw [if_neg (Nat.lt_irrefl a)] at hh
              rw [if_pos rfl, if_pos (Nat.lt_succ_self a), hz, hy, hh, HR.out]
              show _ = (if (k : Int) = -1 then _ else _)
              rw [if_neg (by omega)]
            · rw [if_neg e, HC2.out a ha]
              by_cases e2 : a < t
              · rw [if_pos e2, if_pos (by omega)]
              · rw [if_neg e2, if_neg (by omega)])
          clear hy hz hcr hb2l hrl
          go_wp2_with fail
          go_roundw
          case rel => exact ⟨t + 1, by omega, by go_num, ⟨_, HSET.out, HNEW.out⟩, HBS.out⟩
          case measure => simp [intOf]; omega
        · have htlI : decide ((t : Int) < x) = false := decide_eq_false (by omega)
          have htx : t = x := by omega
          subst htx
          go_wp2_with fail
          go_roundw
          case rel => exact ⟨k + 1, by omega, by go_num, ⟨_, HL2.out, fun a ha => by rw [HC2.out a ha, if_pos ha]⟩, HB2.out⟩
          case measure => simp [intOf]; omega
    · have hltI : decide ((k : Int) < n) = false := decide_eq_false (by omega)
      have hkn : k = n := by omega
      subst hkn
      have HT : Hid (l = togL L m) := Lib.hid (ext_getD (by rw [HL.out.len, togL_len]) (fun a ha => by
        rw [HL.out.len] at ha
        rw [HC.out a ha, togL_at L m a ha]
        unfold colX
        rw [HZ.out]))
      go_wp2_with fail
      go_ret
      exact ⟨_, rfl, by rw [← HT.out]; exact HL.out, HB.out⟩
end Go.Proofs.Ytflakmabciokbaa
/- Whether two rows are the same (slices.Equal); no condition but that they read. -/
namespace Go.Proofs.Ytflakmabciokbaa
set_option linter.unusedVariables false
open Go.ChangeShapes Go.WideShapes Go.ChangeAt Go.RowKit

theorem take_next {l l' : List Nat} {k : Nat} (h : l.take k = l'.take k) (hk : k < l.length) (hk' : k < l'.length) (e : l.getD k 0 = l'.getD k 0) : l.take (k + 1) = l'.take (k + 1) := by
  rw [take_getD l 0 k hk, take_getD l' 0 k hk', h, e]
theorem below_drewN {W w : World} (h : Below W.heap.size W w) (m : Nat) : Below W.heap.size W (w.drewN m) := ⟨h.os, h.tape, h.output, h.size, h.block⟩
set_option maxHeartbeats 1000000 in
theorem equal_any (p : Option Addr) (n c : Nat) (q : Option Addr) (n' c' : Nat) (l l' : List Nat) (w : World) (hz : l.length = n) (hz' : l'.length = n') (hm : n ≤ 100) (hm' : n' ≤ 100) (h : Nm w p l) (h' : Nm w q l') :
    Calls Try.prog 100 #[.slice p n c, .slice q n' c'] w fun e w' => e = .returned (.bool (decide (l = l'))) ∧ Below w.heap.size w w' := by
  have HZ := Lib.hid hz
  have HZ' := Lib.hid hz'
  have HP := Lib.hid h
  have HP' := Lib.hid h'
  clear h h' hz hz'
  obtain ⟨r, hr⟩ : ∃ r, r = decide (l = l') := ⟨_, rfl⟩
  rw [← hr]
  have HR := Lib.hid hr
  clear hr
  by_cases hn : n = n'
  · subst hn
    go_enter Try.func100, Try.ntmps100
    go_wp2_with fail
    go_loopw [13] (fun i wr => ∃ k : Nat, k ≤ n ∧ i = .int .i64 k ∧ Hid (l.take k = l'.take k) ∧ Below w.heap.size w wr) (fun i _ => n - (intOf i).toNat)
    case atStart => exact ⟨0, Nat.zero_le _, rfl, Lib.hid rfl, Below.refl _ _⟩
    case round =>
      obtain ⟨k, hk, rfl, hi, hb⟩ := hrel
      have HB := Lib.hid hb
      clear hb
      by_cases hlt : k < n
      · obtain ⟨b, off, hb1, rfl, hc1⟩ := HP.out.cellAt k (by rw [HZ.out]; exact hlt)
        obtain ⟨b', off', hb1', rfl, hc1'⟩ := HP'.out.cellAt k (by rw [HZ'.out]; exact hlt)
        have c0 := (HB.out.cell (p := ⟨b, off + k, none⟩) hb1).trans hc1
        have d0 := (HB.out.cell (p := ⟨b', off' + k, none⟩) hb1').trans hc1'
        obtain ⟨x, hx⟩ : ∃ x, x = l.getD k 0 := ⟨_, rfl⟩
        obtain ⟨y, hy⟩ : ∃ y, y = l'.getD k 0 := ⟨_, rfl⟩
        rw [← hx] at c0
        rw [← hy] at d0
        have HX := Lib.hid hx
        have HY := Lib.hid hy
        clear hx hy hb1 hb1' hc1 hc1'
        by_cases hxy : x = y
        · have HI := Lib.hid (take_next hi.out (by rw [HZ.out]; exact hlt) (by rw [HZ'.out]; exact hlt) (by rw [← HX.out, ← HY.out]; exact hxy))
          have e1 : ((x : Int) != (y : Int)) = false := by simp; omega
          have HXY := Lib.hid hxy
          clear hxy hi
          go_wp2_with fail
          go_quiet (fail)
          go_wp2
          go_roundw
          case rel => exact ⟨k + 1, by omega, by go_num, HI, below_drewN HB.out _⟩
          case measure => simp [intOf]; omega
        · have e1 : ((x : Int) != (y : Int)) = true := by simp; omega
          have hf : r = false := by
            rw [HR.out]
            exact decide_eq_false (fun e => hxy (by rw [HX.out, HY.out, e]))
          subst hf
          have HXY := Lib.hid hxy
          clear hxy hi
          go_wp2_with fail
          go_quiet (fail)
          go_wp2
          go_ret
          exact ⟨rfl, below_drewN HB.out _⟩
      · have hkn : k = n := by omega
        subst hkn
        have hf : r = true := by
          rw [HR.out]
          refine decide_eq_true ?_
          have := hi.out
          rwa [List.take_of_length_le (Nat.le_of_eq HZ.out), List.take_of_length_le (Nat.le_of_eq HZ'.out)] at this
        subst hf
        clear hi
        go_wp2
        go_ret
        exact ⟨rfl, HB.out⟩
  · have hf : r = false := by
      rw [HR.out]
      refine decide_eq_false (fun e => hn ?_)
      rw [← HZ.out, ← HZ'.out, e]
    have e1 : ((n : Int) != (n' : Int)) = true := by simp; omega
    subst hf
    clear hn
    go_enter Try.func100, Try.ntmps100
    go_wp2_with fail
    go_ret
    exact ⟨rfl, Below.refl _ _⟩
end Go.Proofs.Ytflakmabciokbaa
/- Whether banks are right, whether there is such a bank, such a word, and what is read; no condition but that they read. -/
namespace Go.Proofs.Ytflakmabciokbaa
set_option linter.unusedVariables false
open Go.ChangeShapes Go.WideShapes Go.ChangeAt Go.RowKit

/-- The cells of banks. -/
def bkv (p : Option Addr) (n c : Nat) (pp : Option Addr) (m cc : Nat) (z : Int) : Array Value := #[.slice p n c, .slice pp m cc, .int .i64 z]

set_option maxHeartbeats 4000000 in
theorem right_any (p : Option Addr) (n c : Nat) (xs : List Value) (pp : Option Addr) (m cc : Nat) (B : Bk) (w : World) (h : Bn w p n c xs pp m cc B) :
    Calls Try.prog 88 #[.agg #[.slice p n c, .slice pp m cc, .int .i64 B.lost]] w fun e w' => e = .returned (.bool (rightB B)) ∧ Below w.heap.size w w' := by
  have hm := h.m100
  have hn := h.n100
  have HH := Lib.hid h
  have hsz := fun w' hb => sized_any p n c xs pp m cc B w' (h.below hb)
  obtain ⟨r, hr⟩ : ∃ r, r = rightB B := ⟨_, rfl⟩
  obtain ⟨s, hs⟩ : ∃ s, s = sizedB B := ⟨_, rfl⟩
  have hr2 : r = (s && (decide (0 ≤ B.lost ∧ B.lost ≤ n) && fineB B)) := by rw [hr, hs]; unfold rightB; rw [h.zn]
  rw [← hr]
  rw [← hs] at hsz
  have HSZ := Lib.hid hsz
  have HS := Lib.hid hs
  have HR := Lib.hid hr2
  obtain ⟨z, hz⟩ : ∃ z, z = B.lost := ⟨_, rfl⟩
  rw [← hz] at HSZ HR ⊢
  have HZ := Lib.hid hz
  clear h hs hr hr2 hz hsz
  go_enter Try.func88, Try.ntmps88
  go_wp2_with fail
  have HB0 : Hid (Below w.heap.size w (w.alloc (.cells #[.slice p n c, .slice pp m cc, .int .i64 z] 25))) := Lib.hid ((Below.refl _ _).alloc (Nat.le_refl _) _)
  refine (HSZ.out _ HB0.out).mono ?_
  rintro e w1 ⟨rfl, hb1⟩
  have HK := Lib.hid (Blk.track1 hb1)
  have HB1 : Hid (Below w.heap.size w w1) := Lib.hid (HB0.out.trans (hb1.mono HB0.out.size))
  clear hb1 HB0
  have kc := HK.out.c
  have hnI : (0 : Int) ≤ (n : Int) := by omega
  cases s with
  | false =>
    go_wp2_with fail
    go_ret
    exact ⟨by rw [HR.out]; rfl, HB1.out⟩
  | true =>
    by_cases h0 : z < 0
    · have e0 : decide (z < 0) = true := decide_eq_true h0
      have hf : r = false := by rw [HR.out, decide_eq_false (by omega)]; rfl
      subst hf
      clear h0
      go_wp2_with fail
      go_ret
      exact ⟨rfl, HB1.out⟩
    · have e0 : decide (z < 0) = false := decide_eq_false h0
      by_cases h1 : (n : Int) < z
      · have e1 : decide ((n : Int) < z) = true := decide_eq_true h1
        have hf : r = false := by rw [HR.out, decide_eq_false (by omega)]; rfl
        subst hf
        clear h0 h1
        go_wp2_with fail
        go_ret
        exact ⟨rfl, HB1.out⟩
      · have e1 : decide ((n : Int) < z) = false := decide_eq_false h1
        have hr3 : r = fineB B := by rw [HR.out, decide_eq_true (by omega)]; rfl
        have hall : allB B.rows m = true := by
          have := HS.out
          unfold sizedB at this
          rw [HH.out.zm] at this
          simpa using (Bool.and_eq_true _ _ ▸ this.symm).2
        have HALL := Lib.hid hall
        clear hall
        by_cases hz0 : z = 0
        · have hr4 : r = decide (B.par = togL B.rows m) := by
            rw [hr3]; unfold fineB; rw [if_pos (by rw [← HZ.out]; exact hz0), HH.out.zm]
          have HR4 := Lib.hid hr4
          subst hz0
          clear hr3 hr4 HR HZ h0 h1 e0 e1
          have HH1 := Lib.hid (HH.out.below HB1.out)
          go_upto_region 4 with fail
          refine region_plan (fun w' : World => (∀ j, w'.cell? ⟨w.heap.size, j, none⟩ = (#[.slice p n c, .slice pp m cc, .int .i64 0] : Array Value)[j]?) ∧ Below w1.heap.size w1 w') 9 [(0, true), (1, true), (2, true), (3, true), (4, true), (5, true), (6, true), (7, false), (8, false)] (by kernel_rfl) (by kernel_rfl) (sOf HK ((Below.refl _ _).drew)) ?_
          iterate 7
            refine plan_read (v := ?_) rfl (by rfl) ?_ ?_
            rotate_left
            · intro w' hS
              try dsimp only at hS
              go_simp
              try with_reducible rfl
            try simp only [Act.put, List.setIfInBounds_toArray, List.set_cons_zero, List.set_cons_succ, List.getElem_toArray, List.getElem_cons_zero, List.getElem_cons_succ]
          refine plan_call (F := 91) (args := ?_) rfl (by rfl) ?_ ?_
          rotate_left
          · go_simp
            rfl
          refine (together_any p n c m xs B.rows _ HH1.out.zn (HH1.out.rw_.below (Below.refl _ _).drew) hm HALL.out).mono ?_
          rintro e w2 ⟨g, rfl, hwd, hb2⟩
          have HB2 : Hid (Below w1.heap.size w1 w2) := Lib.hid ((Below.refl _ _).drew.trans hb2)
          have HWD := Lib.hid hwd
          clear hwd hb2
          refine ⟨_, rfl, sOf HK HB2.out, ?_⟩
          try simp only [Act.put, List.setIfInBounds_toArray, List.set_cons_zero, List.set_cons_succ, List.getElem_toArray, List.getElem_cons_zero, List.getElem_cons_succ]
          refine plan_call (F := 100) (args := ?_) rfl (by rfl) ?_ ?_
          rotate_left
          · go_simp
            rfl
          refine (equal_any _ m cc _ m m B.par (togL B.rows m) _ HH1.out.zm (togL_len _ _) hm hm (HH1.out.nm.below HB2.out) HWD.out.nm).mono ?_
          rintro e w3 ⟨rfl, hb3⟩
          have HB3 : Hid (Below w1.heap.size w1 w3) := Lib.hid (HB2.out.trans (hb3.mono HB2.out.size))
          clear hb3
          rw [← HR4.out]
          refine ⟨_, rfl, sOf HK HB3.out, ?_⟩
          try simp only [Act.put, List.setIfInBounds_toArray, List.set_cons_zero, List.set_cons_succ, List.getElem_toArray, List.getElem_cons_zero, List.getElem_cons_succ]
          refine plan_nil ?_
          simp only [List.drop_succ_cons, List.drop_zero]
          go_wp2_with fail
          go_ret
          exact ⟨rfl, HB1.out.trans (HB3.out.mono HB1.out.size)⟩
        · have e2 : (z == 0) = false := by simpa using hz0
          have hr4 : r = zeroB (B.rows.getD (z - 1).toNat []) := by
            rw [hr3]; unfold fineB; rw [if_neg (by rw [← HZ.out]; exact hz0), HZ.out]
          obtain ⟨k, hk⟩ : ∃ k : Nat, z = (k : Int) + 1 := ⟨(z - 1).toNat, by omega⟩
          subst hk
          have hkn : k < n := by omega
          have e3 : ((k : Int) + 1 - 1).toNat = k := by omega
          rw [e3] at hr4
          have e4 : (k : Int) + 1 - 1 = (k : Int) := by omega
          have hkI : (0 : Int) ≤ (k : Int) := by omega
          have hkI2 : (k : Int) < (n : Int) := by omega
          obtain ⟨b, off, q, x, c2, rfl, hrow⟩ := (HH.out.rw_.below HB1.out).rowAt k (by rw [HH.out.zn]; exact hkn)
          have hck := hrow.cell
          have HROW := Lib.hid hrow
          have HR4 := Lib.hid hr4
          clear hrow hr4 hr3 hz0 h0 h1
          have wk : IntKind.i64.wrap ((k : Int) + 1 - 1) = (k : Int) := by rw [IntKind.wrap_i64]; omega
          go_wp2_with fail
          refine (containsz_any q x c2 _ _ HROW.out.len HROW.out.x100 HROW.out.nm).mono ?_
          rintro e w2 ⟨rfl, rfl⟩
          rw [← HR4.out]
          go_wp2_with fail
          go_ret
          exact ⟨by simp, HB1.out⟩
end Go.Proofs.Ytflakmabciokbaa
/- Whether there is such a bank, such a word, and what is read; no condition but that they read. -/
namespace Go.Proofs.Ytflakmabciokbaa
set_option linter.unusedVariables false
open Go.ChangeShapes Go.WideShapes Go.ChangeAt Go.RowKit

set_option maxHeartbeats 1000000 in
theorem hasbank_any (p : Option Addr) (n c : Nat) (xs : List Value) (pp : Option Addr) (m cc : Nat) (B : Bk) (k : Int) (w : World) (h : Bn w p n c xs pp m cc B) :
    Calls Try.prog 90 #[.agg #[.slice p n c, .slice pp m cc, .int .i64 B.lost], .int .i64 k] w fun e w' => e = .returned (.bool (hasB B k)) ∧ Below w.heap.size w w' := by
  have hm := h.m100
  have hn := h.n100
  have hri := fun w' hb => right_any p n c xs pp m cc B w' (h.below hb)
  obtain ⟨r, hr⟩ : ∃ r, r = rightB B := ⟨_, rfl⟩
  obtain ⟨z, hz⟩ : ∃ z, z = B.lost := ⟨_, rfl⟩
  obtain ⟨y, hy⟩ : ∃ y, y = hasB B k := ⟨_, rfl⟩
  have hy2 : y = (r && decide (0 ≤ k ∧ k < n)) := by rw [hy, hr]; unfold hasB; rw [h.zn]
  rw [← hr, ← hz] at hri
  rw [← hz, ← hy]
  have HRI := Lib.hid hri
  have HY := Lib.hid hy2
  clear h hr hz hy hy2 hri
  go_enter Try.func90, Try.ntmps90
  go_wp2_with fail
  have HB0 : Hid (Below w.heap.size w (w.alloc (.cells #[.slice p n c, .slice pp m cc, .int .i64 z] 25))) := Lib.hid ((Below.refl _ _).alloc (Nat.le_refl _) _)
  refine (HRI.out _ HB0.out).mono ?_
  rintro e w1 ⟨rfl, hb1⟩
  have kc := (Blk.track1 hb1).c
  have HB1 : Hid (Below w.heap.size w w1) := Lib.hid (HB0.out.trans (hb1.mono HB0.out.size))
  clear hb1 HB0 HRI
  cases r with
  | false =>
    go_wp2_with fail
    go_ret
    exact ⟨by rw [HY.out]; rfl, HB1.out⟩
  | true =>
    by_cases h0 : 0 ≤ k
    · have e0 : decide (0 ≤ k) = true := decide_eq_true h0
      by_cases h1 : k < (n : Int)
      · have e1 : decide (k < (n : Int)) = true := decide_eq_true h1
        have hf : y = true := by rw [HY.out, decide_eq_true ⟨h0, h1⟩]; rfl
        subst hf
        clear h0 h1
        go_wp2_with fail
        go_ret
        exact ⟨rfl, HB1.out⟩
      · have e1 : decide (k < (n : Int)) = false := decide_eq_false h1
        have hf : y = false := by rw [HY.out, decide_eq_false (by omega)]; rfl
        subst hf
        clear h0 h1
        go_wp2_with fail
        go_ret
        exact ⟨rfl, HB1.out⟩
    · have e0 : decide (0 ≤ k) = false := decide_eq_false h0
      have hf : y = false := by rw [HY.out, decide_eq_false (by omega)]; rfl
      subst hf
      clear h0
      go_wp2_with fail
      go_ret
      exact ⟨rfl, HB1.out⟩

set_option maxHeartbeats 1000000 in
theorem hasword_any (p : Option Addr) (n c : Nat) (xs : List Value) (pp : Option Addr) (m cc : Nat) (B : Bk) (k a : Int) (w : World) (h : Bn w p n c xs pp m cc B) :
    Calls Try.prog 98 #[.agg #[.slice p n c, .slice pp m cc, .int .i64 B.lost], .int .i64 k, .int .i64 a] w fun e w' => e = .returned (.bool (hasW B k a)) ∧ Below w.heap.size w w' := by
  have hm := h.m100
  have hri := fun w' hb => hasbank_any p n c xs pp m cc B k w' (h.below hb)
  obtain ⟨r, hr⟩ : ∃ r, r = hasB B k := ⟨_, rfl⟩
  obtain ⟨z, hz⟩ : ∃ z, z = B.lost := ⟨_, rfl⟩
  obtain ⟨y, hy⟩ : ∃ y, y = hasW B k a := ⟨_, rfl⟩
  have hy2 : y = (r && decide (0 ≤ a ∧ a < m)) := by rw [hy, hr]; unfold hasW; rw [h.zm]
  rw [← hr, ← hz] at hri
  rw [← hz, ← hy]
  have HRI := Lib.hid hri
  have HY := Lib.hid hy2
  clear h hr hz hy hy2 hri
  go_enter Try.func98, Try.ntmps98
  go_wp2_with fail
  have HB0 : Hid (Below w.heap.size w (w.alloc (.cells #[.slice p n c, .slice pp m cc, .int .i64 z] 25))) := Lib.hid ((Below.refl _ _).alloc (Nat.le_refl _) _)
  refine (HRI.out _ HB0.out).mono ?_
  rintro e w1 ⟨rfl, hb1⟩
  have kc := (Blk.track1 hb1).c
  have HB1 : Hid (Below w.heap.size w w1) := Lib.hid (HB0.out.trans (hb1.mono HB0.out.size))
  clear hb1 HB0 HRI
  cases r with
  | false =>
    go_wp2_with fail
    go_ret
    exact ⟨by rw [HY.out]; rfl, HB1.out⟩
  | true =>
    by_cases h0 : 0 ≤ a
    · have e0 : decide (0 ≤ a) = true := decide_eq_true h0
      by_cases h1 : a < (m : Int)
      · have e1 : decide (a < (m : Int)) = true := decide_eq_true h1
        have hf : y = true := by rw [HY.out, decide_eq_true ⟨h0, h1⟩]; rfl
        subst hf
        clear h0 h1
        go_wp2_with fail
        go_ret
        exact ⟨rfl, HB1.out⟩
      · have e1 : decide (a < (m : Int)) = false := decide_eq_false h1
        have hf : y = false := by rw [HY.out, decide_eq_false (by omega)]; rfl
        subst hf
        clear h0 h1
        go_wp2_with fail
        go_ret
        exact ⟨rfl, HB1.out⟩
    · have e0 : decide (0 ≤ a) = false := decide_eq_false h0
      have hf : y = false := by rw [HY.out, decide_eq_false (by omega)]; rfl
      subst hf
      clear h0
      go_wp2_with fail
      go_ret
      exact ⟨rfl, HB1.out⟩

set_option maxHeartbeats 1000000 in
theorem read_any (p : Option Addr) (n c : Nat) (xs : List Value) (pp : Option Addr) (m cc : Nat) (B : Bk) (k a : Int) (w : World) (h : Bn w p n c xs pp m cc B) :
    Calls Try.prog 81 #[.agg #[.slice p n c, .slice pp m cc, .int .i64 B.lost], .int .i64 k, .int .i64 a] w fun e w' => e = .returned (.tuple #[.int .u32 (readN B k a : Nat), .int .i64 (readE B k a)]) ∧ Below w.heap.size w w' := by
  have hm := h.m100
  have hn := h.n100
  have HH := Lib.hid h
  have hri := fun w' hb => hasword_any p n c xs pp m cc B k a w' (h.below hb)
  obtain ⟨r, hr⟩ : ∃ r, r = hasW B k a := ⟨_, rfl⟩
  obtain ⟨z, hz⟩ : ∃ z, z = B.lost := ⟨_, rfl⟩
  rw [← hr, ← hz] at hri
  rw [← hz]
  have HRI := Lib.hid hri
  have HR := Lib.hid hr
  have HZ := Lib.hid hz
  clear h hr hz hri
  have HB0 : Hid (Below w.heap.size w (w.alloc (.cells #[.slice p n c, .slice pp m cc, .int .i64 z] 25))) := Lib.hid ((Below.refl _ _).alloc (Nat.le_refl _) _)
  cases r with
  | false =>
    have e1 : readN B k a = 0 := by unfold readN; rw [← HR.out]; rfl
    have e2 : readE B k a = 1 := by unfold readE; rw [← HR.out]; rfl
    rw [e1, e2]
    clear e1 e2
    go_enter Try.func81, Try.ntmps81
    go_wp2_with fail
    refine (HRI.out _ HB0.out).mono ?_
    rintro e w1 ⟨rfl, hb1⟩
    have HB1 : Hid (Below w.heap.size w w1) := Lib.hid (HB0.out.trans (hb1.mono HB0.out.size))
    clear hb1
    go_wp2_with fail
    go_ret2
    exact ⟨rfl, HB1.out⟩
  | true =>
    have hw := hasW_inv HR.out.symm
    obtain ⟨hright, hk0, hk1, ha0, ha1⟩ := hw
    have hri := right_inv hright
    rw [HH.out.zn] at hk1 hri
    rw [HH.out.zm] at ha1 hri
    have HRT := Lib.hid hright
    have hn8 : n ≤ 8 := by omega
    have hall : allB B.rows m = true := hri.2.2.2.2.1
    have HALL := Lib.hid hall
    have e1 : readN B k a = if z = k + 1 then 0 else wordB B k a := by unfold readN; rw [← HR.out, if_pos rfl, HZ.out]
    have e2 : readE B k a = if z = k + 1 then 8 else 0 := by unfold readE; rw [← HR.out, if_pos rfl, HZ.out]
    rw [e1, e2]
    obtain ⟨j, rfl⟩ := Int.eq_ofNat_of_zero_le hk0
    obtain ⟨i, rfl⟩ := Int.eq_ofNat_of_zero_le ha0
    have wk : IntKind.i64.wrap ((j : Int) + 1) = (j : Int) + 1 := by rw [IntKind.wrap_i64]; omega
    clear e1 e2 hright hri hall
    by_cases hl : z = (j : Int) + 1
    · rw [if_pos hl, if_pos hl]
      have e0 : (z == (j : Int) + 1) = true := by simpa using hl
      have HL := Lib.hid hl
      clear hl
      go_enter Try.func81, Try.ntmps81
      go_wp2_with fail
      refine (HRI.out _ HB0.out).mono ?_
      rintro e w1 ⟨rfl, hb1⟩
      have kc := (Blk.track1 hb1).c
      have HB1 : Hid (Below w.heap.size w w1) := Lib.hid (HB0.out.trans (hb1.mono HB0.out.size))
      clear hb1
      go_wp2_with fail
      go_ret2
      exact ⟨rfl, HB1.out⟩
    · rw [if_neg hl, if_neg hl]
      have hd : wordB B (j : Int) (i : Int) = (B.rows.getD j []).getD i 0 := by unfold wordB; simp only [Int.toNat_natCast]
      rw [hd]
      obtain ⟨v0, hv0⟩ : ∃ v, v = (B.rows.getD j []).getD i 0 := ⟨_, rfl⟩
      rw [← hv0]
      have HV0 := Lib.hid hv0
      clear hd hv0
      have e0 : (z == (j : Int) + 1) = false := by simpa using hl
      have HL := Lib.hid hl
      clear hl
      go_enter Try.func81, Try.ntmps81
      go_wp2_with fail
      refine (HRI.out _ HB0.out).mono ?_
      rintro e w1 ⟨rfl, hb1⟩
      have kc := (Blk.track1 hb1).c
      have HB1 : Hid (Below w.heap.size w w1) := Lib.hid (HB0.out.trans (hb1.mono HB0.out.size))
      clear hb1
      obtain ⟨b, off, q, x, c2, rfl, hrow⟩ := (HH.out.rw_.below HB1.out).rowAt j (by rw [HH.out.zn]; omega)
      have hck := hrow.cell
      have hxm : x = m := by rw [← hrow.len]; exact all_at HALL.out j (by rw [HH.out.zn]; omega)
      subst hxm
      obtain ⟨b2, off2, hb2l, hq, hcr⟩ := hrow.nm.cellAt i (by rw [hrow.len]; omega)
      subst hq
      rw [← HV0.out] at hcr
      clear hrow hb2l
      go_wp2_with fail
      go_ret2
      exact ⟨rfl, HB1.out⟩
end Go.Proofs.Ytflakmabciokbaa
