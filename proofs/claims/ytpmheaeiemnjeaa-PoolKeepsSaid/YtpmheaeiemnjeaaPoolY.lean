/- What an argument that is a list of things to do with a pool reads as; no condition. -/
import Derived.Test.YtpmheaeiemnjeaaPoolX
namespace Go.Proofs.Ytpmheaeiemnjeaa
set_option linter.unusedVariables false
open Go.ChangeShapes Go.WideShapes Go.ChangeAt Go.RowKit Go.Deep

/-- A thing to do with a pool. -/
structure Dd where
  d : Nat
  m : Msg
  p : Nat
  b : Nat
def Dd.row (x : Dd) : Array Value := #[.int .u8 x.d, .int .i64 x.m.k, .int .i64 x.m.f, .int .i64 x.m.t, .int .i64 x.m.l, .int .i64 x.m.o, .int .i64 x.m.a, .bool x.m.own, .int .u32 x.m.n, .int .u32 x.m.v, .int .u8 x.p, .int .u8 x.b]
structure Dd.Fits (x : Dd) : Prop where
  d : x.d < 256
  n : x.m.n < 4294967296
  v : x.m.v < 4294967296
  p : x.p < 256
  b : x.b < 256
def dd0 : Dd := ⟨0, m0, 0, 0⟩
theorem dd0_fits : dd0.Fits := ⟨by decide, by decide, by decide, by decide, by decide⟩
theorem cells_do : Try.prog.cellsOf 51 = 12 := by kernel_rfl
section
variable {H : Type} {enc : TypeId × Value → H} {w : World} {base : Nat} {spare : Nat → Bool} {held : Bool}
theorem do_of_cells {fuel : Nat} {cs : List Value} {x : DataW H × List MemPlace} (h : DataW.trod enc Try.prog w base spare held fuel 51 cs = some x) :
    ∃ y : Dd, cs = y.row.toList ∧ y.Fits := by
  obtain ⟨xs, n, _, _, hlen, hxl, hf⟩ := DataW.trod_struct Try.underlying51 h
  rw [cells_do] at hlen
  match cs, hlen with
  | [v0, v1, v2, v3, v4, v5, v6, v7, v8, v9, v10, v11], _ =>
    match xs, hxl with
    | [y0, y1, y2, y3], _ =>
      have e0 : DataW.trod enc Try.prog w base spare held n 5 [v0] = some y0 := by simpa [cells_u8, cells_msg] using hf 0 _ rfl
      have e1 : DataW.trod enc Try.prog w base spare held n 27 [v1, v2, v3, v4, v5, v6, v7, v8, v9] = some y1 := by simpa [cells_u8, cells_msg] using hf 1 _ rfl
      have e2 : DataW.trod enc Try.prog w base spare held n 5 [v10] = some y2 := by simpa [cells_u8, cells_msg] using hf 2 _ rfl
      have e3 : DataW.trod enc Try.prog w base spare held n 5 [v11] = some y3 := by simpa [cells_u8, cells_msg] using hf 3 _ rfl
      obtain ⟨x0, q0, _, wf0⟩ := DataW.trod_int Try.underlying5 e0
      obtain ⟨m, q1, hn, hv⟩ := msg_of_cells e1
      obtain ⟨x2, q2, _, wf2⟩ := DataW.trod_int Try.underlying5 e2
      obtain ⟨x3, q3, _, wf3⟩ := DataW.trod_int Try.underlying5 e3
      have b0 := bounds_u8 wf0
      have b2 := bounds_u8 wf2
      have b3 := bounds_u8 wf3
      obtain ⟨n0, rfl⟩ := Int.eq_ofNat_of_zero_le b0.1
      obtain ⟨n2, rfl⟩ := Int.eq_ofNat_of_zero_le b2.1
      obtain ⟨n3, rfl⟩ := Int.eq_ofNat_of_zero_le b3.1
      have f0 : n0 < 256 := by omega
      have f2 : n2 < 256 := by omega
      have f3 : n3 < 256 := by omega
      clear b0 b2 b3 wf0 wf2 wf3 e0 e1 e2 e3
      obtain ⟨mk, mf, mt, ml, mo, ma, mown, mn, mv⟩ := m
      unfold Msg.row at q1
      simp at q0 q1 q2 q3
      obtain ⟨a1, a2, a3, a4, a5, a6, a7, a8, a9⟩ := q1
      subst q0 q2 q3 a1 a2 a3 a4 a5 a6 a7 a8 a9
      exact ⟨⟨n0, ⟨mk, mf, mt, ml, mo, ma, mown, mn, mv⟩, n2, n3⟩, rfl, ⟨f0, hn, hv, f2, f3⟩⟩
theorem dos_of_cells {fuel : Nat} {p : Option Addr} {len cap : Nat} {x : DataW H × List MemPlace} (h : DataW.trod enc Try.prog w base spare held fuel 47 [.slice p len cap] = some x) :
    ∃ ds : List Dd, ds.length = len ∧ len ≤ maxLen ∧ (∀ k, (ds.getD k dd0).Fits) ∧ Els w p 12 len (fun k => (ds.getD k dd0).row) := by
  rcases open_slice Try.underlying47 h with ⟨hcs, _⟩ | ⟨a, len', cap', m, n, D, Pl, hcs, _, hl, hm, hmm, _, hi⟩
  · simp at hcs
    obtain ⟨rfl, rfl, rfl⟩ := hcs
    exact ⟨[], rfl, Nat.zero_le _, fun k => dd0_fits, fun h0 => absurd h0 (Nat.lt_irrefl 0)⟩
  · simp at hcs
    obtain ⟨rfl, rfl, rfl⟩ := hcs
    have hlm : len ≤ m := by rw [hmm]; split <;> omega
    have hex : ∀ i, i < len → ∃ y : Dd, (∀ j, j < 12 → w.cell? ((a.add (i * 12)).add j) = y.row.toList[j]?) ∧ y.Fits := fun i hlt => by
      obtain ⟨cs', hc, ht⟩ := hi i (by omega)
      rw [cells_do] at hc
      obtain ⟨y, rfl, hy⟩ := do_of_cells ht
      exact ⟨y, (World.cells?_some hc).2.2, hy⟩
    have : Inhabited Dd := ⟨dd0⟩
    obtain ⟨f, hf⟩ := choose_lt hex
    have e : ∀ k, k < len → ((List.range len).map f).getD k dd0 = f k := fun k hk => by simp [List.getD, hk]
    refine ⟨(List.range len).map f, by simp, Nat.le_trans hl hm, fun k => ?_, fun h0 => ?_⟩
    · by_cases hk : k < len
      · rw [e k hk]; exact (hf k hk).2
      · rw [List.getD_eq_getElem?_getD, List.getElem?_eq_none (by simp; omega)]
        exact dd0_fits
    · have hc0 := (hf 0 h0).1 0 (by omega)
      have hz : (a.add (0 * 12)).add 0 = a.add 0 := by simp [Addr.add]
      rw [hz] at hc0
      obtain ⟨hlt, ha⟩ := add_zero_spot (v := .int .u8 (f 0).d) (by rw [hc0]; rfl)
      refine ⟨a.block, a.off, hlt, by rw [← ha], fun k hk j hj => ?_⟩
      have := (hf k hk).1 j hj
      rw [ha, add_plain, add_plain] at this
      rw [this]
      simp only [e k hk, Array.getElem?_toList]
end
/-- Twelve cells behind one another. -/
structure Twelve (w : World) (b o : Nat) (v0 v1 v2 v3 v4 v5 v6 v7 v8 v9 v10 v11 : Value) : Prop where
  c0 : w.cell? ⟨b, o, none⟩ = some v0
  c1 : w.cell? ⟨b, o + 1, none⟩ = some v1
  c2 : w.cell? ⟨b, o + 2, none⟩ = some v2
  c3 : w.cell? ⟨b, o + 3, none⟩ = some v3
  c4 : w.cell? ⟨b, o + 4, none⟩ = some v4
  c5 : w.cell? ⟨b, o + 5, none⟩ = some v5
  c6 : w.cell? ⟨b, o + 6, none⟩ = some v6
  c7 : w.cell? ⟨b, o + 7, none⟩ = some v7
  c8 : w.cell? ⟨b, o + 8, none⟩ = some v8
  c9 : w.cell? ⟨b, o + 9, none⟩ = some v9
  c10 : w.cell? ⟨b, o + 10, none⟩ = some v10
  c11 : w.cell? ⟨b, o + 11, none⟩ = some v11
theorem Twelve.of {w : World} {b o : Nat} {v0 v1 v2 v3 v4 v5 v6 v7 v8 v9 v10 v11 : Value} (h : ∀ j, j < 12 → w.cell? ⟨b, o + j, none⟩ = #[v0, v1, v2, v3, v4, v5, v6, v7, v8, v9, v10, v11][j]?) : Twelve w b o v0 v1 v2 v3 v4 v5 v6 v7 v8 v9 v10 v11 :=
  ⟨h 0 (by omega), h 1 (by omega), h 2 (by omega), h 3 (by omega), h 4 (by omega), h 5 (by omega), h 6 (by omega), h 7 (by omega), h 8 (by omega), h 9 (by omega), h 10 (by omega), h 11 (by omega)⟩
theorem Twelve.below {w w' : World} {B b o : Nat} {v0 v1 v2 v3 v4 v5 v6 v7 v8 v9 v10 v11 : Value} (h : Twelve w b o v0 v1 v2 v3 v4 v5 v6 v7 v8 v9 v10 v11) (hb : Below B w w') (hlt : b < B) : Twelve w' b o v0 v1 v2 v3 v4 v5 v6 v7 v8 v9 v10 v11 :=
  ⟨(hb.cell (p := ⟨b, o, none⟩) hlt).trans h.c0, (hb.cell (p := ⟨b, o + 1, none⟩) hlt).trans h.c1, (hb.cell (p := ⟨b, o + 2, none⟩) hlt).trans h.c2, (hb.cell (p := ⟨b, o + 3, none⟩) hlt).trans h.c3, (hb.cell (p := ⟨b, o + 4, none⟩) hlt).trans h.c4, (hb.cell (p := ⟨b, o + 5, none⟩) hlt).trans h.c5, (hb.cell (p := ⟨b, o + 6, none⟩) hlt).trans h.c6, (hb.cell (p := ⟨b, o + 7, none⟩) hlt).trans h.c7, (hb.cell (p := ⟨b, o + 8, none⟩) hlt).trans h.c8, (hb.cell (p := ⟨b, o + 9, none⟩) hlt).trans h.c9, (hb.cell (p := ⟨b, o + 10, none⟩) hlt).trans h.c10, (hb.cell (p := ⟨b, o + 11, none⟩) hlt).trans h.c11⟩
/-- Two rows of unlike elements lie in blocks of their own. -/
theorem own_apart {w : World} {b b' : Nat} {e e' : TypeId} {s s' n n' : Nat} {v v' : Value} {xs xs' : List Value} (h : w.ownsRow b e s v n xs) (h' : w.ownsRow b' e' s' v' n' xs') (hne : e ≠ e') : ∀ g, v.ownBlock = some g → v'.ownBlock ≠ some g := by
  intro g hg hg'
  obtain ⟨_, ⟨rfl, _⟩ | ⟨g1, c1, cur1, rfl, _, hh1, _⟩⟩ := h
  · cases hg
  · obtain ⟨_, ⟨rfl, _⟩ | ⟨g2, c2, cur2, rfl, _, hh2, _⟩⟩ := h'
    · cases hg'
    · simp [Value.ownBlock] at hg hg'
      subst hg hg'
      rw [hh1] at hh2
      simp at hh2
      exact hne hh2.2
end Go.Proofs.Ytpmheaeiemnjeaa
