/- What an argument that is banks, a word to be written, or a list of those, reads as; no condition. -/
import Derived.Test.YtkeemmedbbammaaParV
import Derived.OpenShut
import Derived.ProofKit
import Derived.Deep.Slices
namespace Go.Proofs.Ytkeemmedbbammaa
set_option linter.unusedVariables false
open Go.ChangeShapes Go.WideShapes Go.ChangeAt Go.RowKit Go.Deep

theorem cells_u8 : Try.prog.cellsOf 5 = 1 := by kernel_rfl
theorem cells_int : Try.prog.cellsOf 3 = 1 := by kernel_rfl
theorem cells_u32 : Try.prog.cellsOf 26 = 1 := by kernel_rfl
theorem cells_words : Try.prog.cellsOf 23 = 1 := by kernel_rfl
theorem cells_rows : Try.prog.cellsOf 22 = 1 := by kernel_rfl
theorem cells_banks : Try.prog.cellsOf 25 = 3 := by kernel_rfl
theorem cells_put : Try.prog.cellsOf 48 = 3 := by kernel_rfl
/-- n elements of sz cells each lie behind p. -/
def Els (w : World) (p : Option Addr) (sz n : Nat) (g : Nat → Array Value) : Prop :=
  0 < n → ∃ b off, b < w.heap.size ∧ p = some ⟨b, off, none⟩ ∧ ∀ k, k < n → ∀ j, j < sz → w.cell? ⟨b, off + k * sz + j, none⟩ = (g k)[j]?
theorem Els.below {w w' : World} {p : Option Addr} {sz n : Nat} {g : Nat → Array Value} (h : Els w p sz n g) (hb : Below w.heap.size w w') : Els w' p sz n g := fun h0 => by
  obtain ⟨b, off, h1, h2, h3⟩ := h h0
  exact ⟨b, off, Nat.lt_of_lt_of_le h1 hb.size, h2, fun k hk j hj => (hb.cell (p := ⟨b, off + k * sz + j, none⟩) h1).trans (h3 k hk j hj)⟩
/-- A word to be written. -/
structure Pt where
  bank : Nat
  a : Nat
  word : Nat
def Pt.row (x : Pt) : Array Value := #[.int .u8 x.bank, .int .u8 x.a, .int .u32 x.word]
def Pt.Fits (x : Pt) : Prop := x.bank < 256 ∧ x.a < 256 ∧ x.word < 4294967296
def pt0 : Pt := ⟨0, 0, 0⟩
section
variable {H : Type} {enc : TypeId × Value → H} {w : World} {base : Nat} {spare : Nat → Bool} {held : Bool}

theorem add_zero_spot {a : Addr} {v : Value} (h : w.cell? (a.add 0) = some v) : a.block < w.heap.size ∧ a = ⟨a.block, a.off, none⟩ := by
  have hs : a.spot = none := by simpa [Addr.add] using World.cell?_spot h
  obtain ⟨b, o, s⟩ := a
  simp only at hs
  subst hs
  refine ⟨?_, rfl⟩
  have h0 : w.cell? ⟨b, o, none⟩ = some v := by simpa [Addr.add] using h
  by_cases hb : b < w.heap.size
  · exact hb
  · simp [World.cell?, Array.getElem?_eq_none (show w.heap.size ≤ b by omega)] at h0
theorem add_plain (b o k : Nat) : (⟨b, o, none⟩ : Addr).add k = ⟨b, o + k, none⟩ := by unfold Addr.add; split <;> simp_all
theorem words_of_cells {fuel : Nat} {p : Option Addr} {len cap : Nat} {x : DataW H × List MemPlace} (h : DataW.trod enc Try.prog w base spare held fuel 23 [.slice p len cap] = some x) :
    ∃ l : List Nat, l.length = len ∧ len ≤ cap ∧ len ≤ maxLen ∧ Nm w p l := by
  rcases open_slice Try.underlying23 h with ⟨hcs, _⟩ | ⟨a, len', cap', m, n, D, Pl, hcs, _, hl, hm, hmm, _, hi⟩
  · simp at hcs
    obtain ⟨rfl, rfl, rfl⟩ := hcs
    exact ⟨[], rfl, Nat.le_refl _, Nat.zero_le _, ⟨(fun x hx => by cases hx), (fun h0 => absurd h0 (by decide))⟩⟩
  · simp at hcs
    obtain ⟨rfl, rfl, rfl⟩ := hcs
    have hlm : len ≤ m := by rw [hmm]; split <;> omega
    have hex : ∀ i, i < len → ∃ y : Int, w.cell? ((a.add (i * 1)).add 0) = some (.int .u32 y) ∧ 0 ≤ y ∧ y ≤ 4294967295 := fun i hlt => by
      obtain ⟨cs', hc, ht⟩ := hi i (by omega)
      rw [cells_u32] at hc
      obtain ⟨y, hy, _, wf⟩ := DataW.trod_int Try.underlying26 ht
      have b := bounds_u32 wf
      have hcell := (World.cells?_some hc).2.2 0 (by omega)
      rw [hy] at hcell
      exact ⟨y, hcell, b.1, b.2⟩
    obtain ⟨f, hf⟩ := choose_lt hex
    refine ⟨(List.range len).map fun i => (f i).toNat, by simp, hl, Nat.le_trans hl hm, ⟨fun x hx => ?_, fun h0 => ?_⟩⟩
    · obtain ⟨i, hi', rfl⟩ := List.mem_map.1 hx
      have := hf i (List.mem_range.1 hi')
      omega
    · rw [List.length_map, List.length_range] at h0
      have hc0 := (hf 0 h0).1
      have hz : (a.add (0 * 1)).add 0 = a.add 0 := by simp [Addr.add]
      rw [hz] at hc0
      obtain ⟨hlt, ha⟩ := add_zero_spot hc0
      refine ⟨a.block, a.off, hlt, by rw [← ha], fun i hi' => ?_⟩
      rw [List.length_map, List.length_range] at hi'
      have hcell := (hf i hi').1
      rw [ha, add_plain, add_plain] at hcell
      have e : ((List.range len).map fun i => (f i).toNat).getD i 0 = (f i).toNat := by simp [List.getD, hi']
      rw [e, Int.toNat_of_nonneg (hf i hi').2.1]
      simpa using hcell
theorem rows_of_cells {fuel : Nat} {p : Option Addr} {len cap : Nat} {x : DataW H × List MemPlace} (h : DataW.trod enc Try.prog w base spare held fuel 22 [.slice p len cap] = some x) :
    ∃ xs, ∃ L : List (List Nat), L.length = len ∧ xs.length = len ∧ Sl w p len xs ∧ (∀ k, k < len → Rs w (xs.getD k vz) (L.getD k [])) ∧ len ≤ cap ∧ len ≤ maxLen ∧ ∀ l ∈ L, l.length ≤ maxLen := by
  rcases open_slice1 Try.underlying22 cells_words h with ⟨hcs, _⟩ | ⟨a, len', cap', m, n, V, D, Pl, hcs, _, hl, hm, hmm, _, hi⟩
  · simp at hcs
    obtain ⟨rfl, rfl, rfl⟩ := hcs
    exact ⟨[], [], rfl, rfl, Sl.empty _ _ _, fun k hk => absurd hk (Nat.not_lt_zero _), Nat.le_refl _, Nat.zero_le _, fun l hl => by cases hl⟩
  · simp at hcs
    obtain ⟨rfl, rfl, rfl⟩ := hcs
    have hlm : len ≤ m := by rw [hmm]; split <;> omega
    have hex : ∀ i, i < len → ∃ y : List Nat, w.cell? (a.add i) = some (V i) ∧ Rs w (V i) y ∧ y.length ≤ maxLen := fun i hlt => by
      obtain ⟨hc, ht⟩ := hi i (by omega)
      have hform : ∃ q k c, V i = .slice q k c := by
        rcases open_slice Try.underlying23 ht with ⟨hcs, _⟩ | ⟨a', l', c', _, _, _, _, hcs, _⟩
        · exact ⟨none, 0, 0, by simpa using hcs⟩
        · exact ⟨some a', l', c', by simpa using hcs⟩
      obtain ⟨q, k, c, hv⟩ := hform
      rw [hv] at ht hc ⊢
      obtain ⟨l, rfl, h1, h2, hb⟩ := words_of_cells ht
      exact ⟨l, hc, ⟨q, c, rfl, h1, hb⟩, h2⟩
    obtain ⟨f, hf⟩ := choose_lt hex
    refine ⟨(List.range len).map V, (List.range len).map f, by simp, by simp, fun h0 => ?_, fun k hk => ?_, hl, by omega, fun l hl => ?_⟩
    · obtain ⟨hlt, ha⟩ := add_zero_spot (hf 0 h0).1
      refine ⟨a.block, a.off, hlt, by rw [← ha], fun j hj => ?_⟩
      rw [List.length_map, List.length_range] at hj
      have := (hf j hj).1
      rw [ha, add_plain] at this
      rw [this]
      simp [hj]
    · have := (hf k hk).2.1
      simpa [List.getD, hk] using this
    · obtain ⟨i, hi', rfl⟩ := List.mem_map.1 hl
      exact (hf i (List.mem_range.1 hi')).2.2
theorem banks_of_cells {fuel : Nat} {cs : List Value} {x : DataW H × List MemPlace} (h : DataW.trod enc Try.prog w base spare held fuel 25 cs = some x) :
    ∃ p n c xs pp m cc, ∃ B : Bk, cs = [.slice p n c, .slice pp m cc, .int .i64 B.lost] ∧ BnX w p n c xs pp m cc B := by
  obtain ⟨xs, n, _, _, hlen, hxl, hf⟩ := DataW.trod_struct Try.underlying25 h
  rw [cells_banks] at hlen
  match cs, hlen with
  | [v0, v1, v2], _ =>
    match xs, hxl with
    | [y0, y1, y2], _ =>
      have e0 : DataW.trod enc Try.prog w base spare held n 22 [v0] = some y0 := by simpa [cells_rows, cells_words, cells_int] using hf 0 _ rfl
      have e1 : DataW.trod enc Try.prog w base spare held n 23 [v1] = some y1 := by simpa [cells_rows, cells_words, cells_int] using hf 1 _ rfl
      have e2 : DataW.trod enc Try.prog w base spare held n 3 [v2] = some y2 := by simpa [cells_rows, cells_words, cells_int] using hf 2 _ rfl
      have hform0 : ∃ q k c, v0 = .slice q k c := by
        rcases open_slice Try.underlying22 e0 with ⟨hcs, _⟩ | ⟨a', l', c', _, _, _, _, hcs, _⟩
        · exact ⟨none, 0, 0, by simpa using hcs⟩
        · exact ⟨some a', l', c', by simpa using hcs⟩
      have hform1 : ∃ q k c, v1 = .slice q k c := by
        rcases open_slice Try.underlying23 e1 with ⟨hcs, _⟩ | ⟨a', l', c', _, _, _, _, hcs, _⟩
        · exact ⟨none, 0, 0, by simpa using hcs⟩
        · exact ⟨some a', l', c', by simpa using hcs⟩
      obtain ⟨q, k, c, rfl⟩ := hform0
      obtain ⟨q1, k1, c1, rfl⟩ := hform1
      obtain ⟨z, hz, _, _⟩ := DataW.trod_int Try.underlying3 e2
      obtain ⟨zs, L, h1, h2, h3, h4, h5, h6, h7⟩ := rows_of_cells e0
      obtain ⟨P, g1, g2, g3, g4⟩ := words_of_cells e1
      simp at hz
      subst hz
      exact ⟨q, k, c, zs, q1, k1, c1, ⟨L, P, z⟩, rfl, h1, h2, h3, h4, h5, h6, g1, g4, g2, g3, h7⟩
theorem put_of_cells {fuel : Nat} {cs : List Value} {x : DataW H × List MemPlace} (h : DataW.trod enc Try.prog w base spare held fuel 48 cs = some x) :
    ∃ y : Pt, cs = y.row.toList ∧ y.Fits := by
  obtain ⟨xs, n, _, _, hlen, hxl, hf⟩ := DataW.trod_struct Try.underlying48 h
  rw [cells_put] at hlen
  match cs, hlen with
  | [v0, v1, v2], _ =>
    match xs, hxl with
    | [y0, y1, y2], _ =>
      have e0 : DataW.trod enc Try.prog w base spare held n 5 [v0] = some y0 := by simpa [cells_u8, cells_u32] using hf 0 _ rfl
      have e1 : DataW.trod enc Try.prog w base spare held n 5 [v1] = some y1 := by simpa [cells_u8, cells_u32] using hf 1 _ rfl
      have e2 : DataW.trod enc Try.prog w base spare held n 26 [v2] = some y2 := by simpa [cells_u8, cells_u32] using hf 2 _ rfl
      obtain ⟨x0, q0, _, wf0⟩ := DataW.trod_int Try.underlying5 e0
      obtain ⟨x1, q1, _, wf1⟩ := DataW.trod_int Try.underlying5 e1
      obtain ⟨x2, q2, _, wf2⟩ := DataW.trod_int Try.underlying26 e2
      have b0 := bounds_u8 wf0
      have b1 := bounds_u8 wf1
      have b2 := bounds_u32 wf2
      simp at q0 q1 q2
      subst q0 q1 q2
      obtain ⟨n0, rfl⟩ := Int.eq_ofNat_of_zero_le b0.1
      obtain ⟨n1, rfl⟩ := Int.eq_ofNat_of_zero_le b1.1
      obtain ⟨n2, rfl⟩ := Int.eq_ofNat_of_zero_le b2.1
      exact ⟨⟨n0, n1, n2⟩, rfl, by show n0 < 256; omega, by show n1 < 256; omega, by show n2 < 4294967296; omega⟩
theorem puts_of_cells {fuel : Nat} {p : Option Addr} {len cap : Nat} {x : DataW H × List MemPlace} (h : DataW.trod enc Try.prog w base spare held fuel 46 [.slice p len cap] = some x) :
    ∃ ps : List Pt, ps.length = len ∧ len ≤ maxLen ∧ (∀ y ∈ ps, y.Fits) ∧ Els w p 3 len (fun k => (ps.getD k pt0).row) := by
  rcases open_slice Try.underlying46 h with ⟨hcs, _⟩ | ⟨a, len', cap', m, n, D, Pl, hcs, _, hl, hm, hmm, _, hi⟩
  · simp at hcs
    obtain ⟨rfl, rfl, rfl⟩ := hcs
    exact ⟨[], rfl, Nat.zero_le _, fun m hm => (by cases hm), fun h0 => absurd h0 (Nat.lt_irrefl 0)⟩
  · simp at hcs
    obtain ⟨rfl, rfl, rfl⟩ := hcs
    have hlm : len ≤ m := by rw [hmm]; split <;> omega
    have hex : ∀ i, i < len → ∃ y : Pt, (∀ j, j < 3 → w.cell? ((a.add (i * 3)).add j) = y.row.toList[j]?) ∧ y.Fits := fun i hlt => by
      obtain ⟨cs', hc, ht⟩ := hi i (by omega)
      rw [cells_put] at hc
      obtain ⟨y, rfl, hy0⟩ := put_of_cells ht
      exact ⟨y, (World.cells?_some hc).2.2, hy0⟩
    have : Inhabited Pt := ⟨pt0⟩
    obtain ⟨f, hf⟩ := choose_lt hex
    refine ⟨(List.range len).map f, by simp, Nat.le_trans hl hm, fun m hm => ?_, fun h0 => ?_⟩
    · obtain ⟨i, hi', rfl⟩ := List.mem_map.1 hm
      exact (hf i (List.mem_range.1 hi')).2
    · have hc0 := (hf 0 h0).1 0 (by omega)
      have hz : (a.add (0 * 3)).add 0 = a.add 0 := by simp [Addr.add]
      rw [hz] at hc0
      obtain ⟨hlt, ha⟩ := add_zero_spot (v := .int .u8 (f 0).bank) (by rw [hc0]; rfl)
      refine ⟨a.block, a.off, hlt, by rw [← ha], fun k hk j hj => ?_⟩
      have := (hf k hk).1 j hj
      rw [ha, add_plain, add_plain] at this
      rw [this]
      simp [List.getD, hk]
end
end Go.Proofs.Ytkeemmedbbammaa
