/- What an argument that is a pool, or a list of messages, reads as; no condition. -/
import Derived.Test.YtpmheaeiemnjeaaFrameOpen
import Derived.Test.YtpmheaeiemnjeaaPoolR
namespace Go.Proofs.Ytpmheaeiemnjeaa
set_option linter.unusedVariables false
open Go.ChangeShapes Go.WideShapes Go.ChangeAt Go.RowKit Go.Deep

theorem cells_bytes : Try.prog.cellsOf 30 = 1 := by kernel_rfl
theorem cells_frames : Try.prog.cellsOf 22 = 1 := by kernel_rfl
theorem cells_pool : Try.prog.cellsOf 24 = 1 := by kernel_rfl
/-- n elements of sz cells each lie behind p. -/
def Els (w : World) (p : Option Addr) (sz n : Nat) (g : Nat → Array Value) : Prop :=
  0 < n → ∃ b off, b < w.heap.size ∧ p = some ⟨b, off, none⟩ ∧ ∀ k, k < n → ∀ j, j < sz → w.cell? ⟨b, off + k * sz + j, none⟩ = (g k)[j]?
theorem Els.below {w w' : World} {p : Option Addr} {sz n : Nat} {g : Nat → Array Value} (h : Els w p sz n g) (hb : Below w.heap.size w w') : Els w' p sz n g := fun h0 => by
  obtain ⟨b, off, h1, h2, h3⟩ := h h0
  exact ⟨b, off, Nat.lt_of_lt_of_le h1 hb.size, h2, fun k hk j hj => (hb.cell (p := ⟨b, off + k * sz + j, none⟩) h1).trans (h3 k hk j hj)⟩
section
variable {H : Type} {enc : TypeId × Value → H} {w : World} {base : Nat} {spare : Nat → Bool} {held : Bool}
theorem pool_of_cells {fuel : Nat} {p : Option Addr} {len cap : Nat} {x : DataW H × List MemPlace} (h : DataW.trod enc Try.prog w base spare held fuel 22 [.slice p len cap] = some x) :
    ∃ xs L, L.length = len ∧ PlX w p xs L := by
  rcases open_slice1 Try.underlying22 cells_bytes h with ⟨hcs, _⟩ | ⟨a, len', cap', m, n, V, D, Pl, hcs, _, hl, hm, hmm, _, hi⟩
  · simp at hcs
    obtain ⟨rfl, rfl, rfl⟩ := hcs
    exact ⟨[], [], rfl, rfl, Sl.empty _ _ _, fun k hk => absurd hk (Nat.not_lt_zero _), Nat.zero_le _, fun l hl => by cases hl⟩
  · simp at hcs
    obtain ⟨rfl, rfl, rfl⟩ := hcs
    have hlm : len ≤ m := by rw [hmm]; split <;> omega
    have hex : ∀ i, i < len → ∃ y : List Nat, w.cell? (a.add i) = some (V i) ∧ Fs w (V i) y ∧ y.length ≤ maxLen := fun i hlt => by
      obtain ⟨hc, ht⟩ := hi i (by omega)
      have hform : ∃ q k c, V i = .slice q k c := by
        rcases open_slice Try.underlying30 ht with ⟨hcs, _⟩ | ⟨a', l', c', _, _, _, _, hcs, _⟩
        · exact ⟨none, 0, 0, by simpa using hcs⟩
        · exact ⟨some a', l', c', by simpa using hcs⟩
      obtain ⟨q, k, c, hv⟩ := hform
      rw [hv] at ht hc ⊢
      obtain ⟨l, rfl, h1, h2, hb⟩ := byts_of_cells ht
      exact ⟨l, hc, ⟨q, c, rfl, h1, hb⟩, h2⟩
    obtain ⟨f, hf⟩ := choose_lt hex
    refine ⟨(List.range len).map V, (List.range len).map f, by simp, by simp, fun h0 => ?_, fun k hk => ?_, by simp; omega, fun l hl => ?_⟩
    · have h0' : 0 < len := by simpa using h0
      obtain ⟨hlt, ha⟩ := add_zero_spot (hf 0 h0').1
      refine ⟨a.block, a.off, hlt, by rw [← ha], fun j hj => ?_⟩
      rw [List.length_map, List.length_range] at hj
      have := (hf j hj).1
      rw [ha, add_plain] at this
      rw [this]
      simp [hj]
    · have hk' : k < len := by simpa using hk
      have := (hf k hk').2.1
      simpa [List.getD, hk'] using this
    · obtain ⟨i, hi', rfl⟩ := List.mem_map.1 hl
      exact (hf i (List.mem_range.1 hi')).2.2
theorem poolS_of_cells {fuel : Nat} {cs : List Value} {x : DataW H × List MemPlace} (h : DataW.trod enc Try.prog w base spare held fuel 24 cs = some x) :
    ∃ p n c xs L, cs = [.slice p n c] ∧ L.length = n ∧ PlX w p xs L := by
  obtain ⟨xs, n, _, _, hlen, hxl, hf⟩ := DataW.trod_struct Try.underlying24 h
  rw [cells_pool] at hlen
  match cs, hlen with
  | [v0], _ =>
    match xs, hxl with
    | [y0], _ =>
      have e0 : DataW.trod enc Try.prog w base spare held n 22 [v0] = some y0 := by simpa [cells_frames] using hf 0 _ rfl
      have hform : ∃ q k c, v0 = .slice q k c := by
        rcases open_slice Try.underlying22 e0 with ⟨hcs, _⟩ | ⟨a', l', c', _, _, _, _, hcs, _⟩
        · exact ⟨none, 0, 0, by simpa using hcs⟩
        · exact ⟨some a', l', c', by simpa using hcs⟩
      obtain ⟨q, k, c, rfl⟩ := hform
      obtain ⟨zs, L, h1, h2⟩ := pool_of_cells e0
      exact ⟨q, k, c, zs, L, rfl, h1, h2⟩
def m0 : Msg := ⟨0, 0, 0, 0, 0, 0, false, 0, 0⟩
theorem msgs_of_cells {fuel : Nat} {p : Option Addr} {len cap : Nat} {x : DataW H × List MemPlace} (h : DataW.trod enc Try.prog w base spare held fuel 48 [.slice p len cap] = some x) :
    ∃ ms : List Msg, ms.length = len ∧ len ≤ maxLen ∧ (∀ m ∈ ms, m.n < 4294967296 ∧ m.v < 4294967296) ∧ Els w p 9 len (fun k => (ms.getD k m0).row) := by
  rcases open_slice Try.underlying48 h with ⟨hcs, _⟩ | ⟨a, len', cap', m, n, D, Pl, hcs, _, hl, hm, hmm, _, hi⟩
  · simp at hcs
    obtain ⟨rfl, rfl, rfl⟩ := hcs
    exact ⟨[], rfl, Nat.zero_le _, fun m hm => (by cases hm), fun h0 => absurd h0 (Nat.lt_irrefl 0)⟩
  · simp at hcs
    obtain ⟨rfl, rfl, rfl⟩ := hcs
    have hlm : len ≤ m := by rw [hmm]; split <;> omega
    have hex : ∀ i, i < len → ∃ y : Msg, (∀ j, j < 9 → w.cell? ((a.add (i * 9)).add j) = y.row.toList[j]?) ∧ y.n < 4294967296 ∧ y.v < 4294967296 := fun i hlt => by
      obtain ⟨cs', hc, ht⟩ := hi i (by omega)
      rw [cells_msg] at hc
      obtain ⟨y, rfl, hy0, hy1⟩ := msg_of_cells ht
      exact ⟨y, (World.cells?_some hc).2.2, hy0, hy1⟩
    have : Inhabited Msg := ⟨m0⟩
    obtain ⟨f, hf⟩ := choose_lt hex
    refine ⟨(List.range len).map f, by simp, Nat.le_trans hl hm, fun m hm => ?_, fun h0 => ?_⟩
    · obtain ⟨i, hi', rfl⟩ := List.mem_map.1 hm
      exact (hf i (List.mem_range.1 hi')).2
    · have hc0 := (hf 0 h0).1 0 (by omega)
      have hz : (a.add (0 * 9)).add 0 = a.add 0 := by simp [Addr.add]
      rw [hz] at hc0
      obtain ⟨hlt, ha⟩ := add_zero_spot (v := .int .i64 (f 0).k) (by rw [hc0]; rfl)
      refine ⟨a.block, a.off, hlt, by rw [← ha], fun k hk j hj => ?_⟩
      have := (hf k hk).1 j hj
      rw [ha, add_plain, add_plain] at this
      rw [this]
      simp [List.getD, hk]
end
end Go.Proofs.Ytpmheaeiemnjeaa
