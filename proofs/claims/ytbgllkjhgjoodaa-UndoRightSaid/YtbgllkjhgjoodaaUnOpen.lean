/- What an argument that is bytes, or things to be done, reads as; no condition. -/
import Derived.Test.YtbgllkjhgjoodaaUnQ
import Derived.OpenShut
import Derived.ProofKit
import Derived.Deep.Slices
namespace Go.Proofs.Ytbgllkjhgjoodaa
set_option linter.unusedVariables false
open Go.ChangeShapes Go.WideShapes Go.ChangeAt Go.RowKit Go.Deep

theorem cells_u8 : Try.prog.cellsOf 5 = 1 := by kernel_rfl
theorem cells_int : Try.prog.cellsOf 3 = 1 := by kernel_rfl
theorem cells_u32 : Try.prog.cellsOf 26 = 1 := by kernel_rfl
theorem cells_do : Try.prog.cellsOf 45 = 4 := by kernel_rfl
section
variable {H : Type} {enc : TypeId × Value → H} {w : World} {base : Nat} {spare : Nat → Bool} {held : Bool}

theorem add_zero_spot {a : Addr} {v : Value} (h : w.cell? (a.add 0) = some v) : a.block < w.heap.size ∧ a = ⟨a.block, a.off, none⟩ := by
  have hs : a.spot = none := by simpa [Addr.add] using World.cell?_spot h
  obtain ⟨b, o, s⟩ := a
  simp only at hs
  subst hs
  refine ⟨?_, rfl⟩
  have h0 : w.cell? ⟨b, o, none⟩ = some v := by simpa [Addr.add] using h
  by_cases hb : b < w.heap.size
  · exact hb
  · simp [World.cell?, Array.getElem?_eq_none (show w.heap.size ≤ b by omega)] at h0
theorem add_plain (b o k : Nat) : (⟨b, o, none⟩ : Addr).add k = ⟨b, o + k, none⟩ := by unfold Addr.add; split <;> simp_all
set_option maxRecDepth 100000 in
theorem do_of_cells {fuel : Nat} {cs : List Value} {x : DataW H × List MemPlace} (h : DataW.trod enc Try.prog w base spare held fuel 45 cs = some x) :
    ∃ y : Dt, cs = y.row.toList ∧ y.Fits := by
  obtain ⟨xs, n, _, _, hlen, hxl, hf⟩ := DataW.trod_struct Try.underlying45 h
  rw [cells_do] at hlen
  match cs, hlen with
  | [v0, v1, v2, v3], _ =>
    match xs, hxl with
    | [y0, y1, y2, y3], _ =>
      have e0 : DataW.trod enc Try.prog w base spare held n 5 [v0] = some y0 := by simpa [cells_u8, cells_u32] using hf 0 _ rfl
      have e1 : DataW.trod enc Try.prog w base spare held n 5 [v1] = some y1 := by simpa [cells_u8, cells_u32] using hf 1 _ rfl
      have e2 : DataW.trod enc Try.prog w base spare held n 5 [v2] = some y2 := by simpa [cells_u8, cells_u32] using hf 2 _ rfl
      have e3 : DataW.trod enc Try.prog w base spare held n 26 [v3] = some y3 := by simpa [cells_u8, cells_u32] using hf 3 _ rfl
      obtain ⟨x0, q0, _, wf0⟩ := DataW.trod_int Try.underlying5 e0
      obtain ⟨x1, q1, _, wf1⟩ := DataW.trod_int Try.underlying5 e1
      obtain ⟨x2, q2, _, wf2⟩ := DataW.trod_int Try.underlying5 e2
      obtain ⟨x3, q3, _, wf3⟩ := DataW.trod_int Try.underlying26 e3
      have b0 := bounds_u8 wf0
      have b1 := bounds_u8 wf1
      have b2 := bounds_u8 wf2
      have b3 := bounds_u32 wf3
      simp at q0 q1 q2 q3
      subst q0 q1 q2 q3
      obtain ⟨n0, rfl⟩ := Int.eq_ofNat_of_zero_le b0.1
      obtain ⟨n1, rfl⟩ := Int.eq_ofNat_of_zero_le b1.1
      obtain ⟨n2, rfl⟩ := Int.eq_ofNat_of_zero_le b2.1
      obtain ⟨n3, rfl⟩ := Int.eq_ofNat_of_zero_le b3.1
      exact ⟨⟨n0, n1, n2, n3⟩, rfl, by show n0 < 256; omega, by show n1 < 256; omega, by show n2 < 256; omega, by show n3 < 4294967296; omega⟩
theorem dos_of_cells {fuel : Nat} {p : Option Addr} {len cap : Nat} {x : DataW H × List MemPlace} (h : DataW.trod enc Try.prog w base spare held fuel 42 [.slice p len cap] = some x) :
    ∃ ps : List Dt, ps.length = len ∧ len ≤ maxLen ∧ (∀ y ∈ ps, y.Fits) ∧ Els w p 4 len (fun k => (ps.getD k dt0).row) := by
  rcases open_slice Try.underlying42 h with ⟨hcs, _⟩ | ⟨a, len', cap', m, n, D, Pl, hcs, _, hl, hm, hmm, _, hi⟩
  · simp at hcs
    obtain ⟨rfl, rfl, rfl⟩ := hcs
    exact ⟨[], rfl, Nat.zero_le _, fun m hm => (by cases hm), fun h0 => absurd h0 (Nat.lt_irrefl 0)⟩
  · simp at hcs
    obtain ⟨rfl, rfl, rfl⟩ := hcs
    have hlm : len ≤ m := by rw [hmm]; split <;> omega
    have hex : ∀ i, i < len → ∃ y : Dt, (∀ j, j < 4 → w.cell? ((a.add (i * 4)).add j) = y.row.toList[j]?) ∧ y.Fits := fun i hlt => by
      obtain ⟨cs', hc, ht⟩ := hi i (by omega)
      rw [cells_do] at hc
      obtain ⟨y, rfl, hy0⟩ := do_of_cells ht
      exact ⟨y, (World.cells?_some hc).2.2, hy0⟩
    have : Inhabited Dt := ⟨dt0⟩
    obtain ⟨f, hf⟩ := choose_lt hex
    refine ⟨(List.range len).map f, by simp, Nat.le_trans hl hm, fun m hm => ?_, fun h0 => ?_⟩
    · obtain ⟨i, hi', rfl⟩ := List.mem_map.1 hm
      exact (hf i (List.mem_range.1 hi')).2
    · have hc0 := (hf 0 h0).1 0 (by omega)
      have hz : (a.add (0 * 4)).add 0 = a.add 0 := by simp [Addr.add]
      rw [hz] at hc0
      obtain ⟨hlt, ha⟩ := add_zero_spot (v := .int .u8 (f 0).kind) (by rw [hc0]; rfl)
      refine ⟨a.block, a.off, hlt, by rw [← ha], fun k hk j hj => ?_⟩
      have := (hf k hk).1 j hj
      rw [ha, add_plain, add_plain] at this
      rw [this]
      simp [List.getD, hk]
end
end Go.Proofs.Ytbgllkjhgjoodaa
