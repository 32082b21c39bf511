/- What an argument that is a list of bytes, or a message, reads as: numbers in cells; no condition. -/
import Derived.Test.YtpmheaeiemnjeaaFrameB
import Derived.OpenShut
import Derived.ProofKit
import Derived.Deep.Slices
namespace Go.Proofs.Ytpmheaeiemnjeaa
set_option linter.unusedVariables false
open Go.ChangeShapes Go.WideShapes Go.ChangeAt Go.RowKit Go.Deep

theorem cells_msg : Try.prog.cellsOf 27 = 9 := by kernel_rfl
theorem cells_u8 : Try.prog.cellsOf 5 = 1 := by kernel_rfl
theorem cells_int : Try.prog.cellsOf 3 = 1 := by kernel_rfl
theorem cells_bool : Try.prog.cellsOf 4 = 1 := by kernel_rfl
theorem cells_u32 : Try.prog.cellsOf 25 = 1 := by kernel_rfl
section
variable {H : Type} {enc : TypeId × Value → H} {w : World} {base : Nat} {spare : Nat → Bool} {held : Bool}

theorem add_zero_spot {a : Addr} {v : Value} (h : w.cell? (a.add 0) = some v) : a.block < w.heap.size ∧ a = ⟨a.block, a.off, none⟩ := by
  have hs : a.spot = none := by simpa [Addr.add] using World.cell?_spot h
  obtain ⟨b, o, s⟩ := a
  simp only at hs
  subst hs
  refine ⟨?_, rfl⟩
  have h0 : w.cell? ⟨b, o, none⟩ = some v := by simpa [Addr.add] using h
  by_cases hb : b < w.heap.size
  · exact hb
  · simp [World.cell?, Array.getElem?_eq_none (show w.heap.size ≤ b by omega)] at h0

theorem add_plain (b o k : Nat) : (⟨b, o, none⟩ : Addr).add k = ⟨b, o + k, none⟩ := by unfold Addr.add; split <;> simp_all
theorem byts_of_cells {fuel : Nat} {p : Option Addr} {len cap : Nat} {x : DataW H × List MemPlace} (h : DataW.trod enc Try.prog w base spare held fuel 30 [.slice p len cap] = some x) :
    ∃ l : List Nat, l.length = len ∧ len ≤ cap ∧ len ≤ maxLen ∧ Byts w p l := by
  rcases open_slice Try.underlying30 h with ⟨hcs, _⟩ | ⟨a, len', cap', m, n, D, Pl, hcs, _, hl, hm, hmm, _, hi⟩
  · simp at hcs
    obtain ⟨rfl, rfl, rfl⟩ := hcs
    exact ⟨[], rfl, Nat.le_refl _, Nat.zero_le _, ⟨(fun x hx => by cases hx), (fun h0 => absurd h0 (by decide))⟩⟩
  · simp at hcs
    obtain ⟨rfl, rfl, rfl⟩ := hcs
    have hlm : len ≤ m := by rw [hmm]; split <;> omega
    have hex : ∀ i, i < len → ∃ y : Int, w.cell? ((a.add (i * 1)).add 0) = some (.int .u8 y) ∧ 0 ≤ y ∧ y ≤ 255 := fun i hlt => by
      obtain ⟨cs', hc, ht⟩ := hi i (by omega)
      rw [cells_u8] at hc
      obtain ⟨y, hy, _, wf⟩ := DataW.trod_int Try.underlying5 ht
      have b := bounds_u8 wf
      have hcell := (World.cells?_some hc).2.2 0 (by omega)
      rw [hy] at hcell
      exact ⟨y, hcell, b.1, b.2⟩
    obtain ⟨f, hf⟩ := choose_lt hex
    refine ⟨(List.range len).map fun i => (f i).toNat, by simp, hl, Nat.le_trans hl hm, ⟨fun x hx => ?_, fun h0 => ?_⟩⟩
    · obtain ⟨i, hi', rfl⟩ := List.mem_map.1 hx
      have := hf i (List.mem_range.1 hi')
      omega
    · rw [List.length_map, List.length_range] at h0
      have hc0 := (hf 0 h0).1
      have hz : (a.add (0 * 1)).add 0 = a.add 0 := by simp [Addr.add]
      rw [hz] at hc0
      obtain ⟨hlt, ha⟩ := add_zero_spot hc0
      refine ⟨a.block, a.off, hlt, by rw [← ha], fun i hi' => ?_⟩
      rw [List.length_map, List.length_range] at hi'
      have hcell := (hf i hi').1
      rw [ha, add_plain, add_plain] at hcell
      have e : ((List.range len).map fun i => (f i).toNat).getD i 0 = (f i).toNat := by simp [List.getD, hi']
      rw [e, Int.toNat_of_nonneg (hf i hi').2.1]
      simpa using hcell

/-- The nine cells of a message. -/
theorem msg_of_cells {fuel : Nat} {cs : List Value} {x : DataW H × List MemPlace} (h : DataW.trod enc Try.prog w base spare held fuel 27 cs = some x) :
    ∃ m : Msg, cs = m.row.toList ∧ m.n < 4294967296 ∧ m.v < 4294967296 := by
  obtain ⟨xs, n, _, _, hlen, hxl, hf⟩ := DataW.trod_struct Try.underlying27 h
  rw [cells_msg] at hlen
  match cs, hlen with
  | [v0, v1, v2, v3, v4, v5, v6, v7, v8], _ =>
    match xs, hxl with
    | [y0, y1, y2, y3, y4, y5, y6, y7, y8], _ =>
      have e0 : DataW.trod enc Try.prog w base spare held n 3 [v0] = some y0 := by simpa [cells_int, cells_bool, cells_u32] using hf 0 _ rfl
      have e1 : DataW.trod enc Try.prog w base spare held n 3 [v1] = some y1 := by simpa [cells_int, cells_bool, cells_u32] using hf 1 _ rfl
      have e2 : DataW.trod enc Try.prog w base spare held n 3 [v2] = some y2 := by simpa [cells_int, cells_bool, cells_u32] using hf 2 _ rfl
      have e3 : DataW.trod enc Try.prog w base spare held n 3 [v3] = some y3 := by simpa [cells_int, cells_bool, cells_u32] using hf 3 _ rfl
      have e4 : DataW.trod enc Try.prog w base spare held n 3 [v4] = some y4 := by simpa [cells_int, cells_bool, cells_u32] using hf 4 _ rfl
      have e5 : DataW.trod enc Try.prog w base spare held n 3 [v5] = some y5 := by simpa [cells_int, cells_bool, cells_u32] using hf 5 _ rfl
      have e6 : DataW.trod enc Try.prog w base spare held n 4 [v6] = some y6 := by simpa [cells_int, cells_bool, cells_u32] using hf 6 _ rfl
      have e7 : DataW.trod enc Try.prog w base spare held n 25 [v7] = some y7 := by simpa [cells_int, cells_bool, cells_u32] using hf 7 _ rfl
      have e8 : DataW.trod enc Try.prog w base spare held n 25 [v8] = some y8 := by simpa [cells_int, cells_bool, cells_u32] using hf 8 _ rfl
      obtain ⟨x0, q0, _, wf0⟩ := DataW.trod_int Try.underlying3 e0
      obtain ⟨x1, q1, _, wf1⟩ := DataW.trod_int Try.underlying3 e1
      obtain ⟨x2, q2, _, wf2⟩ := DataW.trod_int Try.underlying3 e2
      obtain ⟨x3, q3, _, wf3⟩ := DataW.trod_int Try.underlying3 e3
      obtain ⟨x4, q4, _, wf4⟩ := DataW.trod_int Try.underlying3 e4
      obtain ⟨x5, q5, _, wf5⟩ := DataW.trod_int Try.underlying3 e5
      obtain ⟨x6, q6, _⟩ := DataW.trod_bool Try.underlying4 e6
      obtain ⟨x7, q7, _, wf7⟩ := DataW.trod_int Try.underlying25 e7
      obtain ⟨x8, q8, _, wf8⟩ := DataW.trod_int Try.underlying25 e8
      have b7 := bounds_u32 wf7
      have b8 := bounds_u32 wf8
      simp at q0 q1 q2 q3 q4 q5 q6 q7 q8
      subst q0 q1 q2 q3 q4 q5 q6 q7 q8
      obtain ⟨n7, rfl⟩ := Int.eq_ofNat_of_zero_le b7.1
      obtain ⟨n8, rfl⟩ := Int.eq_ofNat_of_zero_le b8.1
      exact ⟨⟨x0, x1, x2, x3, x4, x5, x6, n7, n8⟩, rfl, by show n7 < 4294967296; omega, by show n8 < 4294967296; omega⟩
end
end Go.Proofs.Ytpmheaeiemnjeaa
