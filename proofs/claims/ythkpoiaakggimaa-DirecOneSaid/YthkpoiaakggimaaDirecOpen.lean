/- What an argument that is bytes, or what is known of a line, reads as; no condition. -/
import Derived.Test.YthkpoiaakggimaaDirecI
import Derived.OpenShut
import Derived.ProofKit
import Derived.Deep.Slices
namespace Go.Proofs.Ythkpoiaakggimaa
set_option linter.unusedVariables false
open Go.ChangeShapes Go.WideShapes Go.ChangeAt Go.RowKit Go.Deep

theorem cells_u8 : Try.prog.cellsOf 5 = 1 := by kernel_rfl
theorem cells_int : Try.prog.cellsOf 3 = 1 := by kernel_rfl
theorem cells_bool : Try.prog.cellsOf 4 = 1 := by kernel_rfl
theorem cells_bools : Try.prog.cellsOf 22 = 1 := by kernel_rfl
theorem cells_entry : Try.prog.cellsOf 24 = 2 := by kernel_rfl
section
variable {H : Type} {enc : TypeId × Value → H} {w : World} {base : Nat} {spare : Nat → Bool} {held : Bool}

theorem add_zero_spot {a : Addr} {v : Value} (h : w.cell? (a.add 0) = some v) : a.block < w.heap.size ∧ a = ⟨a.block, a.off, none⟩ := by
  have hs : a.spot = none := by simpa [Addr.add] using World.cell?_spot h
  obtain ⟨b, o, s⟩ := a
  simp only at hs
  subst hs
  refine ⟨?_, rfl⟩
  have h0 : w.cell? ⟨b, o, none⟩ = some v := by simpa [Addr.add] using h
  by_cases hb : b < w.heap.size
  · exact hb
  · simp [World.cell?, Array.getElem?_eq_none (show w.heap.size ≤ b by omega)] at h0
theorem add_plain (b o k : Nat) : (⟨b, o, none⟩ : Addr).add k = ⟨b, o + k, none⟩ := by unfold Addr.add; split <;> simp_all
theorem bytes_of_cells {fuel : Nat} {p : Option Addr} {len cap : Nat} {x : DataW H × List MemPlace} (h : DataW.trod enc Try.prog w base spare held fuel 48 [.slice p len cap] = some x) :
    ∃ l : List Nat, l.length = len ∧ len ≤ cap ∧ len ≤ maxLen ∧ Nb w p l := by
  rcases open_slice Try.underlying48 h with ⟨hcs, _⟩ | ⟨a, len', cap', m, n, D, Pl, hcs, _, hl, hm, hmm, _, hi⟩
  · simp at hcs
    obtain ⟨rfl, rfl, rfl⟩ := hcs
    exact ⟨[], rfl, Nat.le_refl _, Nat.zero_le _, ⟨(fun x hx => by cases hx), (fun h0 => absurd h0 (by decide))⟩⟩
  · simp at hcs
    obtain ⟨rfl, rfl, rfl⟩ := hcs
    have hlm : len ≤ m := by rw [hmm]; split <;> omega
    have hex : ∀ i, i < len → ∃ y : Int, w.cell? ((a.add (i * 1)).add 0) = some (.int .u8 y) ∧ 0 ≤ y ∧ y ≤ 255 := fun i hlt => by
      obtain ⟨cs', hc, ht⟩ := hi i (by omega)
      rw [cells_u8] at hc
      obtain ⟨y, hy, _, wf⟩ := DataW.trod_int Try.underlying5 ht
      have b := bounds_u8 wf
      have hcell := (World.cells?_some hc).2.2 0 (by omega)
      rw [hy] at hcell
      exact ⟨y, hcell, b.1, b.2⟩
    obtain ⟨f, hf⟩ := choose_lt hex
    refine ⟨(List.range len).map fun i => (f i).toNat, by simp, hl, Nat.le_trans hl hm, ⟨fun x hx => ?_, fun h0 => ?_⟩⟩
    · obtain ⟨i, hi', rfl⟩ := List.mem_map.1 hx
      have := hf i (List.mem_range.1 hi')
      omega
    · rw [List.length_map, List.length_range] at h0
      have hc0 := (hf 0 h0).1
      have hz : (a.add (0 * 1)).add 0 = a.add 0 := by simp [Addr.add]
      rw [hz] at hc0
      obtain ⟨hlt, ha⟩ := add_zero_spot hc0
      refine ⟨a.block, a.off, hlt, by rw [← ha], fun i hi' => ?_⟩
      rw [List.length_map, List.length_range] at hi'
      have hcell := (hf i hi').1
      rw [ha, add_plain, add_plain] at hcell
      have e : ((List.range len).map fun i => (f i).toNat).getD i 0 = (f i).toNat := by simp [List.getD, hi']
      rw [e, Int.toNat_of_nonneg (hf i hi').2.1]
      simpa using hcell
theorem bools_of_cells {fuel : Nat} {p : Option Addr} {len cap : Nat} {x : DataW H × List MemPlace} (h : DataW.trod enc Try.prog w base spare held fuel 22 [.slice p len cap] = some x) :
    ∃ l : List Bool, l.length = len ∧ len ≤ cap ∧ len ≤ maxLen ∧ Sl w p len (boC l) := by
  rcases open_slice Try.underlying22 h with ⟨hcs, _⟩ | ⟨a, len', cap', m, n, D, Pl, hcs, _, hl, hm, hmm, _, hi⟩
  · simp at hcs
    obtain ⟨rfl, rfl, rfl⟩ := hcs
    exact ⟨[], rfl, Nat.le_refl _, Nat.zero_le _, Sl.empty _ _ _⟩
  · simp at hcs
    obtain ⟨rfl, rfl, rfl⟩ := hcs
    have hlm : len ≤ m := by rw [hmm]; split <;> omega
    have hex : ∀ i, i < len → ∃ y : Bool, w.cell? ((a.add (i * 1)).add 0) = some (.bool y) := fun i hlt => by
      obtain ⟨cs', hc, ht⟩ := hi i (by omega)
      rw [cells_bool] at hc
      obtain ⟨y, hy, _⟩ := DataW.trod_bool Try.underlying4 ht
      have hcell := (World.cells?_some hc).2.2 0 (by omega)
      rw [hy] at hcell
      exact ⟨y, hcell⟩
    obtain ⟨f, hf⟩ := choose_lt hex
    refine ⟨(List.range len).map f, by simp, hl, Nat.le_trans hl hm, fun h0 => ?_⟩
    have hc0 := hf 0 h0
    have hz : (a.add (0 * 1)).add 0 = a.add 0 := by simp [Addr.add]
    rw [hz] at hc0
    obtain ⟨hlt, ha⟩ := add_zero_spot hc0
    refine ⟨a.block, a.off, hlt, by rw [← ha], fun i hi' => ?_⟩
    rw [boC_len, List.length_map, List.length_range] at hi'
    have hcell := hf i hi'
    rw [ha, add_plain, add_plain] at hcell
    rw [boC_at _ i (by simpa using hi')]
    have e : ((List.range len).map f).getD i false = f i := by simp [List.getD, hi']
    rw [e]
    simpa using hcell
theorem entry_of_cells {fuel : Nat} {cs : List Value} {x : DataW H × List MemPlace} (h : DataW.trod enc Try.prog w base spare held fuel 24 cs = some x) :
    ∃ p n c, ∃ E : En, cs = [.int .i64 E.owner, .slice p n c] ∧ E.share.length = n ∧ n ≤ c ∧ n ≤ maxLen ∧ Sl w p n (boC E.share) := by
  obtain ⟨xs, n, _, _, hlen, hxl, hf⟩ := DataW.trod_struct Try.underlying24 h
  rw [cells_entry] at hlen
  match cs, hlen with
  | [v0, v1], _ =>
    match xs, hxl with
    | [y0, y1], _ =>
      have e0 : DataW.trod enc Try.prog w base spare held n 3 [v0] = some y0 := by simpa [cells_bools, cells_int] using hf 0 _ rfl
      have e1 : DataW.trod enc Try.prog w base spare held n 22 [v1] = some y1 := by simpa [cells_bools, cells_int] using hf 1 _ rfl
      have hform : ∃ q k c, v1 = .slice q k c := by
        rcases open_slice Try.underlying22 e1 with ⟨hcs, _⟩ | ⟨a', l', c', _, _, _, _, hcs, _⟩
        · exact ⟨none, 0, 0, by simpa using hcs⟩
        · exact ⟨some a', l', c', by simpa using hcs⟩
      obtain ⟨q, k, c, rfl⟩ := hform
      obtain ⟨x0, q0, _, _⟩ := DataW.trod_int Try.underlying3 e0
      simp at q0
      subst q0
      obtain ⟨L, h1, h2, h3, h4⟩ := bools_of_cells e1
      exact ⟨q, k, c, ⟨x0, L⟩, rfl, h1, h2, h3, h4⟩
end
end Go.Proofs.Ythkpoiaakggimaa
