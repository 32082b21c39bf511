/- What an argument that is an instruction, a program or a list of programs reads as: numbers in cells; no condition. -/
import Derived.Test.YtdebkncjmbhneaaIsaAll
import Derived.Deep.Slices
import Derived.OpenShut
namespace Go.Proofs.Ytdebkncjmbhneaa
open Go.ChangeShapes Go.WideShapes Go.ChangeAt Go.RowKit Go.Deep

theorem cells3 : Try.prog.cellsOf 3 = 1 := by kernel_rfl
theorem cells22 : Try.prog.cellsOf 23 = 1 := by kernel_rfl
theorem cells24 : Try.prog.cellsOf 38 = 5 := by kernel_rfl
theorem cells29 : Try.prog.cellsOf 22 = 1 := by kernel_rfl

section
variable {H : Type} {enc : TypeId × Value → H} {w : World} {base : Nat} {spare : Nat → Bool} {held : Bool}

/-- The five cells of an instruction are five numbers. -/
theorem ins_of_cells {fuel : Nat} {cs : List Value} {x : DataW H × List MemPlace} (h : DataW.trod enc Try.prog w base spare held fuel 38 cs = some x) :
    ∃ y : I5, cs = y.row.toList ∧ 0 ≤ y.k ∧ y.k ≤ 4294967295 := by
  obtain ⟨xs, n, _, _, hlen, hxl, hf⟩ := DataW.trod_struct Try.underlying38 h
  rw [cells24] at hlen
  match cs, hlen with
  | [v0, v1, v2, v3, v4], _ =>
    match xs, hxl with
    | [y0, y1, y2, y3, y4], _ =>
      have e0 : DataW.trod enc Try.prog w base spare held n 3 [v0] = some y0 := by simpa [cells3] using hf 0 _ rfl
      have e1 : DataW.trod enc Try.prog w base spare held n 3 [v1] = some y1 := by simpa [cells3] using hf 1 _ rfl
      have e2 : DataW.trod enc Try.prog w base spare held n 3 [v2] = some y2 := by simpa [cells3] using hf 2 _ rfl
      have e3 : DataW.trod enc Try.prog w base spare held n 3 [v3] = some y3 := by simpa [cells3] using hf 3 _ rfl
      have e4 : DataW.trod enc Try.prog w base spare held n 23 [v4] = some y4 := by simpa [cells22] using hf 4 _ rfl
      obtain ⟨n0, q0, _, _⟩ := DataW.trod_int Try.underlying3 e0
      obtain ⟨n1, q1, _, _⟩ := DataW.trod_int Try.underlying3 e1
      obtain ⟨n2, q2, _, _⟩ := DataW.trod_int Try.underlying3 e2
      obtain ⟨n3, q3, _, _⟩ := DataW.trod_int Try.underlying3 e3
      obtain ⟨n4, q4, _, wf4⟩ := DataW.trod_int Try.underlying23 e4
      simp at q0 q1 q2 q3 q4
      subst q0 q1 q2 q3 q4
      have b4 := bounds_u32 wf4
      exact ⟨⟨n0, n1, n2, n3, n4⟩, rfl, b4.1, b4.2⟩

theorem add_zero_spot {a : Addr} {v : Value} (h : w.cell? (a.add 0) = some v) : a.block < w.heap.size ∧ a = ⟨a.block, a.off, none⟩ := by
  have hs : a.spot = none := by simpa [Addr.add] using World.cell?_spot h
  obtain ⟨b, o, s⟩ := a
  simp only at hs
  subst hs
  refine ⟨?_, rfl⟩
  have h0 : w.cell? ⟨b, o, none⟩ = some v := by simpa [Addr.add] using h
  by_cases hb : b < w.heap.size
  · exact hb
  · simp [World.cell?, Array.getElem?_eq_none (show w.heap.size ≤ b by omega)] at h0

theorem add_plain (b o k : Nat) : (⟨b, o, none⟩ : Addr).add k = ⟨b, o + k, none⟩ := by unfold Addr.add; split <;> simp_all

theorem prg_of_cells {fuel : Nat} {p : Option Addr} {len cap : Nat} {x : DataW H × List MemPlace} (h : DataW.trod enc Try.prog w base spare held fuel 22 [.slice p len cap] = some x) :
    ∃ l : List I5, l.length = len ∧ len ≤ maxLen ∧ Prg w p l := by
  rcases open_slice Try.underlying22 h with ⟨hcs, _⟩ | ⟨a, len', cap', m, n, D, Pl, hcs, _, hl, hm, hmm, _, hi⟩
  · simp at hcs
    obtain ⟨rfl, rfl, rfl⟩ := hcs
    exact ⟨[], rfl, Nat.zero_le _, fun h0 => absurd h0 (by simp)⟩
  · simp at hcs
    obtain ⟨rfl, rfl, rfl⟩ := hcs
    have hlm : len ≤ m := by rw [hmm]; split <;> omega
    have hex : ∀ i, i < len → ∃ y : I5, (∀ j, j < 5 → w.cell? ((a.add (i * 5)).add j) = y.row.toList[j]?) ∧ 0 ≤ y.k ∧ y.k ≤ 4294967295 := fun i hlt => by
      obtain ⟨cs', hc, ht⟩ := hi i (by omega)
      rw [cells24] at hc
      obtain ⟨y, rfl, hy0, hy1⟩ := ins_of_cells ht
      exact ⟨y, (World.cells?_some hc).2.2, hy0, hy1⟩
    have : Inhabited I5 := ⟨zero5⟩
    obtain ⟨f, hf⟩ := choose_lt hex
    refine ⟨(List.range len).map f, by simp, Nat.le_trans hl hm, fun h0 => ?_⟩
    have h0' : 0 < len := by simpa using h0
    have hc0 := (hf 0 h0').1 0 (by omega)
    have hz : (a.add (0 * 5)).add 0 = a.add 0 := by simp [Addr.add]
    rw [hz] at hc0
    obtain ⟨hlt, ha⟩ := add_zero_spot hc0
    refine ⟨a.block, a.off, hlt, by rw [← ha], fun i hi' => ?_⟩
    have hi'' : i < len := by simpa using hi'
    obtain ⟨hcell, hk0, hk1⟩ := hf i hi''
    have e : at5 ((List.range len).map f) i = f i := by unfold at5; simp [List.getD, hi'']
    rw [e]
    have hat : ∀ j, j < 5 → w.cell? ⟨a.block, a.off + i * 5 + j, none⟩ = (f i).row.toList[j]? := fun j hj => by
      have := hcell j hj
      rw [ha, add_plain, add_plain] at this
      exact this
    exact ⟨hat 0 (by omega), hat 1 (by omega), hat 2 (by omega), hat 3 (by omega), hat 4 (by omega), hk0, hk1⟩

end
end Go.Proofs.Ytdebkncjmbhneaa
