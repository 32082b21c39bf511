/- What an argument that is a core, or its registers alone, reads as: numbers in cells; no condition. -/
import Derived.Test.YtdebkncjmbhneaaIsaOpen
import Derived.Test.YtdebkncjmbhneaaCoreA
namespace Go.Proofs.Ytdebkncjmbhneaa
open Go.ChangeShapes Go.WideShapes Go.ChangeAt Go.RowKit Go.Deep

theorem cells_arr : Try.prog.cellsOf 24 = 8 := by kernel_rfl
theorem cells_core : Try.prog.cellsOf 26 = 10 := by kernel_rfl
theorem cells_num : Try.prog.cellsOf 23 = 1 := by kernel_rfl
theorem cells_int : Try.prog.cellsOf 3 = 1 := by kernel_rfl
theorem cells_bool : Try.prog.cellsOf 4 = 1 := by kernel_rfl

section
variable {H : Type} {enc : TypeId × Value → H} {w : World} {base : Nat} {spare : Nat → Bool} {held : Bool}

/-- Eight numbers. -/
theorem regs_of_cells {fuel : Nat} {cs : List Value} {x : DataW H × List MemPlace} (h : DataW.trod enc Try.prog w base spare held fuel 24 cs = some x) :
    ∃ r : Nat → Int, cs = [.int .u32 (r 0), .int .u32 (r 1), .int .u32 (r 2), .int .u32 (r 3), .int .u32 (r 4), .int .u32 (r 5), .int .u32 (r 6), .int .u32 (r 7)] ∧ (∀ i, i < 8 → 0 ≤ r i) ∧ ∀ i, i < 8 → r i ≤ 4294967295 := by
  obtain ⟨xs, m, _, _, hlen, hxl, hf⟩ := DataW.trod_array Try.underlying24 h
  rw [cells_arr] at hlen
  have hex : ∀ i, i < 8 → ∃ n : Int, cs[i]? = some (.int .u32 n) ∧ 0 ≤ n ∧ n ≤ 4294967295 := fun i hi => by
    have hi' := hf i hi
    obtain ⟨y, hy⟩ : ∃ y, xs[i]? = some y := ⟨_, List.getElem?_eq_getElem (by omega)⟩
    rw [hy, cells_num] at hi'
    obtain ⟨n, hn, _, wf⟩ := DataW.trod_int Try.underlying23 hi'
    have b := bounds_u32 wf
    refine ⟨n, ?_, b.1, b.2⟩
    have e : ((cs.drop (i * 1)).take 1)[0]? = some (.int .u32 n) := by rw [hn]; rfl
    rw [List.getElem?_take_of_lt (by omega), List.getElem?_drop] at e
    simpa using e
  obtain ⟨r, hr⟩ := choose_lt hex
  refine ⟨r, ?_, fun i hi => (hr i hi).2.1, fun i hi => (hr i hi).2.2⟩
  clear hex hf h
  match cs, hlen, hr with
  | [v0, v1, v2, v3, v4, v5, v6, v7], _, hr =>
    have q0 : v0 = _ := Option.some.inj (hr 0 (by omega)).1
    have q1 : v1 = _ := Option.some.inj (hr 1 (by omega)).1
    have q2 : v2 = _ := Option.some.inj (hr 2 (by omega)).1
    have q3 : v3 = _ := Option.some.inj (hr 3 (by omega)).1
    have q4 : v4 = _ := Option.some.inj (hr 4 (by omega)).1
    have q5 : v5 = _ := Option.some.inj (hr 5 (by omega)).1
    have q6 : v6 = _ := Option.some.inj (hr 6 (by omega)).1
    have q7 : v7 = _ := Option.some.inj (hr 7 (by omega)).1
    rw [q0, q1, q2, q3, q4, q5, q6, q7]

/-- The ten cells of a core. -/
theorem core_of_cells {fuel : Nat} {cs : List Value} {x : DataW H × List MemPlace} (h : DataW.trod enc Try.prog w base spare held fuel 26 cs = some x) :
    ∃ c : Cor, cs = c.row.toList ∧ c.Fits := by
  obtain ⟨xs, n, _, _, hlen, hxl, hf⟩ := DataW.trod_struct Try.underlying26 h
  rw [cells_core] at hlen
  match cs, hlen with
  | [v0, v1, v2, v3, v4, v5, v6, v7, v8, v9], _ =>
    match xs, hxl with
    | [y0, y1, y2], _ =>
      have e0 : DataW.trod enc Try.prog w base spare held n 24 [v0, v1, v2, v3, v4, v5, v6, v7] = some y0 := by simpa [cells_arr] using hf 0 _ rfl
      have e1 : DataW.trod enc Try.prog w base spare held n 3 [v8] = some y1 := by simpa [cells_int] using hf 1 _ rfl
      have e2 : DataW.trod enc Try.prog w base spare held n 4 [v9] = some y2 := by simpa [cells_bool] using hf 2 _ rfl
      obtain ⟨r, hr, h0, h1⟩ := regs_of_cells e0
      obtain ⟨p, q1, _, _⟩ := DataW.trod_int Try.underlying3 e1
      obtain ⟨b, q2, _⟩ := DataW.trod_bool Try.underlying4 e2
      simp at hr q1 q2
      obtain ⟨g0, g1, g2, g3, g4, g5, g6, g7⟩ := hr
      subst g0 g1 g2 g3 g4 g5 g6 g7 q1 q2
      exact ⟨⟨r, p, b⟩, rfl, ⟨h0, h1⟩⟩
end
end Go.Proofs.Ytdebkncjmbhneaa
