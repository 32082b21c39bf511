/- What an argument that is a clock, or things to be done, reads as; no condition. -/
import Derived.Test.YtbogkloemmddcaaCkS
import Derived.Test.YtbogkloemmddcaaCkM
import Derived.OpenShut
import Derived.ProofKit
import Derived.Deep.Slices
namespace Go.Proofs.Ytbogkloemmddcaa
set_option linter.unusedVariables false
open Go.ChangeShapes Go.WideShapes Go.ChangeAt Go.RowKit Go.Deep

theorem cells_u8 : Try.prog.cellsOf 5 = 1 := by kernel_rfl
theorem cells_do : Try.prog.cellsOf 34 = 2 := by kernel_rfl
theorem cells_arr : Try.prog.cellsOf 48 = 8 := by kernel_rfl
theorem cells_core : Try.prog.cellsOf 50 = 10 := by kernel_rfl
theorem cells_num : Try.prog.cellsOf 47 = 1 := by kernel_rfl
theorem cells_int : Try.prog.cellsOf 3 = 1 := by kernel_rfl
theorem cells_bool : Try.prog.cellsOf 4 = 1 := by kernel_rfl
theorem cells_cores : Try.prog.cellsOf 30 = 1 := by kernel_rfl
theorem cells_marks : Try.prog.cellsOf 24 = 1 := by kernel_rfl
theorem cells_mark : Try.prog.cellsOf 32 = 3 := by kernel_rfl
theorem cells_clock : Try.prog.cellsOf 26 = 2 := by kernel_rfl
section
variable {H : Type} {enc : TypeId × Value → H} {w : World} {base : Nat} {spare : Nat → Bool} {held : Bool}

theorem add_zero_spot {a : Addr} {v : Value} (h : w.cell? (a.add 0) = some v) : a.block < w.heap.size ∧ a = ⟨a.block, a.off, none⟩ := by
  have hs : a.spot = none := by simpa [Addr.add] using World.cell?_spot h
  obtain ⟨b, o, s⟩ := a
  simp only at hs
  subst hs
  refine ⟨?_, rfl⟩
  have h0 : w.cell? ⟨b, o, none⟩ = some v := by simpa [Addr.add] using h
  by_cases hb : b < w.heap.size
  · exact hb
  · simp [World.cell?, Array.getElem?_eq_none (show w.heap.size ≤ b by omega)] at h0
theorem add_plain (b o k : Nat) : (⟨b, o, none⟩ : Addr).add k = ⟨b, o + k, none⟩ := by unfold Addr.add; split <;> simp_all
set_option maxRecDepth 100000 in
theorem do_of_cells {fuel : Nat} {cs : List Value} {x : DataW H × List MemPlace} (h : DataW.trod enc Try.prog w base spare held fuel 34 cs = some x) :
    ∃ y : Dt, cs = y.row.toList ∧ y.Fits := by
  obtain ⟨xs, n, _, _, hlen, hxl, hf⟩ := DataW.trod_struct Try.underlying34 h
  rw [cells_do] at hlen
  match cs, hlen with
  | [v0, v1], _ =>
    match xs, hxl with
    | [y0, y1], _ =>
      have e0 : DataW.trod enc Try.prog w base spare held n 5 [v0] = some y0 := by simpa [cells_u8] using hf 0 _ rfl
      have e1 : DataW.trod enc Try.prog w base spare held n 5 [v1] = some y1 := by simpa [cells_u8] using hf 1 _ rfl
      obtain ⟨x0, q0, _, wf0⟩ := DataW.trod_int Try.underlying5 e0
      obtain ⟨x1, q1, _, wf1⟩ := DataW.trod_int Try.underlying5 e1
      have b0 := bounds_u8 wf0
      have b1 := bounds_u8 wf1
      simp at q0 q1
      subst q0 q1
      obtain ⟨n0, rfl⟩ := Int.eq_ofNat_of_zero_le b0.1
      obtain ⟨n1, rfl⟩ := Int.eq_ofNat_of_zero_le b1.1
      exact ⟨⟨n0, n1⟩, rfl, by show n0 < 256; omega, by show n1 < 256; omega⟩
theorem dos_of_cells {fuel : Nat} {p : Option Addr} {len cap : Nat} {x : DataW H × List MemPlace} (h : DataW.trod enc Try.prog w base spare held fuel 22 [.slice p len cap] = some x) :
    ∃ ps : List Dt, ps.length = len ∧ len ≤ maxLen ∧ (∀ y ∈ ps, y.Fits) ∧ Els w p 2 len (fun k => (ps.getD k dt0).row) := by
  rcases open_slice Try.underlying22 h with ⟨hcs, _⟩ | ⟨a, len', cap', m, n, D, Pl, hcs, _, hl, hm, hmm, _, hi⟩
  · simp at hcs
    obtain ⟨rfl, rfl, rfl⟩ := hcs
    exact ⟨[], rfl, Nat.zero_le _, fun m hm => (by cases hm), fun h0 => absurd h0 (Nat.lt_irrefl 0)⟩
  · simp at hcs
    obtain ⟨rfl, rfl, rfl⟩ := hcs
    have hlm : len ≤ m := by rw [hmm]; split <;> omega
    have hex : ∀ i, i < len → ∃ y : Dt, (∀ j, j < 2 → w.cell? ((a.add (i * 2)).add j) = y.row.toList[j]?) ∧ y.Fits := fun i hlt => by
      obtain ⟨cs', hc, ht⟩ := hi i (by omega)
      rw [cells_do] at hc
      obtain ⟨y, rfl, hy0⟩ := do_of_cells ht
      exact ⟨y, (World.cells?_some hc).2.2, hy0⟩
    have : Inhabited Dt := ⟨dt0⟩
    obtain ⟨f, hf⟩ := choose_lt hex
    refine ⟨(List.range len).map f, by simp, Nat.le_trans hl hm, fun m hm => ?_, fun h0 => ?_⟩
    · obtain ⟨i, hi', rfl⟩ := List.mem_map.1 hm
      exact (hf i (List.mem_range.1 hi')).2
    · have hc0 := (hf 0 h0).1 0 (by omega)
      have hz : (a.add (0 * 2)).add 0 = a.add 0 := by simp [Addr.add]
      rw [hz] at hc0
      obtain ⟨hlt, ha⟩ := add_zero_spot (v := .int .u8 (f 0).kind) (by rw [hc0]; rfl)
      refine ⟨a.block, a.off, hlt, by rw [← ha], fun k hk j hj => ?_⟩
      have := (hf k hk).1 j hj
      rw [ha, add_plain, add_plain] at this
      rw [this]
      simp [List.getD, hk]

/-- Eight numbers. -/
theorem regs_of_cells {fuel : Nat} {cs : List Value} {x : DataW H × List MemPlace} (h : DataW.trod enc Try.prog w base spare held fuel 48 cs = some x) :
    ∃ r : Nat → Int, cs = [.int .u32 (r 0), .int .u32 (r 1), .int .u32 (r 2), .int .u32 (r 3), .int .u32 (r 4), .int .u32 (r 5), .int .u32 (r 6), .int .u32 (r 7)] := by
  obtain ⟨xs, m, _, _, hlen, hxl, hf⟩ := DataW.trod_array Try.underlying48 h
  rw [cells_arr] at hlen
  have hex : ∀ i, i < 8 → ∃ n : Int, cs[i]? = some (.int .u32 n) := fun i hi => by
    have hi' := hf i hi
    obtain ⟨y, hy⟩ : ∃ y, xs[i]? = some y := ⟨_, List.getElem?_eq_getElem (by omega)⟩
    rw [hy, cells_num] at hi'
    obtain ⟨n, hn, _, wf⟩ := DataW.trod_int Try.underlying47 hi'
    refine ⟨n, ?_⟩
    have e : ((cs.drop (i * 1)).take 1)[0]? = some (.int .u32 n) := by rw [hn]; rfl
    rw [List.getElem?_take_of_lt (by omega), List.getElem?_drop] at e
    simpa using e
  obtain ⟨r, hr⟩ := choose_lt hex
  refine ⟨r, ?_⟩
  clear hex hf h
  match cs, hlen, hr with
  | [v0, v1, v2, v3, v4, v5, v6, v7], _, hr =>
    have q0 : v0 = _ := Option.some.inj (hr 0 (by omega))
    have q1 : v1 = _ := Option.some.inj (hr 1 (by omega))
    have q2 : v2 = _ := Option.some.inj (hr 2 (by omega))
    have q3 : v3 = _ := Option.some.inj (hr 3 (by omega))
    have q4 : v4 = _ := Option.some.inj (hr 4 (by omega))
    have q5 : v5 = _ := Option.some.inj (hr 5 (by omega))
    have q6 : v6 = _ := Option.some.inj (hr 6 (by omega))
    have q7 : v7 = _ := Option.some.inj (hr 7 (by omega))
    rw [q0, q1, q2, q3, q4, q5, q6, q7]

/-- The ten cells of a core. -/
theorem core_of_cells {fuel : Nat} {cs : List Value} {x : DataW H × List MemPlace} (h : DataW.trod enc Try.prog w base spare held fuel 50 cs = some x) :
    ∃ c : Cor, cs = c.row.toList := by
  obtain ⟨xs, n, _, _, hlen, hxl, hf⟩ := DataW.trod_struct Try.underlying50 h
  rw [cells_core] at hlen
  match cs, hlen with
  | [v0, v1, v2, v3, v4, v5, v6, v7, v8, v9], _ =>
    match xs, hxl with
    | [y0, y1, y2], _ =>
      have e0 : DataW.trod enc Try.prog w base spare held n 48 [v0, v1, v2, v3, v4, v5, v6, v7] = some y0 := by simpa [cells_arr] using hf 0 _ rfl
      have e1 : DataW.trod enc Try.prog w base spare held n 3 [v8] = some y1 := by simpa [cells_int] using hf 1 _ rfl
      have e2 : DataW.trod enc Try.prog w base spare held n 4 [v9] = some y2 := by simpa [cells_bool] using hf 2 _ rfl
      obtain ⟨r, hr⟩ := regs_of_cells e0
      obtain ⟨p, q1, _, _⟩ := DataW.trod_int Try.underlying3 e1
      obtain ⟨b, q2, _⟩ := DataW.trod_bool Try.underlying4 e2
      simp at hr q1 q2
      obtain ⟨g0, g1, g2, g3, g4, g5, g6, g7⟩ := hr
      subst g0 g1 g2 g3 g4 g5 g6 g7 q1 q2
      exact ⟨⟨r, p, b⟩, rfl⟩
theorem cores_of_cells {fuel : Nat} {p : Option Addr} {len cap : Nat} {x : DataW H × List MemPlace} (h : DataW.trod enc Try.prog w base spare held fuel 30 [.slice p len cap] = some x) :
    ∃ l : List Cor, l.length = len ∧ len ≤ cap ∧ len ≤ maxLen ∧ Sl w p len (coresC l) := by
  rcases open_slice Try.underlying30 h with ⟨hcs, _⟩ | ⟨a, len', cap', m, n, D, Pl, hcs, _, hl, hm, hmm, _, hi⟩
  · simp at hcs
    obtain ⟨rfl, rfl, rfl⟩ := hcs
    exact ⟨[], rfl, Nat.le_refl _, Nat.zero_le _, fun h0 => absurd h0 (Nat.lt_irrefl 0)⟩
  · simp at hcs
    obtain ⟨rfl, rfl, rfl⟩ := hcs
    have hlm : len ≤ m := by rw [hmm]; split <;> omega
    have hex : ∀ i, i < len → ∃ y : Cor, (∀ j, j < 10 → w.cell? ((a.add (i * 10)).add j) = y.row.toList[j]?) := fun i hlt => by
      obtain ⟨cs', hc, ht⟩ := hi i (by omega)
      rw [cells_core] at hc
      obtain ⟨y, rfl⟩ := core_of_cells ht
      exact ⟨y, (World.cells?_some hc).2.2⟩
    have : Inhabited Cor := ⟨zcor⟩
    obtain ⟨f, hf⟩ := choose_lt hex
    refine ⟨(List.range len).map f, by simp, hl, Nat.le_trans hl hm, fun h0 => ?_⟩
    have hc0 := (hf 0 h0) 0 (by omega)
    have hz : (a.add (0 * 10)).add 0 = a.add 0 := by simp [Addr.add]
    rw [hz] at hc0
    obtain ⟨hlt, ha⟩ := add_zero_spot (v := .int .u32 ((f 0).r 0)) (by rw [hc0]; rfl)
    refine ⟨a.block, a.off, hlt, by rw [← ha], fun j hj => ?_⟩
    rw [coresC_len, List.length_map, List.length_range] at hj
    have hk : j / 10 < len := by omega
    have hcell := hf (j / 10) hk (j % 10) (Nat.mod_lt _ (by decide))
    rw [ha, add_plain, add_plain] at hcell
    rw [show a.off + j / 10 * 10 + j % 10 = a.off + j by omega] at hcell
    have hu := coresC_at ((List.range len).map f) (j / 10) (j % 10) (by simpa using hk) (Nat.mod_lt _ (by decide))
    rw [show j / 10 * 10 + j % 10 = j by omega] at hu
    have e : ((List.range len).map f).getD (j / 10) zcor = f (j / 10) := by simp [List.getD, hk]
    rw [hu, e]
    exact hcell.trans Array.getElem?_toList
set_option maxRecDepth 100000 in
theorem mark_of_cells {fuel : Nat} {cs : List Value} {x : DataW H × List MemPlace} (h : DataW.trod enc Try.prog w base spare held fuel 32 cs = some x) :
    ∃ y : Mv, cs = mvL y ∧ MrX w y := by
  obtain ⟨xs, n, _, _, hlen, hxl, hf⟩ := DataW.trod_struct Try.underlying32 h
  rw [cells_mark] at hlen
  match cs, hlen with
  | [v0, v1, v2], _ =>
    match xs, hxl with
    | [y0, y1, y2], _ =>
      have e0 : DataW.trod enc Try.prog w base spare held n 3 [v0] = some y0 := by simpa [cells_int, cells_cores] using hf 0 _ rfl
      have e1 : DataW.trod enc Try.prog w base spare held n 3 [v1] = some y1 := by simpa [cells_int, cells_cores] using hf 1 _ rfl
      have e2 : DataW.trod enc Try.prog w base spare held n 30 [v2] = some y2 := by simpa [cells_int, cells_cores] using hf 2 _ rfl
      have f2 : ∃ q k c, v2 = .slice q k c := by
        rcases open_slice Try.underlying30 e2 with ⟨hcs, _⟩ | ⟨a', l', c', _, _, _, _, hcs, _⟩
        · exact ⟨none, 0, 0, by simpa using hcs⟩
        · exact ⟨some a', l', c', by simpa using hcs⟩
      obtain ⟨q, k, d, rfl⟩ := f2
      obtain ⟨x0, q0, _, _⟩ := DataW.trod_int Try.underlying3 e0
      obtain ⟨x1, q1, _, _⟩ := DataW.trod_int Try.underlying3 e1
      simp at q0 q1
      subst q0 q1
      obtain ⟨A, h1, h2, h3, h4⟩ := cores_of_cells e2
      exact ⟨⟨x0, x1, q, k, d, A⟩, rfl, h1, h2, h3, h4⟩
theorem marks_of_cells {fuel : Nat} {p : Option Addr} {len cap : Nat} {x : DataW H × List MemPlace} (h : DataW.trod enc Try.prog w base spare held fuel 24 [.slice p len cap] = some x) :
    ∃ l : List Mv, KcX w p len cap l := by
  rcases open_slice Try.underlying24 h with ⟨hcs, _⟩ | ⟨a, len', cap', m, n, D, Pl, hcs, _, hl, hm, hmm, _, hi⟩
  · simp at hcs
    obtain ⟨rfl, rfl, rfl⟩ := hcs
    exact ⟨[], rfl, Nat.le_refl _, Nat.zero_le _, fun h0 => absurd h0 (Nat.lt_irrefl 0), fun x hx => (by cases hx)⟩
  · simp at hcs
    obtain ⟨rfl, rfl, rfl⟩ := hcs
    have hlm : len ≤ m := by rw [hmm]; split <;> omega
    have hex : ∀ i, i < len → ∃ y : Mv, (∀ j, j < 3 → w.cell? ((a.add (i * 3)).add j) = (mvL y)[j]?) ∧ MrX w y := fun i hlt => by
      obtain ⟨cs', hc, ht⟩ := hi i (by omega)
      rw [cells_mark] at hc
      obtain ⟨y, rfl, hy⟩ := mark_of_cells ht
      exact ⟨y, (World.cells?_some hc).2.2, hy⟩
    have : Inhabited Mv := ⟨zV⟩
    obtain ⟨f, hf⟩ := choose_lt hex
    refine ⟨(List.range len).map f, by simp, hl, Nat.le_trans hl hm, fun h0 => ?_, fun x hx => ?_⟩
    · have hc0 := (hf 0 h0).1 0 (by omega)
      have hz : (a.add (0 * 3)).add 0 = a.add 0 := by simp [Addr.add]
      rw [hz] at hc0
      obtain ⟨hlt, ha⟩ := add_zero_spot (v := .int .i64 (f 0).span) (by rw [hc0]; rfl)
      refine ⟨a.block, a.off, hlt, by rw [← ha], fun j hj => ?_⟩
      rw [mvC_len, List.length_map, List.length_range] at hj
      have hk : j / 3 < len := by omega
      have hcell := (hf (j / 3) hk).1 (j % 3) (Nat.mod_lt _ (by decide))
      rw [ha, add_plain, add_plain] at hcell
      rw [show a.off + j / 3 * 3 + j % 3 = a.off + j by omega] at hcell
      have hu := mvC_at ((List.range len).map f) (j / 3) (j % 3) (by simpa using hk) (Nat.mod_lt _ (by decide))
      rw [show j / 3 * 3 + j % 3 = j by omega] at hu
      have e : ((List.range len).map f).getD (j / 3) zV = f (j / 3) := by simp [List.getD, hk]
      rw [hu, e]
      exact hcell.trans Array.getElem?_toList
    · obtain ⟨i, hi', rfl⟩ := List.mem_map.1 hx
      exact (hf i (List.mem_range.1 hi')).2
set_option maxRecDepth 100000 in
theorem clock_of_cells {fuel : Nat} {cs : List Value} {x : DataW H × List MemPlace} (h : DataW.trod enc Try.prog w base spare held fuel 26 cs = some x) :
    ∃ p n c, ∃ wt : Int, ∃ xs : List Mv, cs = [.slice p n c, .int .i64 wt] ∧ KcX w p n c xs := by
  obtain ⟨xs, n, _, _, hlen, hxl, hf⟩ := DataW.trod_struct Try.underlying26 h
  rw [cells_clock] at hlen
  match cs, hlen with
  | [v0, v1], _ =>
    match xs, hxl with
    | [y0, y1], _ =>
      have e0 : DataW.trod enc Try.prog w base spare held n 24 [v0] = some y0 := by simpa [cells_int, cells_marks] using hf 0 _ rfl
      have e1 : DataW.trod enc Try.prog w base spare held n 3 [v1] = some y1 := by simpa [cells_int, cells_marks] using hf 1 _ rfl
      have f0 : ∃ q k c, v0 = .slice q k c := by
        rcases open_slice Try.underlying24 e0 with ⟨hcs, _⟩ | ⟨a', l', c', _, _, _, _, hcs, _⟩
        · exact ⟨none, 0, 0, by simpa using hcs⟩
        · exact ⟨some a', l', c', by simpa using hcs⟩
      obtain ⟨p, m, c, rfl⟩ := f0
      obtain ⟨x1, q1, _, _⟩ := DataW.trod_int Try.underlying3 e1
      simp at q1
      subst q1
      obtain ⟨A, hA⟩ := marks_of_cells e0
      exact ⟨p, m, c, x1, A, rfl, hA⟩
end
end Go.Proofs.Ytbogkloemmddcaa
