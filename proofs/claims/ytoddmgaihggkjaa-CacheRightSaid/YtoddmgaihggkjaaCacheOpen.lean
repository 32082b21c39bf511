/- What an argument that is bytes, things to be done, or a cache, reads as; no condition. -/
import Derived.Test.YtoddmgaihggkjaaCacheM0
import Derived.OpenShut
import Derived.ProofKit
import Derived.Deep.Slices
namespace Go.Proofs.Ytoddmgaihggkjaa
set_option linter.unusedVariables false
open Go.ChangeShapes Go.WideShapes Go.ChangeAt Go.RowKit Go.Deep

theorem cells_u8 : Try.prog.cellsOf 5 = 1 := by kernel_rfl
theorem cells_int : Try.prog.cellsOf 3 = 1 := by kernel_rfl
theorem cells_u32 : Try.prog.cellsOf 25 = 1 := by kernel_rfl
theorem cells_line : Try.prog.cellsOf 30 = 4 := by kernel_rfl
theorem cells_lines : Try.prog.cellsOf 28 = 1 := by kernel_rfl
theorem cells_rows : Try.prog.cellsOf 22 = 1 := by kernel_rfl
theorem cells_cache : Try.prog.cellsOf 24 = 4 := by kernel_rfl
theorem cells_do : Try.prog.cellsOf 53 = 4 := by kernel_rfl
/-- A cache in memory of whatever size. -/
structure CcX (w : World) (p : Option Addr) (n c : Nat) (xs : List Value) (C : Ch) : Prop where
  zn : C.lines.length = n
  len : xs.length = n
  sl : Sl w p n xs
  rs : ∀ k, k < n → Lv w (xs.getD k vz) (C.lines.getD k [])
  cn : n ≤ c
  n63 : n ≤ maxLen
  l63 : ∀ k, (C.lines.getD k []).length ≤ maxLen
section
variable {H : Type} {enc : TypeId × Value → H} {w : World} {base : Nat} {spare : Nat → Bool} {held : Bool}

theorem add_zero_spot {a : Addr} {v : Value} (h : w.cell? (a.add 0) = some v) : a.block < w.heap.size ∧ a = ⟨a.block, a.off, none⟩ := by
  have hs : a.spot = none := by simpa [Addr.add] using World.cell?_spot h
  obtain ⟨b, o, s⟩ := a
  simp only at hs
  subst hs
  refine ⟨?_, rfl⟩
  have h0 : w.cell? ⟨b, o, none⟩ = some v := by simpa [Addr.add] using h
  by_cases hb : b < w.heap.size
  · exact hb
  · simp [World.cell?, Array.getElem?_eq_none (show w.heap.size ≤ b by omega)] at h0
theorem add_plain (b o k : Nat) : (⟨b, o, none⟩ : Addr).add k = ⟨b, o + k, none⟩ := by unfold Addr.add; split <;> simp_all
theorem bytes_of_cells {fuel : Nat} {p : Option Addr} {len cap : Nat} {x : DataW H × List MemPlace} (h : DataW.trod enc Try.prog w base spare held fuel 55 [.slice p len cap] = some x) :
    ∃ l : List Nat, l.length = len ∧ len ≤ cap ∧ len ≤ maxLen ∧ Nb w p l := by
  rcases open_slice Try.underlying55 h with ⟨hcs, _⟩ | ⟨a, len', cap', m, n, D, Pl, hcs, _, hl, hm, hmm, _, hi⟩
  · simp at hcs
    obtain ⟨rfl, rfl, rfl⟩ := hcs
    exact ⟨[], rfl, Nat.le_refl _, Nat.zero_le _, ⟨(fun x hx => by cases hx), (fun h0 => absurd h0 (by decide))⟩⟩
  · simp at hcs
    obtain ⟨rfl, rfl, rfl⟩ := hcs
    have hlm : len ≤ m := by rw [hmm]; split <;> omega
    have hex : ∀ i, i < len → ∃ y : Int, w.cell? ((a.add (i * 1)).add 0) = some (.int .u8 y) ∧ 0 ≤ y ∧ y ≤ 255 := fun i hlt => by
      obtain ⟨cs', hc, ht⟩ := hi i (by omega)
      rw [cells_u8] at hc
      obtain ⟨y, hy, _, wf⟩ := DataW.trod_int Try.underlying5 ht
      have b := bounds_u8 wf
      have hcell := (World.cells?_some hc).2.2 0 (by omega)
      rw [hy] at hcell
      exact ⟨y, hcell, b.1, b.2⟩
    obtain ⟨f, hf⟩ := choose_lt hex
    refine ⟨(List.range len).map fun i => (f i).toNat, by simp, hl, Nat.le_trans hl hm, ⟨fun x hx => ?_, fun h0 => ?_⟩⟩
    · obtain ⟨i, hi', rfl⟩ := List.mem_map.1 hx
      have := hf i (List.mem_range.1 hi')
      omega
    · rw [List.length_map, List.length_range] at h0
      have hc0 := (hf 0 h0).1
      have hz : (a.add (0 * 1)).add 0 = a.add 0 := by simp [Addr.add]
      rw [hz] at hc0
      obtain ⟨hlt, ha⟩ := add_zero_spot hc0
      refine ⟨a.block, a.off, hlt, by rw [← ha], fun i hi' => ?_⟩
      rw [List.length_map, List.length_range] at hi'
      have hcell := (hf i hi').1
      rw [ha, add_plain, add_plain] at hcell
      have e : ((List.range len).map fun i => (f i).toNat).getD i 0 = (f i).toNat := by simp [List.getD, hi']
      rw [e, Int.toNat_of_nonneg (hf i hi').2.1]
      simpa using hcell
set_option maxRecDepth 100000 in
theorem do_of_cells {fuel : Nat} {cs : List Value} {x : DataW H × List MemPlace} (h : DataW.trod enc Try.prog w base spare held fuel 53 cs = some x) :
    ∃ y : Dt, cs = y.row.toList ∧ y.Fits := by
  obtain ⟨xs, n, _, _, hlen, hxl, hf⟩ := DataW.trod_struct Try.underlying53 h
  rw [cells_do] at hlen
  match cs, hlen with
  | [v0, v1, v2, v3], _ =>
    match xs, hxl with
    | [y0, y1, y2, y3], _ =>
      have e0 : DataW.trod enc Try.prog w base spare held n 5 [v0] = some y0 := by simpa [cells_u8, cells_u32] using hf 0 _ rfl
      have e1 : DataW.trod enc Try.prog w base spare held n 5 [v1] = some y1 := by simpa [cells_u8, cells_u32] using hf 1 _ rfl
      have e2 : DataW.trod enc Try.prog w base spare held n 5 [v2] = some y2 := by simpa [cells_u8, cells_u32] using hf 2 _ rfl
      have e3 : DataW.trod enc Try.prog w base spare held n 25 [v3] = some y3 := by simpa [cells_u8, cells_u32] using hf 3 _ rfl
      obtain ⟨x0, q0, _, wf0⟩ := DataW.trod_int Try.underlying5 e0
      obtain ⟨x1, q1, _, wf1⟩ := DataW.trod_int Try.underlying5 e1
      obtain ⟨x2, q2, _, wf2⟩ := DataW.trod_int Try.underlying5 e2
      obtain ⟨x3, q3, _, wf3⟩ := DataW.trod_int Try.underlying25 e3
      have b0 := bounds_u8 wf0
      have b1 := bounds_u8 wf1
      have b2 := bounds_u8 wf2
      have b3 := bounds_u32 wf3
      simp at q0 q1 q2 q3
      subst q0 q1 q2 q3
      obtain ⟨n0, rfl⟩ := Int.eq_ofNat_of_zero_le b0.1
      obtain ⟨n1, rfl⟩ := Int.eq_ofNat_of_zero_le b1.1
      obtain ⟨n2, rfl⟩ := Int.eq_ofNat_of_zero_le b2.1
      obtain ⟨n3, rfl⟩ := Int.eq_ofNat_of_zero_le b3.1
      exact ⟨⟨n0, n1, n2, n3⟩, rfl, by show n0 < 256; omega, by show n1 < 256; omega, by show n2 < 256; omega, by show n3 < 4294967296; omega⟩
theorem dos_of_cells {fuel : Nat} {p : Option Addr} {len cap : Nat} {x : DataW H × List MemPlace} (h : DataW.trod enc Try.prog w base spare held fuel 48 [.slice p len cap] = some x) :
    ∃ ps : List Dt, ps.length = len ∧ len ≤ maxLen ∧ (∀ y ∈ ps, y.Fits) ∧ Els w p 4 len (fun k => (ps.getD k dt0).row) := by
  rcases open_slice Try.underlying48 h with ⟨hcs, _⟩ | ⟨a, len', cap', m, n, D, Pl, hcs, _, hl, hm, hmm, _, hi⟩
  · simp at hcs
    obtain ⟨rfl, rfl, rfl⟩ := hcs
    exact ⟨[], rfl, Nat.zero_le _, fun m hm => (by cases hm), fun h0 => absurd h0 (Nat.lt_irrefl 0)⟩
  · simp at hcs
    obtain ⟨rfl, rfl, rfl⟩ := hcs
    have hlm : len ≤ m := by rw [hmm]; split <;> omega
    have hex : ∀ i, i < len → ∃ y : Dt, (∀ j, j < 4 → w.cell? ((a.add (i * 4)).add j) = y.row.toList[j]?) ∧ y.Fits := fun i hlt => by
      obtain ⟨cs', hc, ht⟩ := hi i (by omega)
      rw [cells_do] at hc
      obtain ⟨y, rfl, hy0⟩ := do_of_cells ht
      exact ⟨y, (World.cells?_some hc).2.2, hy0⟩
    have : Inhabited Dt := ⟨dt0⟩
    obtain ⟨f, hf⟩ := choose_lt hex
    refine ⟨(List.range len).map f, by simp, Nat.le_trans hl hm, fun m hm => ?_, fun h0 => ?_⟩
    · obtain ⟨i, hi', rfl⟩ := List.mem_map.1 hm
      exact (hf i (List.mem_range.1 hi')).2
    · have hc0 := (hf 0 h0).1 0 (by omega)
      have hz : (a.add (0 * 4)).add 0 = a.add 0 := by simp [Addr.add]
      rw [hz] at hc0
      obtain ⟨hlt, ha⟩ := add_zero_spot (v := .int .u8 (f 0).kind) (by rw [hc0]; rfl)
      refine ⟨a.block, a.off, hlt, by rw [← ha], fun k hk j hj => ?_⟩
      have := (hf k hk).1 j hj
      rw [ha, add_plain, add_plain] at this
      rw [this]
      simp [List.getD, hk]
set_option maxRecDepth 100000 in
theorem line_of_cells {fuel : Nat} {cs : List Value} {x : DataW H × List MemPlace} (h : DataW.trod enc Try.prog w base spare held fuel 30 cs = some x) :
    ∃ y : Ln, cs = (lnR y).toList := by
  obtain ⟨xs, n, _, _, hlen, hxl, hf⟩ := DataW.trod_struct Try.underlying30 h
  rw [cells_line] at hlen
  match cs, hlen with
  | [v0, v1, v2, v3], _ =>
    match xs, hxl with
    | [y0, y1, y2, y3], _ =>
      have e0 : DataW.trod enc Try.prog w base spare held n 3 [v0] = some y0 := by simpa [cells_int, cells_u32] using hf 0 _ rfl
      have e1 : DataW.trod enc Try.prog w base spare held n 3 [v1] = some y1 := by simpa [cells_int, cells_u32] using hf 1 _ rfl
      have e2 : DataW.trod enc Try.prog w base spare held n 25 [v2] = some y2 := by simpa [cells_int, cells_u32] using hf 2 _ rfl
      have e3 : DataW.trod enc Try.prog w base spare held n 3 [v3] = some y3 := by simpa [cells_int, cells_u32] using hf 3 _ rfl
      obtain ⟨x0, q0, _, wf0⟩ := DataW.trod_int Try.underlying3 e0
      obtain ⟨x1, q1, _, wf1⟩ := DataW.trod_int Try.underlying3 e1
      obtain ⟨x2, q2, _, wf2⟩ := DataW.trod_int Try.underlying25 e2
      obtain ⟨x3, q3, _, wf3⟩ := DataW.trod_int Try.underlying3 e3
      have b2 := bounds_u32 wf2
      simp at q0 q1 q2 q3
      subst q0 q1 q2 q3
      obtain ⟨n2, rfl⟩ := Int.eq_ofNat_of_zero_le b2.1
      exact ⟨⟨x0, x1, n2, x3⟩, rfl⟩
theorem lines_of_cells {fuel : Nat} {p : Option Addr} {len cap : Nat} {x : DataW H × List MemPlace} (h : DataW.trod enc Try.prog w base spare held fuel 28 [.slice p len cap] = some x) :
    ∃ ps : List Ln, ps.length = len ∧ len ≤ cap ∧ len ≤ maxLen ∧ Lm w p ps := by
  rcases open_slice Try.underlying28 h with ⟨hcs, _⟩ | ⟨a, len', cap', m, n, D, Pl, hcs, _, hl, hm, hmm, _, hi⟩
  · simp at hcs
    obtain ⟨rfl, rfl, rfl⟩ := hcs
    exact ⟨[], rfl, Nat.le_refl _, Nat.zero_le _, fun h0 => absurd h0 (Nat.lt_irrefl 0)⟩
  · simp at hcs
    obtain ⟨rfl, rfl, rfl⟩ := hcs
    have hlm : len ≤ m := by rw [hmm]; split <;> omega
    have hex : ∀ i, i < len → ∃ y : Ln, (∀ j, j < 4 → w.cell? ((a.add (i * 4)).add j) = (lnR y).toList[j]?) := fun i hlt => by
      obtain ⟨cs', hc, ht⟩ := hi i (by omega)
      rw [cells_line] at hc
      obtain ⟨y, rfl⟩ := line_of_cells ht
      exact ⟨y, (World.cells?_some hc).2.2⟩
    obtain ⟨f, hf⟩ := choose_lt hex
    refine ⟨(List.range len).map f, by simp, hl, Nat.le_trans hl hm, fun h0 => ?_⟩
    rw [List.length_map, List.length_range] at h0
    have hc0 := (hf 0 h0) 0 (by omega)
    have hz : (a.add (0 * 4)).add 0 = a.add 0 := by simp [Addr.add]
    rw [hz] at hc0
    obtain ⟨hlt, ha⟩ := add_zero_spot (v := .int .i64 (f 0).addr) (by rw [hc0]; rfl)
    refine ⟨a.block, a.off, hlt, by rw [← ha], fun k hk j hj => ?_⟩
    rw [List.length_map, List.length_range] at hk
    have := (hf k hk) j hj
    rw [ha, add_plain, add_plain] at this
    rw [← Nat.add_assoc, this]
    have e : ((List.range len).map f).getD k zL = f k := by simp [List.getD, hk]
    rw [e]
    exact Array.getElem?_toList
theorem rows_of_cells {fuel : Nat} {p : Option Addr} {len cap : Nat} {x : DataW H × List MemPlace} (h : DataW.trod enc Try.prog w base spare held fuel 22 [.slice p len cap] = some x) :
    ∃ xs, ∃ L : List (List Ln), L.length = len ∧ xs.length = len ∧ Sl w p len xs ∧ (∀ k, k < len → Lv w (xs.getD k vz) (L.getD k [])) ∧ len ≤ cap ∧ len ≤ maxLen ∧ ∀ k, (L.getD k []).length ≤ maxLen := by
  rcases open_slice1 Try.underlying22 cells_lines h with ⟨hcs, _⟩ | ⟨a, len', cap', m, n, V, D, Pl, hcs, _, hl, hm, hmm, _, hi⟩
  · simp at hcs
    obtain ⟨rfl, rfl, rfl⟩ := hcs
    exact ⟨[], [], rfl, rfl, Sl.empty _ _ _, fun k hk => absurd hk (Nat.not_lt_zero _), Nat.le_refl _, Nat.zero_le _, fun k => Nat.zero_le _⟩
  · simp at hcs
    obtain ⟨rfl, rfl, rfl⟩ := hcs
    have hlm : len ≤ m := by rw [hmm]; split <;> omega
    have hex : ∀ i, i < len → ∃ y : List Ln, w.cell? (a.add i) = some (V i) ∧ Lv w (V i) y ∧ y.length ≤ maxLen := fun i hlt => by
      obtain ⟨hc, ht⟩ := hi i (by omega)
      have hform : ∃ q k c, V i = .slice q k c := by
        rcases open_slice Try.underlying28 ht with ⟨hcs, _⟩ | ⟨a', l', c', _, _, _, _, hcs, _⟩
        · exact ⟨none, 0, 0, by simpa using hcs⟩
        · exact ⟨some a', l', c', by simpa using hcs⟩
      obtain ⟨q, k, c, hv⟩ := hform
      rw [hv] at ht hc ⊢
      obtain ⟨l, rfl, h1, h2, hb⟩ := lines_of_cells ht
      exact ⟨l, hc, ⟨q, c, rfl, h1, hb⟩, h2⟩
    obtain ⟨f, hf⟩ := choose_lt hex
    refine ⟨(List.range len).map V, (List.range len).map f, by simp, by simp, fun h0 => ?_, fun k hk => ?_, hl, by omega, fun k => ?_⟩
    · obtain ⟨hlt, ha⟩ := add_zero_spot (hf 0 h0).1
      refine ⟨a.block, a.off, hlt, by rw [← ha], fun j hj => ?_⟩
      rw [List.length_map, List.length_range] at hj
      have := (hf j hj).1
      rw [ha, add_plain] at this
      rw [this]
      simp [hj]
    · have := (hf k hk).2.1
      simpa [List.getD, hk] using this
    · by_cases hk : k < len
      · have e : ((List.range len).map f).getD k [] = f k := by simp [List.getD, hk]
        rw [e]; exact (hf k hk).2.2
      · have e : ((List.range len).map f).getD k [] = [] := by simp [List.getD, List.getElem?_eq_none (show ((List.range len).map f).length ≤ k by simp; omega)]
        rw [e]; exact Nat.zero_le _
set_option maxRecDepth 100000 in
theorem cache_of_cells {fuel : Nat} {cs : List Value} {x : DataW H × List MemPlace} (h : DataW.trod enc Try.prog w base spare held fuel 24 cs = some x) :
    ∃ p n c xs, ∃ C : Ch, cs = [.int .i64 C.sets, .int .i64 C.ways, .int .i64 C.clock, .slice p n c] ∧ CcX w p n c xs C := by
  obtain ⟨xs, n, _, _, hlen, hxl, hf⟩ := DataW.trod_struct Try.underlying24 h
  rw [cells_cache] at hlen
  match cs, hlen with
  | [v0, v1, v2, v3], _ =>
    match xs, hxl with
    | [y0, y1, y2, y3], _ =>
      have e0 : DataW.trod enc Try.prog w base spare held n 3 [v0] = some y0 := by simpa [cells_rows, cells_int] using hf 0 _ rfl
      have e1 : DataW.trod enc Try.prog w base spare held n 3 [v1] = some y1 := by simpa [cells_rows, cells_int] using hf 1 _ rfl
      have e2 : DataW.trod enc Try.prog w base spare held n 3 [v2] = some y2 := by simpa [cells_rows, cells_int] using hf 2 _ rfl
      have e3 : DataW.trod enc Try.prog w base spare held n 22 [v3] = some y3 := by simpa [cells_rows, cells_int] using hf 3 _ rfl
      have hform : ∃ q k c, v3 = .slice q k c := by
        rcases open_slice Try.underlying22 e3 with ⟨hcs, _⟩ | ⟨a', l', c', _, _, _, _, hcs, _⟩
        · exact ⟨none, 0, 0, by simpa using hcs⟩
        · exact ⟨some a', l', c', by simpa using hcs⟩
      obtain ⟨q, k, c, rfl⟩ := hform
      obtain ⟨x0, q0, _, _⟩ := DataW.trod_int Try.underlying3 e0
      obtain ⟨x1, q1, _, _⟩ := DataW.trod_int Try.underlying3 e1
      obtain ⟨x2, q2, _, _⟩ := DataW.trod_int Try.underlying3 e2
      simp at q0 q1 q2
      subst q0 q1 q2
      obtain ⟨zs, L, h1, h2, h3, h4, h5, h6, h7⟩ := rows_of_cells e3
      exact ⟨q, k, c, zs, ⟨x0, x1, x2, L⟩, rfl, h1, h2, h3, h4, h5, h6, h7⟩
end
end Go.Proofs.Ytoddmgaihggkjaa
