/- What an argument that is a gate, something told, or things to be done, reads as; no condition. -/
import Derived.Test.YteffmidpinlpjaaCmL
import Derived.OpenShut
import Derived.ProofKit
import Derived.Deep.Slices
namespace Go.Proofs.Yteffmidpinlpjaa
set_option linter.unusedVariables false
set_option linter.unusedSimpArgs false
open Go.ChangeShapes Go.WideShapes Go.ChangeAt Go.RowKit Go.Deep

theorem cells_u8 : Try.prog.cellsOf 5 = 1 := by kernel_rfl
theorem cells_int : Try.prog.cellsOf 3 = 1 := by kernel_rfl
theorem cells_num : Try.prog.cellsOf 26 = 1 := by kernel_rfl
theorem cells_told : Try.prog.cellsOf 28 = 2 := by kernel_rfl
theorem cells_held : Try.prog.cellsOf 52 = 3 := by kernel_rfl
theorem cells_helds : Try.prog.cellsOf 22 = 1 := by kernel_rfl
theorem cells_tolds : Try.prog.cellsOf 23 = 1 := by kernel_rfl
theorem cells_gate : Try.prog.cellsOf 25 = 2 := by kernel_rfl
theorem cells_do : Try.prog.cellsOf 45 = 4 := by kernel_rfl
/-- A thing to be done. -/
structure Dt where
  kind : Nat
  to_ : Nat
  td : Td
def dt0 : Dt := ⟨0, 0, zT⟩
def Dt.row (x : Dt) : Array Value := #[.int .u8 x.kind, .int .u8 x.to_, .int .i64 x.td.core, .int .u32 x.td.val]
def Dt.Fits (x : Dt) : Prop := x.kind < 256 ∧ x.to_ < 256
def dtL (x : Dt) : List Value := x.row.toList
def dtC (l : List Dt) : List Value := l.flatMap dtL
theorem dtL_len (x : Dt) : (dtL x).length = 4 := rfl
theorem dtC_len (l : List Dt) : (dtC l).length = l.length * 4 := flat_len dtL 4 dtL_len l
theorem dtC_at (l : List Dt) (i j : Nat) (hi : i < l.length) (hj : j < 4) : (dtC l)[i * 4 + j]? = (l.getD i dt0).row[j]? := by
  have h := flat_at dtL 4 dtL_len dt0 l i j hi hj
  rw [dtC, h]
  show (l.getD i dt0).row.toList[j]? = _
  simp
section
variable {H : Type} {enc : TypeId × Value → H} {w : World} {base : Nat} {spare : Nat → Bool} {held : Bool}

theorem add_zero_spot {a : Addr} {v : Value} (h : w.cell? (a.add 0) = some v) : a.block < w.heap.size ∧ a = ⟨a.block, a.off, none⟩ := by
  have hs : a.spot = none := by simpa [Addr.add] using World.cell?_spot h
  obtain ⟨b, o, s⟩ := a
  simp only at hs
  subst hs
  refine ⟨?_, rfl⟩
  have h0 : w.cell? ⟨b, o, none⟩ = some v := by simpa [Addr.add] using h
  by_cases hb : b < w.heap.size
  · exact hb
  · simp [World.cell?, Array.getElem?_eq_none (show w.heap.size ≤ b by omega)] at h0
theorem add_plain (b o k : Nat) : (⟨b, o, none⟩ : Addr).add k = ⟨b, o + k, none⟩ := by unfold Addr.add; split <;> simp_all

set_option maxRecDepth 100000 in
theorem told_of_cells {fuel : Nat} {cs : List Value} {x : DataW H × List MemPlace} (h : DataW.trod enc Try.prog w base spare held fuel 28 cs = some x) : ∃ y : Td, cs = tdL y := by
  obtain ⟨xs, n, _, _, hlen, hxl, hf⟩ := DataW.trod_struct Try.underlying28 h
  rw [cells_told] at hlen
  match cs, hlen with
  | [v0, v1], _ =>
    match xs, hxl with
    | [y0, y1], _ =>
      have e0 : DataW.trod enc Try.prog w base spare held n 3 [v0] = some y0 := by simpa [cells_int, cells_num] using hf 0 _ rfl
      have e1 : DataW.trod enc Try.prog w base spare held n 26 [v1] = some y1 := by simpa [cells_int, cells_num] using hf 1 _ rfl
      obtain ⟨x0, q0, _, _⟩ := DataW.trod_int Try.underlying3 e0
      obtain ⟨x1, q1, _, _⟩ := DataW.trod_int Try.underlying26 e1
      simp at q0 q1
      subst q0 q1
      exact ⟨⟨x0, x1⟩, rfl⟩
set_option maxRecDepth 100000 in
theorem held_of_cells {fuel : Nat} {cs : List Value} {x : DataW H × List MemPlace} (h : DataW.trod enc Try.prog w base spare held fuel 52 cs = some x) : ∃ y : Hd, cs = hdL y := by
  obtain ⟨xs, n, _, _, hlen, hxl, hf⟩ := DataW.trod_struct Try.underlying52 h
  rw [cells_held] at hlen
  match cs, hlen with
  | [v0, v1, v2], _ =>
    match xs, hxl with
    | [y0, y1], _ =>
      have e0 : DataW.trod enc Try.prog w base spare held n 28 [v0, v1] = some y0 := by simpa [cells_int, cells_told] using hf 0 _ rfl
      have e1 : DataW.trod enc Try.prog w base spare held n 3 [v2] = some y1 := by simpa [cells_int, cells_told] using hf 1 _ rfl
      obtain ⟨t, ht⟩ := told_of_cells e0
      obtain ⟨x1, q1, _, _⟩ := DataW.trod_int Try.underlying3 e1
      simp at q1
      subst q1
      have hq : [v0, v1] = [Value.int .i64 t.core, .int .u32 t.val] := ht
      injection hq with h1 h2
      injection h2 with h2 _
      subst h1 h2
      exact ⟨⟨t, x1⟩, rfl⟩
set_option maxRecDepth 100000 in
theorem do_of_cells {fuel : Nat} {cs : List Value} {x : DataW H × List MemPlace} (h : DataW.trod enc Try.prog w base spare held fuel 45 cs = some x) : ∃ y : Dt, cs = dtL y ∧ y.Fits := by
  obtain ⟨xs, n, _, _, hlen, hxl, hf⟩ := DataW.trod_struct Try.underlying45 h
  rw [cells_do] at hlen
  match cs, hlen with
  | [v0, v1, v2, v3], _ =>
    match xs, hxl with
    | [y0, y1, y2], _ =>
      have e0 : DataW.trod enc Try.prog w base spare held n 5 [v0] = some y0 := by simpa [cells_u8, cells_told] using hf 0 _ rfl
      have e1 : DataW.trod enc Try.prog w base spare held n 5 [v1] = some y1 := by simpa [cells_u8, cells_told] using hf 1 _ rfl
      have e2 : DataW.trod enc Try.prog w base spare held n 28 [v2, v3] = some y2 := by simpa [cells_u8, cells_told] using hf 2 _ rfl
      obtain ⟨x0, q0, _, wf0⟩ := DataW.trod_int Try.underlying5 e0
      obtain ⟨x1, q1, _, wf1⟩ := DataW.trod_int Try.underlying5 e1
      have b0 := bounds_u8 wf0
      have b1 := bounds_u8 wf1
      simp at q0 q1
      subst q0 q1
      obtain ⟨n0, rfl⟩ := Int.eq_ofNat_of_zero_le b0.1
      obtain ⟨n1, rfl⟩ := Int.eq_ofNat_of_zero_le b1.1
      obtain ⟨t, ht⟩ := told_of_cells e2
      have hq : [v2, v3] = [Value.int .i64 t.core, .int .u32 t.val] := ht
      injection hq with h1 h2
      injection h2 with h2 _
      subst h1 h2
      exact ⟨⟨n0, n1, t⟩, rfl, by show n0 < 256; omega, by show n1 < 256; omega⟩
theorem tolds_of_cells {fuel : Nat} {p : Option Addr} {len cap : Nat} {x : DataW H × List MemPlace} (h : DataW.trod enc Try.prog w base spare held fuel 23 [.slice p len cap] = some x) :
    ∃ l : List Td, l.length = len ∧ len ≤ cap ∧ len ≤ maxLen ∧ Sl w p len (tdC l) := by
  rcases open_slice Try.underlying23 h with ⟨hcs, _⟩ | ⟨a, len', cap', m, n, D, Pl, hcs, _, hl, hm, hmm, _, hi⟩
  · simp at hcs
    obtain ⟨rfl, rfl, rfl⟩ := hcs
    exact ⟨[], rfl, Nat.le_refl _, Nat.zero_le _, fun h0 => absurd h0 (Nat.lt_irrefl 0)⟩
  · simp at hcs
    obtain ⟨rfl, rfl, rfl⟩ := hcs
    have hlm : len ≤ m := by rw [hmm]; split <;> omega
    have hex : ∀ i, i < len → ∃ y : Td, (∀ j, j < 2 → w.cell? ((a.add (i * 2)).add j) = (tdL y)[j]?) := fun i hlt => by
      obtain ⟨cs', hc, ht⟩ := hi i (by omega)
      rw [cells_told] at hc
      obtain ⟨y, rfl⟩ := told_of_cells ht
      exact ⟨y, (World.cells?_some hc).2.2⟩
    have : Inhabited Td := ⟨zT⟩
    obtain ⟨f, hf⟩ := choose_lt hex
    refine ⟨(List.range len).map f, by simp, hl, Nat.le_trans hl hm, fun h0 => ?_⟩
    have hc0 := (hf 0 h0) 0 (by omega)
    have hz : (a.add (0 * 2)).add 0 = a.add 0 := by simp [Addr.add]
    rw [hz] at hc0
    obtain ⟨hlt, ha⟩ := add_zero_spot (v := .int .i64 (f 0).core) (by rw [hc0]; rfl)
    refine ⟨a.block, a.off, hlt, by rw [← ha], fun j hj => ?_⟩
    rw [tdC_len, List.length_map, List.length_range] at hj
    have hk : j / 2 < len := by omega
    have hcell := (hf (j / 2) hk) (j % 2) (Nat.mod_lt _ (by decide))
    rw [ha, add_plain, add_plain] at hcell
    rw [show a.off + j / 2 * 2 + j % 2 = a.off + j by omega] at hcell
    have hu := tdC_at ((List.range len).map f) (j / 2) (j % 2) (by simpa using hk) (Nat.mod_lt _ (by decide))
    rw [show j / 2 * 2 + j % 2 = j by omega] at hu
    have e : ((List.range len).map f).getD (j / 2) zT = f (j / 2) := by simp [List.getD, hk]
    rw [hu, e]
    exact hcell.trans Array.getElem?_toList
theorem helds_of_cells {fuel : Nat} {p : Option Addr} {len cap : Nat} {x : DataW H × List MemPlace} (h : DataW.trod enc Try.prog w base spare held fuel 22 [.slice p len cap] = some x) :
    ∃ l : List Hd, l.length = len ∧ len ≤ cap ∧ len ≤ maxLen ∧ Sl w p len (hdC l) := by
  rcases open_slice Try.underlying22 h with ⟨hcs, _⟩ | ⟨a, len', cap', m, n, D, Pl, hcs, _, hl, hm, hmm, _, hi⟩
  · simp at hcs
    obtain ⟨rfl, rfl, rfl⟩ := hcs
    exact ⟨[], rfl, Nat.le_refl _, Nat.zero_le _, fun h0 => absurd h0 (Nat.lt_irrefl 0)⟩
  · simp at hcs
    obtain ⟨rfl, rfl, rfl⟩ := hcs
    have hlm : len ≤ m := by rw [hmm]; split <;> omega
    have hex : ∀ i, i < len → ∃ y : Hd, (∀ j, j < 3 → w.cell? ((a.add (i * 3)).add j) = (hdL y)[j]?) := fun i hlt => by
      obtain ⟨cs', hc, ht⟩ := hi i (by omega)
      rw [cells_held] at hc
      obtain ⟨y, rfl⟩ := held_of_cells ht
      exact ⟨y, (World.cells?_some hc).2.2⟩
    have : Inhabited Hd := ⟨zH⟩
    obtain ⟨f, hf⟩ := choose_lt hex
    refine ⟨(List.range len).map f, by simp, hl, Nat.le_trans hl hm, fun h0 => ?_⟩
    have hc0 := (hf 0 h0) 0 (by omega)
    have hz : (a.add (0 * 3)).add 0 = a.add 0 := by simp [Addr.add]
    rw [hz] at hc0
    obtain ⟨hlt, ha⟩ := add_zero_spot (v := .int .i64 (f 0).td.core) (by rw [hc0]; rfl)
    refine ⟨a.block, a.off, hlt, by rw [← ha], fun j hj => ?_⟩
    rw [hdC_len, List.length_map, List.length_range] at hj
    have hk : j / 3 < len := by omega
    have hcell := (hf (j / 3) hk) (j % 3) (Nat.mod_lt _ (by decide))
    rw [ha, add_plain, add_plain] at hcell
    rw [show a.off + j / 3 * 3 + j % 3 = a.off + j by omega] at hcell
    have hu := hdC_at ((List.range len).map f) (j / 3) (j % 3) (by simpa using hk) (Nat.mod_lt _ (by decide))
    rw [show j / 3 * 3 + j % 3 = j by omega] at hu
    have e : ((List.range len).map f).getD (j / 3) zH = f (j / 3) := by simp [List.getD, hk]
    rw [hu, e]
    exact hcell.trans Array.getElem?_toList
theorem dos_of_cells {fuel : Nat} {p : Option Addr} {len cap : Nat} {x : DataW H × List MemPlace} (h : DataW.trod enc Try.prog w base spare held fuel 42 [.slice p len cap] = some x) :
    ∃ l : List Dt, l.length = len ∧ len ≤ cap ∧ len ≤ maxLen ∧ Sl w p len (dtC l) ∧ ∀ y ∈ l, y.Fits := by
  rcases open_slice Try.underlying42 h with ⟨hcs, _⟩ | ⟨a, len', cap', m, n, D, Pl, hcs, _, hl, hm, hmm, _, hi⟩
  · simp at hcs
    obtain ⟨rfl, rfl, rfl⟩ := hcs
    exact ⟨[], rfl, Nat.le_refl _, Nat.zero_le _, fun h0 => absurd h0 (Nat.lt_irrefl 0), fun m hm => (by cases hm)⟩
  · simp at hcs
    obtain ⟨rfl, rfl, rfl⟩ := hcs
    have hlm : len ≤ m := by rw [hmm]; split <;> omega
    have hex : ∀ i, i < len → ∃ y : Dt, (∀ j, j < 4 → w.cell? ((a.add (i * 4)).add j) = (dtL y)[j]?) ∧ y.Fits := fun i hlt => by
      obtain ⟨cs', hc, ht⟩ := hi i (by omega)
      rw [cells_do] at hc
      obtain ⟨y, rfl, hy0⟩ := do_of_cells ht
      exact ⟨y, (World.cells?_some hc).2.2, hy0⟩
    have : Inhabited Dt := ⟨dt0⟩
    obtain ⟨f, hf⟩ := choose_lt hex
    refine ⟨(List.range len).map f, by simp, hl, Nat.le_trans hl hm, fun h0 => ?_, fun m hm => by obtain ⟨i, hi2, rfl⟩ := List.mem_map.1 hm; exact (hf i (List.mem_range.1 hi2)).2⟩
    have hc0 := (hf 0 h0).1 0 (by omega)
    have hz : (a.add (0 * 4)).add 0 = a.add 0 := by simp [Addr.add]
    rw [hz] at hc0
    obtain ⟨hlt, ha⟩ := add_zero_spot (v := .int .u8 (f 0).kind) (by rw [hc0]; rfl)
    refine ⟨a.block, a.off, hlt, by rw [← ha], fun j hj => ?_⟩
    rw [dtC_len, List.length_map, List.length_range] at hj
    have hk : j / 4 < len := by omega
    have hcell := (hf (j / 4) hk).1 (j % 4) (Nat.mod_lt _ (by decide))
    rw [ha, add_plain, add_plain] at hcell
    rw [show a.off + j / 4 * 4 + j % 4 = a.off + j by omega] at hcell
    have hu := dtC_at ((List.range len).map f) (j / 4) (j % 4) (by simpa using hk) (Nat.mod_lt _ (by decide))
    rw [show j / 4 * 4 + j % 4 = j by omega] at hu
    have e : ((List.range len).map f).getD (j / 4) dt0 = f (j / 4) := by simp [List.getD, hk]
    rw [hu, e]
    exact hcell.trans Array.getElem?_toList
set_option maxRecDepth 100000 in
theorem gate_of_cells {fuel : Nat} {cs : List Value} {x : DataW H × List MemPlace} (h : DataW.trod enc Try.prog w base spare held fuel 25 cs = some x) :
    ∃ p m c q n d, ∃ L : Gt, cs = [.slice p m c, .slice q n d] ∧ LcX w p m c q n d L := by
  obtain ⟨xs, n, _, _, hlen, hxl, hf⟩ := DataW.trod_struct Try.underlying25 h
  rw [cells_gate] at hlen
  match cs, hlen with
  | [v0, v1], _ =>
    match xs, hxl with
    | [y0, y1], _ =>
      have e0 : DataW.trod enc Try.prog w base spare held n 22 [v0] = some y0 := by simpa [cells_helds, cells_tolds] using hf 0 _ rfl
      have e1 : DataW.trod enc Try.prog w base spare held n 23 [v1] = some y1 := by simpa [cells_helds, cells_tolds] using hf 1 _ rfl
      have f0 : ∃ q k c, v0 = .slice q k c := by
        rcases open_slice Try.underlying22 e0 with ⟨hcs, _⟩ | ⟨a', l', c', _, _, _, _, hcs, _⟩
        · exact ⟨none, 0, 0, by simpa using hcs⟩
        · exact ⟨some a', l', c', by simpa using hcs⟩
      have f1 : ∃ q k c, v1 = .slice q k c := by
        rcases open_slice Try.underlying23 e1 with ⟨hcs, _⟩ | ⟨a', l', c', _, _, _, _, hcs, _⟩
        · exact ⟨none, 0, 0, by simpa using hcs⟩
        · exact ⟨some a', l', c', by simpa using hcs⟩
      obtain ⟨p, m, c, rfl⟩ := f0
      obtain ⟨q, k, d, rfl⟩ := f1
      obtain ⟨A, a1, a2, _, a3⟩ := helds_of_cells e0
      obtain ⟨B, b1, b2, _, b3⟩ := tolds_of_cells e1
      exact ⟨p, m, c, q, k, d, ⟨A, B⟩, rfl, a1, b1, a3, b3, a2, b2⟩
end
end Go.Proofs.Yteffmidpinlpjaa
