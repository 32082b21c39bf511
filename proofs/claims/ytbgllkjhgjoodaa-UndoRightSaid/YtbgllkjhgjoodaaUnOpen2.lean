/- What an argument that is bytes, words, or a log, reads as; no condition. -/
import Derived.Test.YtbgllkjhgjoodaaUnOpen
import Derived.Test.YtbgllkjhgjoodaaUnS
namespace Go.Proofs.Ytbgllkjhgjoodaa
set_option linter.unusedVariables false
open Go.ChangeShapes Go.WideShapes Go.ChangeAt Go.RowKit Go.Deep

theorem cells_undo : Try.prog.cellsOf 51 = 3 := by kernel_rfl
theorem cells_words : Try.prog.cellsOf 22 = 1 := by kernel_rfl
theorem cells_undos : Try.prog.cellsOf 23 = 1 := by kernel_rfl
theorem cells_log : Try.prog.cellsOf 25 = 3 := by kernel_rfl
section
variable {H : Type} {enc : TypeId × Value → H} {w : World} {base : Nat} {spare : Nat → Bool} {held : Bool}

theorem bytes_of_cells {fuel : Nat} {p : Option Addr} {len cap : Nat} {x : DataW H × List MemPlace} (h : DataW.trod enc Try.prog w base spare held fuel 48 [.slice p len cap] = some x) :
    ∃ l : List Nat, l.length = len ∧ len ≤ cap ∧ len ≤ maxLen ∧ Nb w p l := by
  rcases open_slice Try.underlying48 h with ⟨hcs, _⟩ | ⟨a, len', cap', m, n, D, Pl, hcs, _, hl, hm, hmm, _, hi⟩
  · simp at hcs
    obtain ⟨rfl, rfl, rfl⟩ := hcs
    exact ⟨[], rfl, Nat.le_refl _, Nat.zero_le _, ⟨(fun x hx => by cases hx), (fun h0 => absurd h0 (by decide))⟩⟩
  · simp at hcs
    obtain ⟨rfl, rfl, rfl⟩ := hcs
    have hlm : len ≤ m := by rw [hmm]; split <;> omega
    have hex : ∀ i, i < len → ∃ y : Int, w.cell? ((a.add (i * 1)).add 0) = some (.int .u8 y) ∧ 0 ≤ y ∧ y ≤ 255 := fun i hlt => by
      obtain ⟨cs', hc, ht⟩ := hi i (by omega)
      rw [cells_u8] at hc
      obtain ⟨y, hy, _, wf⟩ := DataW.trod_int Try.underlying5 ht
      have b := bounds_u8 wf
      have hcell := (World.cells?_some hc).2.2 0 (by omega)
      rw [hy] at hcell
      exact ⟨y, hcell, b.1, b.2⟩
    obtain ⟨f, hf⟩ := choose_lt hex
    refine ⟨(List.range len).map fun i => (f i).toNat, by simp, hl, Nat.le_trans hl hm, ⟨fun x hx => ?_, fun h0 => ?_⟩⟩
    · obtain ⟨i, hi', rfl⟩ := List.mem_map.1 hx
      have := hf i (List.mem_range.1 hi')
      omega
    · rw [List.length_map, List.length_range] at h0
      have hc0 := (hf 0 h0).1
      have hz : (a.add (0 * 1)).add 0 = a.add 0 := by simp [Addr.add]
      rw [hz] at hc0
      obtain ⟨hlt, ha⟩ := add_zero_spot hc0
      refine ⟨a.block, a.off, hlt, by rw [← ha], fun i hi' => ?_⟩
      rw [List.length_map, List.length_range] at hi'
      have hcell := (hf i hi').1
      rw [ha, add_plain, add_plain] at hcell
      have e : ((List.range len).map fun i => (f i).toNat).getD i 0 = (f i).toNat := by simp [List.getD, hi']
      rw [e, Int.toNat_of_nonneg (hf i hi').2.1]
      simpa using hcell

theorem words_of_cells {fuel : Nat} {p : Option Addr} {len cap : Nat} {x : DataW H × List MemPlace} (h : DataW.trod enc Try.prog w base spare held fuel 22 [.slice p len cap] = some x) :
    ∃ l : List Int, l.length = len ∧ len ≤ cap ∧ len ≤ maxLen ∧ Sl w p len (wdC l) := by
  rcases open_slice Try.underlying22 h with ⟨hcs, _⟩ | ⟨a, len', cap', m, n, D, Pl, hcs, _, hl, hm, hmm, _, hi⟩
  · simp at hcs
    obtain ⟨rfl, rfl, rfl⟩ := hcs
    exact ⟨[], rfl, Nat.le_refl _, Nat.zero_le _, fun h0 => absurd h0 (Nat.lt_irrefl 0)⟩
  · simp at hcs
    obtain ⟨rfl, rfl, rfl⟩ := hcs
    have hlm : len ≤ m := by rw [hmm]; split <;> omega
    have hex : ∀ i, i < len → ∃ y : Int, w.cell? ((a.add (i * 1)).add 0) = some (.int .u32 y) := fun i hlt => by
      obtain ⟨cs', hc, ht⟩ := hi i (by omega)
      rw [cells_u32] at hc
      obtain ⟨y, hy, _, wf⟩ := DataW.trod_int Try.underlying26 ht
      have hcell := (World.cells?_some hc).2.2 0 (by omega)
      rw [hy] at hcell
      exact ⟨y, hcell⟩
    obtain ⟨f, hf⟩ := choose_lt hex
    refine ⟨(List.range len).map f, by simp, hl, Nat.le_trans hl hm, fun h0 => ?_⟩
    have hc0 := hf 0 h0
    have hz : (a.add (0 * 1)).add 0 = a.add 0 := by simp [Addr.add]
    rw [hz] at hc0
    obtain ⟨hlt, ha⟩ := add_zero_spot hc0
    refine ⟨a.block, a.off, hlt, by rw [← ha], fun i hi' => ?_⟩
    rw [wdC_len, List.length_map, List.length_range] at hi'
    have hcell := hf i hi'
    rw [ha, add_plain, add_plain] at hcell
    rw [wdC_at _ _ (by simpa using hi')]
    have e : ((List.range len).map f).getD i 0 = f i := by simp [List.getD, hi']
    rw [e]
    simpa using hcell
set_option maxRecDepth 100000 in
theorem undo_of_cells {fuel : Nat} {cs : List Value} {x : DataW H × List MemPlace} (h : DataW.trod enc Try.prog w base spare held fuel 51 cs = some x) :
    ∃ y : Un, cs = (unR y).toList := by
  obtain ⟨xs, n, _, _, hlen, hxl, hf⟩ := DataW.trod_struct Try.underlying51 h
  rw [cells_undo] at hlen
  match cs, hlen with
  | [v0, v1, v2], _ =>
    match xs, hxl with
    | [y0, y1, y2], _ =>
      have e0 : DataW.trod enc Try.prog w base spare held n 3 [v0] = some y0 := by simpa [cells_int, cells_u32] using hf 0 _ rfl
      have e1 : DataW.trod enc Try.prog w base spare held n 3 [v1] = some y1 := by simpa [cells_int, cells_u32] using hf 1 _ rfl
      have e2 : DataW.trod enc Try.prog w base spare held n 26 [v2] = some y2 := by simpa [cells_int, cells_u32] using hf 2 _ rfl
      obtain ⟨x0, q0, _, _⟩ := DataW.trod_int Try.underlying3 e0
      obtain ⟨x1, q1, _, _⟩ := DataW.trod_int Try.underlying3 e1
      obtain ⟨x2, q2, _, _⟩ := DataW.trod_int Try.underlying26 e2
      simp at q0 q1 q2
      subst q0 q1 q2
      exact ⟨⟨x0, x1, x2⟩, rfl⟩
theorem undos_of_cells {fuel : Nat} {p : Option Addr} {len cap : Nat} {x : DataW H × List MemPlace} (h : DataW.trod enc Try.prog w base spare held fuel 23 [.slice p len cap] = some x) :
    ∃ l : List Un, l.length = len ∧ len ≤ cap ∧ len ≤ maxLen ∧ Sl w p len (unC l) := by
  rcases open_slice Try.underlying23 h with ⟨hcs, _⟩ | ⟨a, len', cap', m, n, D, Pl, hcs, _, hl, hm, hmm, _, hi⟩
  · simp at hcs
    obtain ⟨rfl, rfl, rfl⟩ := hcs
    exact ⟨[], rfl, Nat.le_refl _, Nat.zero_le _, fun h0 => absurd h0 (Nat.lt_irrefl 0)⟩
  · simp at hcs
    obtain ⟨rfl, rfl, rfl⟩ := hcs
    have hlm : len ≤ m := by rw [hmm]; split <;> omega
    have hex : ∀ i, i < len → ∃ y : Un, (∀ j, j < 3 → w.cell? ((a.add (i * 3)).add j) = (unR y).toList[j]?) := fun i hlt => by
      obtain ⟨cs', hc, ht⟩ := hi i (by omega)
      rw [cells_undo] at hc
      obtain ⟨y, rfl⟩ := undo_of_cells ht
      exact ⟨y, (World.cells?_some hc).2.2⟩
    have : Inhabited Un := ⟨zU⟩
    obtain ⟨f, hf⟩ := choose_lt hex
    refine ⟨(List.range len).map f, by simp, hl, Nat.le_trans hl hm, fun h0 => ?_⟩
    have hc0 := (hf 0 h0) 0 (by omega)
    have hz : (a.add (0 * 3)).add 0 = a.add 0 := by simp [Addr.add]
    rw [hz] at hc0
    obtain ⟨hlt, ha⟩ := add_zero_spot (v := .int .i64 (f 0).span) (by rw [hc0]; rfl)
    refine ⟨a.block, a.off, hlt, by rw [← ha], fun j hj => ?_⟩
    rw [unC_len, List.length_map, List.length_range] at hj
    have hk : j / 3 < len := by omega
    have hcell := hf (j / 3) hk (j % 3) (Nat.mod_lt _ (by decide))
    rw [ha, add_plain, add_plain] at hcell
    rw [show a.off + j / 3 * 3 + j % 3 = a.off + j by omega] at hcell
    have hu := unC_at ((List.range len).map f) (j / 3) (j % 3) (by simpa using hk) (Nat.mod_lt _ (by decide))
    rw [show j / 3 * 3 + j % 3 = j by omega] at hu
    have e : ((List.range len).map f).getD (j / 3) zU = f (j / 3) := by simp [List.getD, hk]
    rw [hu, e]
    exact hcell.trans Array.getElem?_toList
set_option maxRecDepth 100000 in
theorem log_of_cells {fuel : Nat} {cs : List Value} {x : DataW H × List MemPlace} (h : DataW.trod enc Try.prog w base spare held fuel 25 cs = some x) :
    ∃ p m c q n d, ∃ L : Lg, cs = [.slice p m c, .int .i64 L.span, .slice q n d] ∧ LcX w p m c q n d L := by
  obtain ⟨xs, n, _, _, hlen, hxl, hf⟩ := DataW.trod_struct Try.underlying25 h
  rw [cells_log] at hlen
  match cs, hlen with
  | [v0, v1, v2], _ =>
    match xs, hxl with
    | [y0, y1, y2], _ =>
      have e0 : DataW.trod enc Try.prog w base spare held n 22 [v0] = some y0 := by simpa [cells_int, cells_words, cells_undos] using hf 0 _ rfl
      have e1 : DataW.trod enc Try.prog w base spare held n 3 [v1] = some y1 := by simpa [cells_int, cells_words, cells_undos] using hf 1 _ rfl
      have e2 : DataW.trod enc Try.prog w base spare held n 23 [v2] = some y2 := by simpa [cells_int, cells_words, cells_undos] using hf 2 _ rfl
      have f0 : ∃ q k c, v0 = .slice q k c := by
        rcases open_slice Try.underlying22 e0 with ⟨hcs, _⟩ | ⟨a', l', c', _, _, _, _, hcs, _⟩
        · exact ⟨none, 0, 0, by simpa using hcs⟩
        · exact ⟨some a', l', c', by simpa using hcs⟩
      have f2 : ∃ q k c, v2 = .slice q k c := by
        rcases open_slice Try.underlying23 e2 with ⟨hcs, _⟩ | ⟨a', l', c', _, _, _, _, hcs, _⟩
        · exact ⟨none, 0, 0, by simpa using hcs⟩
        · exact ⟨some a', l', c', by simpa using hcs⟩
      obtain ⟨p, m, c, rfl⟩ := f0
      obtain ⟨q, k, d, rfl⟩ := f2
      obtain ⟨x1, q1, _, _⟩ := DataW.trod_int Try.underlying3 e1
      simp at q1
      subst q1
      obtain ⟨A, h1, h2, h3, h4⟩ := words_of_cells e0
      obtain ⟨B, g1, g2, g3, g4⟩ := undos_of_cells e2
      exact ⟨p, m, c, q, k, d, ⟨A, x1, B⟩, rfl, h1, g1, h4, g4, h2, g2, h3, g3⟩
end
end Go.Proofs.Ytbgllkjhgjoodaa
