/- What an argument that is a list of numbers of 32 bits, or an array of eight, reads as: numbers in cells; no condition. -/
import Derived.Test.YtdebkncjmbhneaaCoreOpen
namespace Go.Proofs.Ytdebkncjmbhneaa
open Go.ChangeShapes Go.WideShapes Go.ChangeAt Go.RowKit Go.Deep

/-- The numbers z 0 .. lie behind p: nothing is asked of p where there are none. -/
def Nums (w : World) (p : Option Addr) (len : Nat) (z : Nat → Int) : Prop :=
  0 < len → ∃ b off, b < w.heap.size ∧ p = some ⟨b, off, none⟩ ∧ ∀ i, i < len → w.cell? ⟨b, off + i, none⟩ = some (.int .u32 (z i))

section
variable {H : Type} {enc : TypeId × Value → H} {w : World} {base : Nat} {spare : Nat → Bool} {held : Bool}

theorem nums_of_cells {fuel : Nat} {p : Option Addr} {len cap : Nat} {x : DataW H × List MemPlace} (h : DataW.trod enc Try.prog w base spare held fuel 34 [.slice p len cap] = some x) :
    ∃ z : Nat → Int, len ≤ maxLen ∧ (∀ i, i < len → 0 ≤ z i ∧ z i ≤ 4294967295) ∧ Nums w p len z := by
  rcases open_slice Try.underlying34 h with ⟨hcs, _⟩ | ⟨a, len', cap', m, n, D, Pl, hcs, _, hl, hm, hmm, _, hi⟩
  · simp at hcs
    obtain ⟨rfl, rfl, rfl⟩ := hcs
    exact ⟨fun _ => 0, Nat.zero_le _, fun i h0 => absurd h0 (by simp), fun h0 => absurd h0 (by simp)⟩
  · simp at hcs
    obtain ⟨rfl, rfl, rfl⟩ := hcs
    have hlm : len ≤ m := by rw [hmm]; split <;> omega
    have hex : ∀ i, i < len → ∃ y : Int, w.cell? ((a.add (i * 1)).add 0) = some (.int .u32 y) ∧ 0 ≤ y ∧ y ≤ 4294967295 := fun i hlt => by
      obtain ⟨cs', hc, ht⟩ := hi i (by omega)
      rw [cells_num] at hc
      obtain ⟨y, hy, _, wf⟩ := DataW.trod_int Try.underlying23 ht
      have b := bounds_u32 wf
      have hcell := (World.cells?_some hc).2.2 0 (by omega)
      rw [hy] at hcell
      exact ⟨y, hcell, b.1, b.2⟩
    obtain ⟨f, hf⟩ := choose_lt hex
    refine ⟨f, Nat.le_trans hl hm, fun i hi' => (hf i hi').2, fun h0 => ?_⟩
    have hc0 := (hf 0 h0).1
    have hz : (a.add (0 * 1)).add 0 = a.add 0 := by simp [Addr.add]
    rw [hz] at hc0
    obtain ⟨hlt, ha⟩ := add_zero_spot hc0
    refine ⟨a.block, a.off, hlt, by rw [← ha], fun i hi' => ?_⟩
    have hcell := (hf i hi').1
    rw [ha, add_plain, add_plain] at hcell
    simpa using hcell
end

theorem okWide_array {P : Program} {w : World} {r : Reach} {base : Nat} {t : TypeId} {v : Value} {n : Nat} {e : TypeId} (ht : P.underlying t = some (.array n e)) (h : Value.okWide P w r base t v) : ∃ cs, v = .agg cs := by
  simp only [Value.okWide, ht] at h
  obtain ⟨cs, h1, _⟩ := h
  exact ⟨cs, h1⟩
end Go.Proofs.Ytdebkncjmbhneaa
