/- What the walks of WordRight share: bytes that lie behind an address, the string of a row of four bytes, an operation of a region taken first; each holds in whatever world. -/
import Derived.Test.YtjkpcmnpgibmkaaRefDo
import Derived.Deep.RegionWith
import Derived.Laws.BytesArg
namespace Go.Proofs.Ytjkpcmnpgibmkaa.wordRight
open Go.ChangeShapes Go.WideShapes Go.ChangeAt Go.RowKit

/-- Row z of bytes behind p, of length len, as the callees want it. -/
def Bytes1 (w : World) (p : Option Addr) (len : Nat) (zs : List Int) : Prop :=
  zs.length = len ∧ (∀ k, 0 ≤ zs.getD k 0 ∧ zs.getD k 0 ≤ 255) ∧ (0 < len → ∃ b off, b < w.heap.size ∧ p = some ⟨b, off, none⟩ ∧ ∀ k, k < len → w.cell? ⟨b, off + k, none⟩ = some (.int .u8 (zs.getD k 0)))

theorem Bytes1.later {w w' : World} {p : Option Addr} {len : Nat} {zs : List Int} (h : Bytes1 w p len zs) (hb : Below w.heap.size w w') : Bytes1 w' p len zs := by
  refine ⟨h.1, h.2.1, fun hp => ?_⟩
  obtain ⟨b, off, hlt, rfl, hc⟩ := h.2.2 hp
  exact ⟨b, off, Nat.lt_of_lt_of_le hlt hb.size, rfl, fun k hk => by rw [hb.cell (p := ⟨b, off + k, none⟩) hlt]; exact hc k hk⟩

theorem conv_row (z0 z1 z2 z3 : Int) (g : Nat) (w : World) (hg : w.heap[g]? = some (.cells (row4 z0 z1 z2 z3) 5)) :
    (convert 23 9 (.slice (some ⟨g, 0, none⟩) 4 4)).run Try.prog w = .ok (.string (strOfNums [z0, z1, z2, z3])) w := by
  refine run_convert_bytes_arg w 23 5 Try.underlying23 Try.underlying5 g 0 4 4 [z0, z1, z2, z3] rfl ?_ 9 Try.underlying9
  intro k hk
  have hk' : k = 0 ∨ k = 1 ∨ k = 2 ∨ k = 3 := by omega
  rcases hk' with rfl | rfl | rfl | rfl <;> simp [World.cell?, hg, row4]

/-- An operation of a region that yields in whatever world, taken first: its slot written out. -/
theorem take_at {P : Program} {md : Region.Mode} {ops : Array Oper} {Q : Exit → Act → World → Prop} {i d : Nat} {oi : Oper} {v : Value} {fuel : Nat} {listed : Array Bool} {a : Act} {w : World} (hi : ops[i]? = some oi) (hd : oi.dst = some d)
    (hs : Region.noSelect ops = true) (hf : Region.free md ops listed i = true) (hr : (Region.ready md ops listed).contains i = true)
    (hQ : ∀ c a w, Q (.panic c) (a.put (some d) v) w → Q (.panic c) a w) (hy : Yields P ops oi v a)
    (h : wpAny P md ops Q fuel (listed.setIfInBounds i true) (a.put (some d) v) w) : wpAny P md ops Q (fuel + 1) listed a w :=
  wpAny_take hi hs hf hr (by rw [hd]; exact hQ) hy (by rw [hd]; exact h)

end Go.Proofs.Ytjkpcmnpgibmkaa.wordRight
