/- What isa.All answers, for every list of programs; it writes nothing that was there. -/
import Derived.Test.YtdebkncjmbhneaaIsaRight
namespace Go.Proofs.Ytdebkncjmbhneaa
open Go.ChangeShapes Go.WideShapes Go.ChangeAt Go.RowKit

/-- The programs ls lie behind p: nothing is asked of p where there are none. -/
def Prgs (w : World) (p : Option Addr) (ls : List (List I5)) : Prop :=
  0 < ls.length → ∃ b off, b < w.heap.size ∧ p = some ⟨b, off, none⟩ ∧ ∀ i, i < ls.length → ∃ q cap, w.cell? ⟨b, off + i, none⟩ = some (.slice q (atP ls i).length cap) ∧ Prg w q (atP ls i)

theorem Prgs.below {w w' : World} {p : Option Addr} {ls : List (List I5)} (h : Prgs w p ls) (hb : Below w.heap.size w w') : Prgs w' p ls := fun h0 => by
  obtain ⟨b, off, h1, h2, h3⟩ := h h0
  refine ⟨b, off, Nat.lt_of_lt_of_le h1 hb.size, h2, fun i hi => ?_⟩
  obtain ⟨q, cap, h4, h5⟩ := h3 i hi
  exact ⟨q, cap, (hb.cell (p := ⟨b, off + i, none⟩) h1).trans h4, h5.below hb⟩

end Go.Proofs.Ytdebkncjmbhneaa
