/- What is taken of a frame of which no bit was turned: the message that was sent; no condition. -/
import Derived.Test.YtpmheaeiemnjeaaPoolB5
namespace Go.Proofs.Ytpmheaeiemnjeaa
set_option linter.unusedVariables false
open Go.ChangeShapes Go.WideShapes Go.ChangeAt Go.RowKit
theorem take0_pack {M : List Msg} {Z : List (List Nat)} {z : List Nat} {k C : Nat} {E : Int} {TM : Msg} {TR ER : Array Value} (h : Kept2 M Z) (hk : k < M.length) (hz : z = Z.getD k []) (hC : C = bitsZ z 19) (h0 : C = 0) (hE : E = takeE (mixS M Z) (k : Int)) (hTM : TM = takeM (mixS M Z) (k : Int)) (hTR : TM.row = TR) (hER : (M.getD k m0).row = ER) : E = 0 ∧ TR = ER := by
  subst hz hTR hER
  have hk0 := keep_take0 h hk (hC.symm.trans h0)
  rw [hE, hTM, hk0.1, hk0.2]
  exact ⟨rfl, rfl⟩
theorem take0_nums {E : Int} {C : Nat} (hE : E = 0) (hC : C = 0) : (E != 0) = false ∧ ((C : Int) == 1) = false ∧ ((C : Int) == 0) = true := by
  subst hE hC
  exact ⟨rfl, rfl, rfl⟩
theorem range_blk {w : World} {B : Nat} {cs : Array Value} {l : List Value} (h : Blk w B cs) (e : cs.toList = l) : w.rangeAt B 0 l := fun j v hv => by
  rw [Nat.zero_add, h.c]
  subst e
  simpa using hv
end Go.Proofs.Ytpmheaeiemnjeaa
