/- What the reference's May answers, for every instruction and however many: what isa.May answers; it writes nothing that was there. -/
import Derived.Test.YtdebkncjmbhneaaIsaRefMayA
import Derived.Test.YtdebkncjmbhneaaIsaRefMayB
import Derived.Test.YtdebkncjmbhneaaIsaRefMayC
import Derived.Test.YtdebkncjmbhneaaIsaRefMayD
namespace Go.Proofs.Ytdebkncjmbhneaa
open Go.ChangeShapes Go.WideShapes Go.ChangeAt Go.RowKit

theorem mayR_any (x : I5) (n : Int) (w : World) (hk0 : 0 ≤ x.k) (hk1 : x.k ≤ 4294967295) :
    Calls Try.prog 22 #[.agg x.row, .int .i64 n] w fun e w' => e = .returned (.bool (mayB x n)) ∧ Below w.heap.size w w' := by
  obtain ⟨op, a, b, c, k⟩ := x
  rcases op_cases op with rfl | rfl | rfl | rfl | rfl | rfl | rfl | rfl | rfl | rfl | rfl | rfl | rfl | rfl | rfl | rfl | h
  · exact mayR_1 a b c k n w hk0 hk1
  · exact mayR_2 a b c k n w hk0 hk1
  · exact mayR_3 a b c k n w hk0 hk1
  · exact mayR_4 a b c k n w hk0 hk1
  · exact mayR_5 a b c k n w hk0 hk1
  · exact mayR_6 a b c k n w hk0 hk1
  · exact mayR_7 a b c k n w hk0 hk1
  · exact mayR_8 a b c k n w hk0 hk1
  · exact mayR_9 a b c k n w hk0 hk1
  · exact mayR_10 a b c k n w hk0 hk1
  · exact mayR_11 a b c k n w hk0 hk1
  · exact mayR_12 a b c k n w hk0 hk1
  · exact mayR_13 a b c k n w hk0 hk1
  · exact mayR_14 a b c k n w hk0 hk1
  · exact mayR_15 a b c k n w hk0 hk1
  · exact mayR_16 a b c k n w hk0 hk1
  · exact mayR_out op a b c k n w h
end Go.Proofs.Ytdebkncjmbhneaa
