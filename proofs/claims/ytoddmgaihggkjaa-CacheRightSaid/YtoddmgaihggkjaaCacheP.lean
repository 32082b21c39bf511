/- The program's own contracts, together; no condition. -/
import Derived.Test.YtoddmgaihggkjaaCachePu
import Derived.Test.YtoddmgaihggkjaaCacheQ
namespace Go.Proofs.Ytoddmgaihggkjaa
theorem clockTop_eq : clockTop = 1099511627776 := rfl
end Go.Proofs.Ytoddmgaihggkjaa
