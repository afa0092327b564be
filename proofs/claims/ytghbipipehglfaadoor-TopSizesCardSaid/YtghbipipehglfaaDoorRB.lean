/- What every row of the seat shares. -/
import Derived.Test.YtghbipipehglfaaDoorOpenS
import Derived.Test.YtghbipipehglfaaDoorTie
import Derived.Test.YtghbipipehglfaaDoorCards
import Derived.Test.YtghbipipehglfaaDoorChecked
import Derived.SevenTiedAt
namespace Go.Proofs.YtghbipipehglfaaDoor
/-- a world in which the listed variable is laid -/
theorem laidL_one : laidL.length = 1 := rfl
end Go.Proofs.YtghbipipehglfaaDoor
