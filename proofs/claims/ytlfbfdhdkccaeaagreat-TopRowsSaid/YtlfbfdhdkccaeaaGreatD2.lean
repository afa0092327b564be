/- areApart, Apart, Length, of the program and of the document; BarrelApart. -/
import Derived.Test.YtlfbfdhdkccaeaaGreatD1
import Derived.Test.YtlfbfdhdkccaeaaGreatN1
namespace Go.Proofs.YtlfbfdhdkccaeaaGreat
open Go.RowKit Go.Shelf Go.Sort

end Go.Proofs.YtlfbfdhdkccaeaaGreat

