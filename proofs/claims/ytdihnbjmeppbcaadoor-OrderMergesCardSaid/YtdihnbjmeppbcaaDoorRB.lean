/- What every row of the seat shares: the listed variables, and a world in which they are laid. -/
import Derived.Test.YtdihnbjmeppbcaaDoorOpen
import Derived.Test.YtdihnbjmeppbcaaDoorTie
import Derived.Test.YtdihnbjmeppbcaaDoorCards
import Derived.Test.YtdihnbjmeppbcaaDoorChecked
import Derived.Lay
import Derived.LaidOnce
import Derived.SevenTiedAt
namespace Go.Proofs.YtdihnbjmeppbcaaDoor
open Go.ChangeShapes Go.WideShapes Go.ChangeAt Go.RowKit

/-- the listed variables, with what they hold -/
def laidL : List (String × DataW Unit) := [("unicode/utf8.acceptRanges", Rows.laid_unicode_utf8_acceptRanges), ("unicode/utf8.first", Rows.laid_unicode_utf8_first)]
end Go.Proofs.YtdihnbjmeppbcaaDoor
