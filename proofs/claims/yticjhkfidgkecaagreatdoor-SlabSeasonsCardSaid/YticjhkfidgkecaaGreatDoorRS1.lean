/- SlabSeasons: the row and its tied card. -/
import Derived.Test.YticjhkfidgkecaaGreatDoorRS0
import Derived.Test.YticjhkfidgkecaaGreatDoorOpen
import Derived.Test.YticjhkfidgkecaaGreatDoorTie
import Derived.Test.YticjhkfidgkecaaGreatDoorCards
import Derived.Test.YticjhkfidgkecaaGreatDoorChecked
import Derived.Lay
import Derived.LaidOnce
import Derived.SevenTiedAt
namespace Go.Proofs.YticjhkfidgkecaaGreatDoor.slabSeasons
open Go.ChangeShapes Go.WideShapes Go.ChangeAt Go.RowKit
set_option linter.unusedVariables false

set_option maxRecDepth 100000 in
theorem pre_eq (H : Type) (enc : TypeId × Value → H) : Rows.slabSeasonsRow.pre enc Tryz.pinned.checked.prog Tryz.f13 (OpenSpec.ofChange Rows.slabSeasonsSpec) = (fun w args => (Rows.slabSeasonsSpec.pre enc Tryz.prog Tryz.f13 [] false w args ∧ laidMetH Tryz.prog laidL w) ∧ sizedMet enc Tryz.prog Tryz.f13 (OpenSpec.ofChange Rows.slabSeasonsSpec) false w args) := rfl
theorem inst : (Tryz.f13).isInstance Tryz.pinned.checked.prog Rows.slabSeasonsRow.origin Rows.slabSeasonsRow.targs := of_decide_eq_true (by kernel_rfl)
theorem post_eq (os : Os) (started : os.Started) (H : Type) (enc : TypeId × Value → H) : ReturnsInHanded Rows.slabSeasonsRow.assume Tryz.pinned.checked os 13 .any (Rows.slabSeasonsRow.pre enc Tryz.pinned.checked.prog Tryz.f13 (OpenSpec.ofChange Rows.slabSeasonsSpec)) (Rows.slabSeasonsSpec.post enc Tryz.pinned.checked.prog Tryz.f13 Rows.slabSeasonsRow.apart Rows.slabSeasonsRow.fresh Rows.slabSeasonsRow.handsOn Rows.slabSeasonsRow.again) := by
  rw [pre_eq]
  exact lifted os started H enc
end Go.Proofs.YticjhkfidgkecaaGreatDoor.slabSeasons
