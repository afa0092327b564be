/- SlabOvens: the row and its tied card. -/
import Derived.Test.YticjhkfidgkecaaGreatDoorRO0
import Derived.Test.YticjhkfidgkecaaGreatDoorOpen
import Derived.Test.YticjhkfidgkecaaGreatDoorTie
import Derived.Test.YticjhkfidgkecaaGreatDoorCards
import Derived.Test.YticjhkfidgkecaaGreatDoorChecked
import Derived.Lay
import Derived.LaidOnce
import Derived.SevenTiedAt
namespace Go.Proofs.YticjhkfidgkecaaGreatDoor.slabOvens
open Go.ChangeShapes Go.WideShapes Go.ChangeAt Go.RowKit
set_option linter.unusedVariables false

set_option maxRecDepth 100000 in
theorem pre_eq (H : Type) (enc : TypeId × Value → H) : Rows.slabOvensRow.pre enc Tryz.pinned.checked.prog Tryz.f14 (OpenSpec.ofChange Rows.slabOvensSpec) = (fun w args => (Rows.slabOvensSpec.pre enc Tryz.prog Tryz.f14 [] false w args ∧ laidMetH Tryz.prog laidL w) ∧ sizedMet enc Tryz.prog Tryz.f14 (OpenSpec.ofChange Rows.slabOvensSpec) false w args) := rfl
theorem inst : (Tryz.f14).isInstance Tryz.pinned.checked.prog Rows.slabOvensRow.origin Rows.slabOvensRow.targs := of_decide_eq_true (by kernel_rfl)
theorem post_eq (os : Os) (started : os.Started) (H : Type) (enc : TypeId × Value → H) : ReturnsInHanded Rows.slabOvensRow.assume Tryz.pinned.checked os 14 .any (Rows.slabOvensRow.pre enc Tryz.pinned.checked.prog Tryz.f14 (OpenSpec.ofChange Rows.slabOvensSpec)) (Rows.slabOvensSpec.post enc Tryz.pinned.checked.prog Tryz.f14 Rows.slabOvensRow.apart Rows.slabOvensRow.fresh Rows.slabOvensRow.handsOn Rows.slabOvensRow.again) := by
  rw [pre_eq]
  exact lifted os started H enc
end Go.Proofs.YticjhkfidgkecaaGreatDoor.slabOvens
