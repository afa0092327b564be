/- THE ROW OF OutlineWrites: the text of a trace, which is read again. No condition beside the listed variables. -/
import Derived.Test.YthabpgclnbmnpaaGreatDoorRW0
import Derived.Test.YthabpgclnbmnpaaGreatDoorOpenT
import Derived.Test.YthabpgclnbmnpaaGreatDoorOTZ
import Derived.Test.YthabpgclnbmnpaaGreatDoorTie
import Derived.Test.YthabpgclnbmnpaaGreatDoorCards
import Derived.Test.YthabpgclnbmnpaaGreatDoorChecked
import Derived.Lay
import Derived.LaidOnce
import Derived.SevenTiedAt
namespace Go.Proofs.YthabpgclnbmnpaaGreatDoor.outlineWrites
open Go.ChangeShapes Go.WideShapes Go.ChangeAt Go.RowKit
set_option linter.unusedVariables false

set_option maxRecDepth 100000 in
theorem pre_eq (H : Type) (enc : TypeId × Value → H) : Rows.outlineWritesRow.pre enc Tryz.pinned.checked.prog Tryz.f3 (OpenSpec.ofChange Rows.outlineWritesSpec) = (fun w args => (Rows.outlineWritesSpec.pre enc Tryz.prog Tryz.f3 [] false w args ∧ laidMetH Tryz.prog laidL w) ∧ sizedMet enc Tryz.prog Tryz.f3 (OpenSpec.ofChange Rows.outlineWritesSpec) false w args) := rfl
theorem inst : (Tryz.f3).isInstance Tryz.pinned.checked.prog Rows.outlineWritesRow.origin Rows.outlineWritesRow.targs := of_decide_eq_true (by kernel_rfl)
theorem post_eq (os : Os) (started : os.Started) (H : Type) (enc : TypeId × Value → H) : ReturnsInHanded Rows.outlineWritesRow.assume Tryz.pinned.checked os 3 .any (Rows.outlineWritesRow.pre enc Tryz.pinned.checked.prog Tryz.f3 (OpenSpec.ofChange Rows.outlineWritesSpec)) (Rows.outlineWritesSpec.post enc Tryz.pinned.checked.prog Tryz.f3 Rows.outlineWritesRow.apart Rows.outlineWritesRow.fresh Rows.outlineWritesRow.handsOn Rows.outlineWritesRow.again) := by
  rw [pre_eq]
  exact lifted os started H enc
end Go.Proofs.YthabpgclnbmnpaaGreatDoor.outlineWrites
