/- THE ROW OF OrderFormats: the text of a form, which is read again. No condition beside the listed variables. -/
import Derived.Test.YtbdnocijhbkclaaGreatDoorRF0
import Derived.Test.YtbdnocijhbkclaaGreatDoorOpen
import Derived.Test.YtbdnocijhbkclaaGreatDoorOZ
import Derived.Test.YtbdnocijhbkclaaGreatDoorTie
import Derived.Test.YtbdnocijhbkclaaGreatDoorCards
import Derived.Test.YtbdnocijhbkclaaGreatDoorChecked
import Derived.Lay
import Derived.LaidOnce
import Derived.SevenTiedAt
namespace Go.Proofs.YtbdnocijhbkclaaGreatDoor.orderFormats
open Go.ChangeShapes Go.WideShapes Go.ChangeAt Go.RowKit
set_option linter.unusedVariables false

set_option maxRecDepth 100000 in
theorem pre_eq (H : Type) (enc : TypeId × Value → H) : Rows.orderFormatsRow.pre enc Tryz.pinned.checked.prog Tryz.f3 (OpenSpec.ofChange Rows.orderFormatsSpec) = (fun w args => (Rows.orderFormatsSpec.pre enc Tryz.prog Tryz.f3 [] false w args ∧ laidMetH Tryz.prog laidL w) ∧ sizedMet enc Tryz.prog Tryz.f3 (OpenSpec.ofChange Rows.orderFormatsSpec) false w args) := rfl
theorem inst : (Tryz.f3).isInstance Tryz.pinned.checked.prog Rows.orderFormatsRow.origin Rows.orderFormatsRow.targs := of_decide_eq_true (by kernel_rfl)
theorem post_eq (os : Os) (started : os.Started) (H : Type) (enc : TypeId × Value → H) : ReturnsInHanded Rows.orderFormatsRow.assume Tryz.pinned.checked os 3 .any (Rows.orderFormatsRow.pre enc Tryz.pinned.checked.prog Tryz.f3 (OpenSpec.ofChange Rows.orderFormatsSpec)) (Rows.orderFormatsSpec.post enc Tryz.pinned.checked.prog Tryz.f3 Rows.orderFormatsRow.apart Rows.orderFormatsRow.fresh Rows.orderFormatsRow.handsOn Rows.orderFormatsRow.again) := by
  rw [pre_eq]
  exact lifted os started H enc
end Go.Proofs.YtbdnocijhbkclaaGreatDoor.orderFormats
