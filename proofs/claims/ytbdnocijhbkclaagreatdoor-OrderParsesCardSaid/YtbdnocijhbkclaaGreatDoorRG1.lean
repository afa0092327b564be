/- THE ROW OF OrderParses: the form of every text, or that there is none. No condition beside the listed variables. -/
import Derived.Test.YtbdnocijhbkclaaGreatDoorRG0
import Derived.Test.YtbdnocijhbkclaaGreatDoorOpen
import Derived.Test.YtbdnocijhbkclaaGreatDoorOZ
import Derived.Test.YtbdnocijhbkclaaGreatDoorTie
import Derived.Test.YtbdnocijhbkclaaGreatDoorCards
import Derived.Test.YtbdnocijhbkclaaGreatDoorChecked
import Derived.Lay
import Derived.LaidOnce
import Derived.SevenTiedAt
namespace Go.Proofs.YtbdnocijhbkclaaGreatDoor.orderParses
open Go.ChangeShapes Go.WideShapes Go.ChangeAt Go.RowKit
set_option linter.unusedVariables false

set_option maxRecDepth 100000 in
theorem pre_eq (H : Type) (enc : TypeId × Value → H) : Rows.orderParsesRow.pre enc Tryz.pinned.checked.prog Tryz.f4 (OpenSpec.ofChange Rows.orderParsesSpec) = (fun w args => (Rows.orderParsesSpec.pre enc Tryz.prog Tryz.f4 [] false w args ∧ laidMetH Tryz.prog laidL w) ∧ sizedMet enc Tryz.prog Tryz.f4 (OpenSpec.ofChange Rows.orderParsesSpec) false w args) := rfl
theorem inst : (Tryz.f4).isInstance Tryz.pinned.checked.prog Rows.orderParsesRow.origin Rows.orderParsesRow.targs := of_decide_eq_true (by kernel_rfl)
theorem post_eq (os : Os) (started : os.Started) (H : Type) (enc : TypeId × Value → H) : ReturnsInHanded Rows.orderParsesRow.assume Tryz.pinned.checked os 4 .any (Rows.orderParsesRow.pre enc Tryz.pinned.checked.prog Tryz.f4 (OpenSpec.ofChange Rows.orderParsesSpec)) (Rows.orderParsesSpec.post enc Tryz.pinned.checked.prog Tryz.f4 Rows.orderParsesRow.apart Rows.orderParsesRow.fresh Rows.orderParsesRow.handsOn Rows.orderParsesRow.again) := by
  rw [pre_eq]
  exact lifted os started H enc
end Go.Proofs.YtbdnocijhbkclaaGreatDoor.orderParses
