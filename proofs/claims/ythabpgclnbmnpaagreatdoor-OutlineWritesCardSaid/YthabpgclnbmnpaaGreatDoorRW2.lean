/- THE ROW OF OutlineWrites: the text of a trace, which is read again. No condition beside the listed variables. -/
import Derived.Test.YthabpgclnbmnpaaGreatDoorRW1
import Derived.Test.YthabpgclnbmnpaaGreatDoorOpenT
import Derived.Test.YthabpgclnbmnpaaGreatDoorOTZ
import Derived.Test.YthabpgclnbmnpaaGreatDoorTie
import Derived.Test.YthabpgclnbmnpaaGreatDoorCards
import Derived.Test.YthabpgclnbmnpaaGreatDoorChecked
import Derived.Lay
import Derived.LaidOnce
import Derived.SevenTiedAt
namespace Go.Proofs.YthabpgclnbmnpaaGreatDoor.outlineWrites
open Go.ChangeShapes Go.WideShapes Go.ChangeAt Go.RowKit
set_option linter.unusedVariables false

theorem over : Rows.outlineWritesRow.holds Tryz.pinned (OpenSpec.ofChange Rows.outlineWritesSpec) :=
  OpenClaim.holds_of_wide 3 Tryz.f3 rfl rfl rfl rfl rfl rfl rfl ⟨rfl, rfl, rfl, rfl, rfl⟩ rfl rfl rfl rfl rfl named Tryz.func3 closed inst wrap
    (fun os started H enc _ => post_eq os started H enc)

theorem proved : Rows.OutlineWritesCardSaid :=
  Claim7.holds_tied_plain_at .later [] [.data, .data, .data, .data, .sentinel, .sentinel, .pinned, .pinned] true (true, "6fe6558abff540bcdf66842e111c994fd1fb17e893987fcb140c756a64485b4d") true over (fun _ h => by cases h) (by kernel_rfl) (fun _ h => by cases h) outlineWrites_row_tie rfl ⟨rfl, rfl⟩ (by kernel_rfl) rfl
    (fun f fn hf hfn => by
      obtain rfl : f = 3 := Option.some.inj ((show Tryz.prog.funcNamed "pantoscope/pantoscopelaw01.OutlineWrites" = some 3 by kernel_rfl).symm.trans hf) |>.symm
      obtain rfl : fn = Tryz.f3 := (Option.some.inj (Tryz.func3.symm.trans hfn)).symm
      exact ⟨by kernel_rfl, fun j t ht => by
        rw [Tryz.params3] at ht
        have hm : t ∈ [24] := by simpa using Array.mem_of_getElem? ht
        have hall : ([24].all fun u => !Tryz.prog.wantsStandIn u) = true := by kernel_rfl
        exact (show Tryz.prog.wantsStandIn t = false by simpa using List.all_eq_true.1 hall t hm)⟩)
    (by kernel_rfl)
end Go.Proofs.YthabpgclnbmnpaaGreatDoor.outlineWrites
