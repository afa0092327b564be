/- THE ROW OF OrderFormats: the text of a form, which is read again. No condition beside the listed variables. -/
import Derived.Test.YtbdnocijhbkclaaGreatDoorRF1
import Derived.Test.YtbdnocijhbkclaaGreatDoorOpen
import Derived.Test.YtbdnocijhbkclaaGreatDoorOZ
import Derived.Test.YtbdnocijhbkclaaGreatDoorTie
import Derived.Test.YtbdnocijhbkclaaGreatDoorCards
import Derived.Test.YtbdnocijhbkclaaGreatDoorChecked
import Derived.Lay
import Derived.LaidOnce
import Derived.SevenTiedAt
namespace Go.Proofs.YtbdnocijhbkclaaGreatDoor.orderFormats
open Go.ChangeShapes Go.WideShapes Go.ChangeAt Go.RowKit
set_option linter.unusedVariables false

theorem over : Rows.orderFormatsRow.holds Tryz.pinned (OpenSpec.ofChange Rows.orderFormatsSpec) :=
  OpenClaim.holds_of_wide 3 Tryz.f3 rfl rfl rfl rfl rfl rfl rfl ⟨rfl, rfl, rfl, rfl, rfl⟩ rfl rfl rfl rfl rfl named Tryz.func3 closed inst wrap
    (fun os started H enc _ => post_eq os started H enc)

theorem proved : Rows.OrderFormatsCardSaid :=
  Claim7.holds_tied_plain_at .later [] [.data, .data, .data, .data, .sentinel, .sentinel, .listed, .data, .pinned] true (true, "c6e52d82a401776a526cefc2a5512ea7b069b8f5e5e5b9af81bd716ed4bd7f4d") true over (fun _ h => by cases h) (by kernel_rfl) (fun _ h => by cases h) orderFormats_row_tie rfl ⟨rfl, rfl⟩ (by kernel_rfl) rfl
    (fun f fn hf hfn => by
      obtain rfl : f = 3 := Option.some.inj ((show Tryz.prog.funcNamed "pantoscope/pantoscopelaw08.OrderFormats" = some 3 by kernel_rfl).symm.trans hf) |>.symm
      obtain rfl : fn = Tryz.f3 := (Option.some.inj (Tryz.func3.symm.trans hfn)).symm
      exact ⟨by kernel_rfl, fun j t ht => by
        rw [Tryz.params3] at ht
        have hm : t ∈ [24] := by simpa using Array.mem_of_getElem? ht
        have hall : ([24].all fun u => !Tryz.prog.wantsStandIn u) = true := by kernel_rfl
        exact (show Tryz.prog.wantsStandIn t = false by simpa using List.all_eq_true.1 hall t hm)⟩)
    (by kernel_rfl)
end Go.Proofs.YtbdnocijhbkclaaGreatDoor.orderFormats
