/- THE ROW OF OrderParses: the form of every text, or that there is none. No condition beside the listed variables. -/
import Derived.Test.YtbdnocijhbkclaaGreatDoorRG1
import Derived.Test.YtbdnocijhbkclaaGreatDoorOpen
import Derived.Test.YtbdnocijhbkclaaGreatDoorOZ
import Derived.Test.YtbdnocijhbkclaaGreatDoorTie
import Derived.Test.YtbdnocijhbkclaaGreatDoorCards
import Derived.Test.YtbdnocijhbkclaaGreatDoorChecked
import Derived.Lay
import Derived.LaidOnce
import Derived.SevenTiedAt
namespace Go.Proofs.YtbdnocijhbkclaaGreatDoor.orderParses
open Go.ChangeShapes Go.WideShapes Go.ChangeAt Go.RowKit
set_option linter.unusedVariables false

theorem over : Rows.orderParsesRow.holds Tryz.pinned (OpenSpec.ofChange Rows.orderParsesSpec) :=
  OpenClaim.holds_of_wide 4 Tryz.f4 rfl rfl rfl rfl rfl rfl rfl ⟨rfl, rfl, rfl, rfl, rfl⟩ rfl rfl rfl rfl rfl named Tryz.func4 closed inst wrap
    (fun os started H enc _ => post_eq os started H enc)

theorem proved : Rows.OrderParsesCardSaid :=
  Claim7.holds_tied_plain_at .later [] [.data, .data, .data, .data, .sentinel, .sentinel, .listed, .data, .pinned] true (true, "c6e52d82a401776a526cefc2a5512ea7b069b8f5e5e5b9af81bd716ed4bd7f4d") true over (fun _ h => by cases h) (by kernel_rfl) (fun _ h => by cases h) orderParses_row_tie rfl ⟨rfl, rfl⟩ (by kernel_rfl) rfl
    (fun f fn hf hfn => by
      obtain rfl : f = 4 := Option.some.inj ((show Tryz.prog.funcNamed "pantoscope/pantoscopelaw08.OrderParses" = some 4 by kernel_rfl).symm.trans hf) |>.symm
      obtain rfl : fn = Tryz.f4 := (Option.some.inj (Tryz.func4.symm.trans hfn)).symm
      exact ⟨by kernel_rfl, fun j t ht => by
        rw [Tryz.params4] at ht
        have hm : t ∈ [9] := by simpa using Array.mem_of_getElem? ht
        have hall : ([9].all fun u => !Tryz.prog.wantsStandIn u) = true := by kernel_rfl
        exact (show Tryz.prog.wantsStandIn t = false by simpa using List.all_eq_true.1 hall t hm)⟩)
    (by kernel_rfl)
end Go.Proofs.YtbdnocijhbkclaaGreatDoor.orderParses
