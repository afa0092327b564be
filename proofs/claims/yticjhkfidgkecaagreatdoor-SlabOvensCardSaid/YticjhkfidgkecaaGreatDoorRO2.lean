/- SlabOvens: the row and its tied card. -/
import Derived.Test.YticjhkfidgkecaaGreatDoorRO1
import Derived.Test.YticjhkfidgkecaaGreatDoorOpen
import Derived.Test.YticjhkfidgkecaaGreatDoorTie
import Derived.Test.YticjhkfidgkecaaGreatDoorCards
import Derived.Test.YticjhkfidgkecaaGreatDoorChecked
import Derived.Lay
import Derived.LaidOnce
import Derived.SevenTiedAt
namespace Go.Proofs.YticjhkfidgkecaaGreatDoor.slabOvens
open Go.ChangeShapes Go.WideShapes Go.ChangeAt Go.RowKit
set_option linter.unusedVariables false

theorem over : Rows.slabOvensRow.holds Tryz.pinned (OpenSpec.ofChange Rows.slabOvensSpec) :=
  OpenClaim.holds_of_wide 14 Tryz.f14 rfl rfl rfl rfl rfl rfl rfl ⟨rfl, rfl, rfl, rfl, rfl⟩ rfl rfl rfl rfl rfl named Tryz.func14 closed inst wrap
    (fun os started H enc _ => post_eq os started H enc)

theorem proved : Rows.SlabOvensCardSaid :=
  Claim7.holds_tied_plain_at .later [] [.data, .data, .data, .data, .sentinel, .sentinel, .data, .data, .pinned] true (true, "573cd75c00f83664632475d0ea8b6dbeb63176d3ba1f494477aba780887f6df5") true over (fun _ h => by cases h) (by kernel_rfl) (fun _ h => by cases h) slabOvens_row_tie rfl ⟨rfl, rfl⟩ (by kernel_rfl) rfl
    (fun f fn hf hfn => by
      obtain rfl : f = 14 := Option.some.inj ((show Tryz.prog.funcNamed "pantoscope/pantoscopelaw02.SlabOvens" = some 14 by kernel_rfl).symm.trans hf) |>.symm
      obtain rfl : fn = Tryz.f14 := (Option.some.inj (Tryz.func14.symm.trans hfn)).symm
      exact ⟨by kernel_rfl, fun j t ht => by
        rw [Tryz.params14] at ht
        have hm : t ∈ [3, 64, 68] := by simpa using Array.mem_of_getElem? ht
        have hall : ([3, 64, 68].all fun u => !Tryz.prog.wantsStandIn u) = true := by kernel_rfl
        exact (show Tryz.prog.wantsStandIn t = false by simpa using List.all_eq_true.1 hall t hm)⟩)
    (by kernel_rfl)
end Go.Proofs.YticjhkfidgkecaaGreatDoor.slabOvens
