/- SlabSeasons: the row and its tied card. -/
import Derived.Test.YticjhkfidgkecaaGreatDoorRS1
import Derived.Test.YticjhkfidgkecaaGreatDoorOpen
import Derived.Test.YticjhkfidgkecaaGreatDoorTie
import Derived.Test.YticjhkfidgkecaaGreatDoorCards
import Derived.Test.YticjhkfidgkecaaGreatDoorChecked
import Derived.Lay
import Derived.LaidOnce
import Derived.SevenTiedAt
namespace Go.Proofs.YticjhkfidgkecaaGreatDoor.slabSeasons
open Go.ChangeShapes Go.WideShapes Go.ChangeAt Go.RowKit
set_option linter.unusedVariables false

theorem over : Rows.slabSeasonsRow.holds Tryz.pinned (OpenSpec.ofChange Rows.slabSeasonsSpec) :=
  OpenClaim.holds_of_wide 13 Tryz.f13 rfl rfl rfl rfl rfl rfl rfl ⟨rfl, rfl, rfl, rfl, rfl⟩ rfl rfl rfl rfl rfl named Tryz.func13 closed inst wrap
    (fun os started H enc _ => post_eq os started H enc)

theorem proved : Rows.SlabSeasonsCardSaid :=
  Claim7.holds_tied_plain_at .later [] [.data, .data, .data, .data, .sentinel, .sentinel, .data, .data, .pinned] true (true, "573cd75c00f83664632475d0ea8b6dbeb63176d3ba1f494477aba780887f6df5") true over (fun _ h => by cases h) (by kernel_rfl) (fun _ h => by cases h) slabSeasons_row_tie rfl ⟨rfl, rfl⟩ (by kernel_rfl) rfl
    (fun f fn hf hfn => by
      obtain rfl : f = 13 := Option.some.inj ((show Tryz.prog.funcNamed "pantoscope/pantoscopelaw02.SlabSeasons" = some 13 by kernel_rfl).symm.trans hf) |>.symm
      obtain rfl : fn = Tryz.f13 := (Option.some.inj (Tryz.func13.symm.trans hfn)).symm
      exact ⟨by kernel_rfl, fun j t ht => by
        rw [Tryz.params13] at ht
        have hm : t ∈ [3, 64, 3] := by simpa using Array.mem_of_getElem? ht
        have hall : ([3, 64, 3].all fun u => !Tryz.prog.wantsStandIn u) = true := by kernel_rfl
        exact (show Tryz.prog.wantsStandIn t = false by simpa using List.all_eq_true.1 hall t hm)⟩)
    (by kernel_rfl)
end Go.Proofs.YticjhkfidgkecaaGreatDoor.slabSeasons
