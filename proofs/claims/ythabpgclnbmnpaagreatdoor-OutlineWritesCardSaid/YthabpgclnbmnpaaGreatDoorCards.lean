/-
  DERIVED. GIVEN WITH THE SEED: THE CARDS: each row of YthabpgclnbmnpaaGreatDoorRows.lean that lists a variable, with what it lists TIED to the program's text (the seventh form; the later family's looks); each row that meets fmt, with fmt's text TOLD by the authors' own Lean function (tested against real Go, not proved from fmt's source: count such statements apart). THE CARD IS WHAT COUNTS. Prove the row's statement (the work); the ties are given (YthabpgclnbmnpaaGreatDoorTie.lean); close each card by the builder's one call (the guide's Derived/Test/ToyasCard.lean, 'card_holds'). Laid BY PROGRAM, IN A SANDBOX (cutbox-door.mjs). By AI agents, Wed Nov 11 2026. No macro, syntax, notation, axiom, sorry.
-/
import Derived.Test.YthabpgclnbmnpaaGreatDoorRows
import GoSem.ClaimSeven
namespace Go.Proofs.YthabpgclnbmnpaaGreatDoor
namespace Rows

/-- THE TIED CARD OF 'pantoscopelaw01.OutlineWrites'. -/
def outlineWritesCard : Claim7 := { stood := { row := outlineWritesRow, standIns := [], harness := (true, "6fe6558abff540bcdf66842e111c994fd1fb17e893987fcb140c756a64485b4d"), looks := true }, kinds := [], alts := [], laidByText := true, laidKinds := [.data, .data, .data, .data, .sentinel, .sentinel, .pinned, .pinned], laidTests := true, laidLooks := .later }
def OutlineWritesCardSaid : Prop := Claim7.holds Tryz.pinned (.plain (OpenSpec.ofChange outlineWritesSpec)) outlineWritesCard

/-- THE SECOND FORM's CARD OF 'pantoscopelaw01.OutlineWrites'. -/
def outlineWritesUptoCard : Claim7 := { stood := { row := outlineWritesUptoRow, standIns := [], harness := (true, "6fe6558abff540bcdf66842e111c994fd1fb17e893987fcb140c756a64485b4d"), looks := true }, kinds := [], alts := [], laidByText := true, laidKinds := [.data, .data, .data, .data, .sentinel, .sentinel, .pinned, .pinned], laidTests := true, laidLooks := .later }
def OutlineWritesUptoCardSaid : Prop := Claim7.holds Tryz.pinned (.plain (OpenSpec.upto outlineWritesSpec)) outlineWritesUptoCard
end Rows
end Go.Proofs.YthabpgclnbmnpaaGreatDoor
