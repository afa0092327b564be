/-
  DERIVED. GIVEN WITH THE SEED: THE CARDS: each row of YtbdnocijhbkclaaGreatDoorRows.lean that lists a variable, with what it lists TIED to the program's text (the seventh form; the later family's looks); each row that meets fmt, with fmt's text TOLD by the authors' own Lean function (tested against real Go, not proved from fmt's source: count such statements apart). THE CARD IS WHAT COUNTS. Prove the row's statement (the work); the ties are given (YtbdnocijhbkclaaGreatDoorTie.lean); close each card by the builder's one call (the guide's Derived/Test/ToyasCard.lean, 'card_holds'). Laid BY PROGRAM, IN A SANDBOX (cutbox-door.mjs). By AI agents, Wed Nov 11 2026. No macro, syntax, notation, axiom, sorry.
-/
import Derived.Test.YtbdnocijhbkclaaGreatDoorRows
import GoSem.ClaimSeven
namespace Go.Proofs.YtbdnocijhbkclaaGreatDoor
namespace Rows

/-- THE TIED CARD OF 'pantoscopelaw08.OrderFormats'. -/
def orderFormatsCard : Claim7 := { stood := { row := orderFormatsRow, standIns := [], harness := (true, "c6e52d82a401776a526cefc2a5512ea7b069b8f5e5e5b9af81bd716ed4bd7f4d"), looks := true }, kinds := [], alts := [], laidByText := true, laidKinds := [.data, .data, .data, .data, .sentinel, .sentinel, .listed, .data, .pinned], laidTests := true, laidLooks := .later }
def OrderFormatsCardSaid : Prop := Claim7.holds Tryz.pinned (.plain (OpenSpec.ofChange orderFormatsSpec)) orderFormatsCard

/-- THE TIED CARD OF 'pantoscopelaw08.OrderParses'. -/
def orderParsesCard : Claim7 := { stood := { row := orderParsesRow, standIns := [], harness := (true, "c6e52d82a401776a526cefc2a5512ea7b069b8f5e5e5b9af81bd716ed4bd7f4d"), looks := true }, kinds := [], alts := [], laidByText := true, laidKinds := [.data, .data, .data, .data, .sentinel, .sentinel, .listed, .data, .pinned], laidTests := true, laidLooks := .later }
def OrderParsesCardSaid : Prop := Claim7.holds Tryz.pinned (.plain (OpenSpec.ofChange orderParsesSpec)) orderParsesCard

/-- THE SECOND FORM's CARD OF 'pantoscopelaw08.OrderFormats'. -/
def orderFormatsUptoCard : Claim7 := { stood := { row := orderFormatsUptoRow, standIns := [], harness := (true, "c6e52d82a401776a526cefc2a5512ea7b069b8f5e5e5b9af81bd716ed4bd7f4d"), looks := true }, kinds := [], alts := [], laidByText := true, laidKinds := [.data, .data, .data, .data, .sentinel, .sentinel, .listed, .data, .pinned], laidTests := true, laidLooks := .later }
def OrderFormatsUptoCardSaid : Prop := Claim7.holds Tryz.pinned (.plain (OpenSpec.upto orderFormatsSpec)) orderFormatsUptoCard

/-- THE SECOND FORM's CARD OF 'pantoscopelaw08.OrderParses'. -/
def orderParsesUptoCard : Claim7 := { stood := { row := orderParsesUptoRow, standIns := [], harness := (true, "c6e52d82a401776a526cefc2a5512ea7b069b8f5e5e5b9af81bd716ed4bd7f4d"), looks := true }, kinds := [], alts := [], laidByText := true, laidKinds := [.data, .data, .data, .data, .sentinel, .sentinel, .listed, .data, .pinned], laidTests := true, laidLooks := .later }
def OrderParsesUptoCardSaid : Prop := Claim7.holds Tryz.pinned (.plain (OpenSpec.upto orderParsesSpec)) orderParsesUptoCard
end Rows
end Go.Proofs.YtbdnocijhbkclaaGreatDoor
