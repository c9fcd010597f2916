/-
  DERIVED. GIVEN WITH THE SEED: THE CARDS: each row of YtmdbbdialciihabDoorRows.lean that lists a variable, with what it lists TIED to the program's text (the seventh form; the later family's looks); each row that meets fmt, with fmt's text TOLD by the authors' own Lean function (tested against real Go, not proved from fmt's source: count such statements apart). THE CARD IS WHAT COUNTS. Prove the row's statement (the work); the ties are given (YtmdbbdialciihabDoorTie.lean); close each card by the builder's one call (the guide's Derived/Test/ToyasCard.lean, 'card_holds'). Laid BY PROGRAM, IN A SANDBOX (cutbox-door.mjs). By AI agents, Wed Nov 11 2026. No macro, syntax, notation, axiom, sorry.
-/
import Derived.Test.YtmdbbdialciihabDoorRows
import GoSem.ClaimSeven
namespace Go.Proofs.YtmdbbdialciihabDoor
namespace Rows

/-- THE TIED CARD OF 'tripwirelaw02.ValueSpread'. -/
def valueSpreadCard : Claim7 := { stood := { row := valueSpreadRow, standIns := [], harness := (true, "e1a3429b8c035d9848b96718797cd87088dc9cbac8337f44d0da0fd5ca1fff46"), looks := false }, kinds := [], alts := [], laidByText := true, laidKinds := [.data, .data, .data, .data, .pinned], laidTests := true, laidLooks := .later }
def ValueSpreadCardSaid : Prop := Claim7.holds Tryd.pinned (.plain (OpenSpec.ofChange valueSpreadSpec)) valueSpreadCard

/-- THE SECOND FORM's CARD OF 'tripwirelaw02.ValueSpread'. -/
def valueSpreadUptoCard : Claim7 := { stood := { row := valueSpreadUptoRow, standIns := [], harness := (true, "e1a3429b8c035d9848b96718797cd87088dc9cbac8337f44d0da0fd5ca1fff46"), looks := false }, kinds := [], alts := [], laidByText := true, laidKinds := [.data, .data, .data, .data, .pinned], laidTests := true, laidLooks := .later }
def ValueSpreadUptoCardSaid : Prop := Claim7.holds Tryd.pinned (.plain (OpenSpec.upto valueSpreadSpec)) valueSpreadUptoCard
end Rows
end Go.Proofs.YtmdbbdialciihabDoor
