/-
  DERIVED. GIVEN WITH THE SEED: THE CARDS: each row of YtcgpcigablefhaaGreatDoorRows.lean that lists a variable, with what it lists TIED to the program's text (the seventh form; the later family's looks); each row that meets fmt, with fmt's text TOLD by the authors' own Lean function (tested against real Go, not proved from fmt's source: count such statements apart). THE CARD IS WHAT COUNTS. Prove the row's statement (the work); the ties are given (YtcgpcigablefhaaGreatDoorTie.lean); close each card by the builder's one call (the guide's Derived/Test/ToyasCard.lean, 'card_holds'). Laid BY PROGRAM, IN A SANDBOX (cutbox-door.mjs). By AI agents, Wed Nov 11 2026. No macro, syntax, notation, axiom, sorry.
-/
import Derived.Test.YtcgpcigablefhaaGreatDoorRows
import GoSem.ClaimSeven
namespace Go.Proofs.YtcgpcigablefhaaGreatDoor
namespace Rows

/-- THE TIED CARD OF 'tripwirelaw13.AstShows'. -/
def astShowsCard : Claim7 := { stood := { row := astShowsRow, standIns := [], harness := (true, "cb70535ed6f0c244ce6c4db2d748bf2c6c7c7ff69f2036d9a4a927157de89372"), looks := false }, kinds := [], alts := [], laidByText := true, laidKinds := [.data, .data, .data, .data, .data, .data, .data, .pinned, .pinned], laidTests := true, laidLooks := .later }
def AstShowsCardSaid : Prop := Claim7.holds Tryz.pinned (.plain (OpenSpec.ofChange astShowsSpec)) astShowsCard

/-- THE TIED CARD OF 'tripwirelaw13.AstExprs'. -/
def astExprsCard : Claim7 := { stood := { row := astExprsRow, standIns := [], harness := (true, "cb70535ed6f0c244ce6c4db2d748bf2c6c7c7ff69f2036d9a4a927157de89372"), looks := false }, kinds := [], alts := [], laidByText := true, laidKinds := [.data, .data, .data, .data, .data, .data, .data, .pinned, .pinned], laidTests := true, laidLooks := .later }
def AstExprsCardSaid : Prop := Claim7.holds Tryz.pinned (.plain (OpenSpec.ofChange astExprsSpec)) astExprsCard

/-- THE TIED CARD OF 'tripwirelaw13.AstUnlike'. -/
def astUnlikeCard : Claim7 := { stood := { row := astUnlikeRow, standIns := [], harness := (true, "cb70535ed6f0c244ce6c4db2d748bf2c6c7c7ff69f2036d9a4a927157de89372"), looks := false }, kinds := [], alts := [], laidByText := true, laidKinds := [.data, .data, .data, .data, .data, .data, .data, .pinned, .pinned], laidTests := true, laidLooks := .later }
def AstUnlikeCardSaid : Prop := Claim7.holds Tryz.pinned (.plain (OpenSpec.ofChange astUnlikeSpec)) astUnlikeCard

/-- THE SECOND FORM's CARD OF 'tripwirelaw13.AstShows'. -/
def astShowsUptoCard : Claim7 := { stood := { row := astShowsUptoRow, standIns := [], harness := (true, "cb70535ed6f0c244ce6c4db2d748bf2c6c7c7ff69f2036d9a4a927157de89372"), looks := false }, kinds := [], alts := [], laidByText := true, laidKinds := [.data, .data, .data, .data, .data, .data, .data, .pinned, .pinned], laidTests := true, laidLooks := .later }
def AstShowsUptoCardSaid : Prop := Claim7.holds Tryz.pinned (.plain (OpenSpec.upto astShowsSpec)) astShowsUptoCard

/-- THE SECOND FORM's CARD OF 'tripwirelaw13.AstExprs'. -/
def astExprsUptoCard : Claim7 := { stood := { row := astExprsUptoRow, standIns := [], harness := (true, "cb70535ed6f0c244ce6c4db2d748bf2c6c7c7ff69f2036d9a4a927157de89372"), looks := false }, kinds := [], alts := [], laidByText := true, laidKinds := [.data, .data, .data, .data, .data, .data, .data, .pinned, .pinned], laidTests := true, laidLooks := .later }
def AstExprsUptoCardSaid : Prop := Claim7.holds Tryz.pinned (.plain (OpenSpec.upto astExprsSpec)) astExprsUptoCard

/-- THE SECOND FORM's CARD OF 'tripwirelaw13.AstUnlike'. -/
def astUnlikeUptoCard : Claim7 := { stood := { row := astUnlikeUptoRow, standIns := [], harness := (true, "cb70535ed6f0c244ce6c4db2d748bf2c6c7c7ff69f2036d9a4a927157de89372"), looks := false }, kinds := [], alts := [], laidByText := true, laidKinds := [.data, .data, .data, .data, .data, .data, .data, .pinned, .pinned], laidTests := true, laidLooks := .later }
def AstUnlikeUptoCardSaid : Prop := Claim7.holds Tryz.pinned (.plain (OpenSpec.upto astUnlikeSpec)) astUnlikeUptoCard
end Rows
end Go.Proofs.YtcgpcigablefhaaGreatDoor
