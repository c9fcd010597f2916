/-
  DERIVED. GIVEN WITH THE SEED: THE CARDS: each row of YtedlohapoafkjaaDoorRows.lean that lists a variable, with what it lists TIED to the program's text (the seventh form; the later family's looks); each row that meets fmt, with fmt's text TOLD by the authors' own Lean function (tested against real Go, not proved from fmt's source: count such statements apart). THE CARD IS WHAT COUNTS. Prove the row's statement (the work); the ties are given (YtedlohapoafkjaaDoorTie.lean); close each card by the builder's one call (the guide's Derived/Test/ToyasCard.lean, 'card_holds'). Laid BY PROGRAM, IN A SANDBOX (cutbox-door.mjs). By AI agents, Wed Nov 11 2026. No macro, syntax, notation, axiom, sorry.
-/
import Derived.Test.YtedlohapoafkjaaDoorRows
import GoSem.ClaimSeven
namespace Go.Proofs.YtedlohapoafkjaaDoor
namespace Rows

/-- THE TIED CARD OF 'tripwirelaw02.ValueShows'. -/
def valueShowsCard : Claim7 := { stood := { row := valueShowsRow, standIns := [], harness := (true, "1b4a7b5c81536381b6f8cd8f0ae4e25804e09b9839a3eb1ed20053b2af0f5110"), looks := false }, kinds := [], alts := [], laidByText := true, laidKinds := [.data, .data, .data, .data, .pinned], laidTests := true, laidLooks := .later }
def ValueShowsCardSaid : Prop := Claim7.holds Tryd.pinned (.plain (OpenSpec.ofChange valueShowsSpec)) valueShowsCard

/-- THE TIED CARD OF 'tripwirelaw03.CodeKeys'. -/
def codeKeysCard : Claim7 := { stood := { row := codeKeysRow, standIns := [], harness := (true, "1b4a7b5c81536381b6f8cd8f0ae4e25804e09b9839a3eb1ed20053b2af0f5110"), looks := false }, kinds := [], alts := [], laidByText := true, laidKinds := [.data, .pinned], laidTests := true, laidLooks := .later }
def CodeKeysCardSaid : Prop := Claim7.holds Tryd.pinned (.plain (OpenSpec.ofChange codeKeysSpec)) codeKeysCard

/-- THE TIED CARD OF 'tripwirelaw03.CodeReads'. -/
def codeReadsCard : Claim7 := { stood := { row := codeReadsRow, standIns := [], harness := (true, "1b4a7b5c81536381b6f8cd8f0ae4e25804e09b9839a3eb1ed20053b2af0f5110"), looks := false }, kinds := [], alts := [], laidByText := true, laidKinds := [.data, .pinned], laidTests := true, laidLooks := .later }
def CodeReadsCardSaid : Prop := Claim7.holds Tryd.pinned (.plain (OpenSpec.ofChange codeReadsSpec)) codeReadsCard

/-- THE TIED CARD OF 'tripwirelaw03.CodeOrders'. -/
def codeOrdersCard : Claim7 := { stood := { row := codeOrdersRow, standIns := [], harness := (true, "1b4a7b5c81536381b6f8cd8f0ae4e25804e09b9839a3eb1ed20053b2af0f5110"), looks := false }, kinds := [], alts := [], laidByText := true, laidKinds := [.data, .pinned], laidTests := true, laidLooks := .later }
def CodeOrdersCardSaid : Prop := Claim7.holds Tryd.pinned (.plain (OpenSpec.ofChange codeOrdersSpec)) codeOrdersCard

/-- THE TIED CARD OF 'tripwirelaw03.CodeRows'. -/
def codeRowsCard : Claim7 := { stood := { row := codeRowsRow, standIns := [], harness := (true, "1b4a7b5c81536381b6f8cd8f0ae4e25804e09b9839a3eb1ed20053b2af0f5110"), looks := false }, kinds := [], alts := [], laidByText := true, laidKinds := [.data, .pinned], laidTests := true, laidLooks := .later }
def CodeRowsCardSaid : Prop := Claim7.holds Tryd.pinned (.plain (OpenSpec.ofChange codeRowsSpec)) codeRowsCard

/-- THE TIED CARD OF 'tripwirelaw03.CodeUnrows'. -/
def codeUnrowsCard : Claim7 := { stood := { row := codeUnrowsRow, standIns := [], harness := (true, "1b4a7b5c81536381b6f8cd8f0ae4e25804e09b9839a3eb1ed20053b2af0f5110"), looks := false }, kinds := [], alts := [], laidByText := true, laidKinds := [.data, .pinned], laidTests := true, laidLooks := .later }
def CodeUnrowsCardSaid : Prop := Claim7.holds Tryd.pinned (.plain (OpenSpec.ofChange codeUnrowsSpec)) codeUnrowsCard

/-- THE SECOND FORM's CARD OF 'tripwirelaw02.ValueShows'. -/
def valueShowsUptoCard : Claim7 := { stood := { row := valueShowsUptoRow, standIns := [], harness := (true, "1b4a7b5c81536381b6f8cd8f0ae4e25804e09b9839a3eb1ed20053b2af0f5110"), looks := false }, kinds := [], alts := [], laidByText := true, laidKinds := [.data, .data, .data, .data, .pinned], laidTests := true, laidLooks := .later }
def ValueShowsUptoCardSaid : Prop := Claim7.holds Tryd.pinned (.plain (OpenSpec.upto valueShowsSpec)) valueShowsUptoCard

/-- THE SECOND FORM's CARD OF 'tripwirelaw03.CodeKeys'. -/
def codeKeysUptoCard : Claim7 := { stood := { row := codeKeysUptoRow, standIns := [], harness := (true, "1b4a7b5c81536381b6f8cd8f0ae4e25804e09b9839a3eb1ed20053b2af0f5110"), looks := false }, kinds := [], alts := [], laidByText := true, laidKinds := [.data, .pinned], laidTests := true, laidLooks := .later }
def CodeKeysUptoCardSaid : Prop := Claim7.holds Tryd.pinned (.plain (OpenSpec.upto codeKeysSpec)) codeKeysUptoCard

/-- THE SECOND FORM's CARD OF 'tripwirelaw03.CodeReads'. -/
def codeReadsUptoCard : Claim7 := { stood := { row := codeReadsUptoRow, standIns := [], harness := (true, "1b4a7b5c81536381b6f8cd8f0ae4e25804e09b9839a3eb1ed20053b2af0f5110"), looks := false }, kinds := [], alts := [], laidByText := true, laidKinds := [.data, .pinned], laidTests := true, laidLooks := .later }
def CodeReadsUptoCardSaid : Prop := Claim7.holds Tryd.pinned (.plain (OpenSpec.upto codeReadsSpec)) codeReadsUptoCard

/-- THE SECOND FORM's CARD OF 'tripwirelaw03.CodeOrders'. -/
def codeOrdersUptoCard : Claim7 := { stood := { row := codeOrdersUptoRow, standIns := [], harness := (true, "1b4a7b5c81536381b6f8cd8f0ae4e25804e09b9839a3eb1ed20053b2af0f5110"), looks := false }, kinds := [], alts := [], laidByText := true, laidKinds := [.data, .pinned], laidTests := true, laidLooks := .later }
def CodeOrdersUptoCardSaid : Prop := Claim7.holds Tryd.pinned (.plain (OpenSpec.upto codeOrdersSpec)) codeOrdersUptoCard

/-- THE SECOND FORM's CARD OF 'tripwirelaw03.CodeRows'. -/
def codeRowsUptoCard : Claim7 := { stood := { row := codeRowsUptoRow, standIns := [], harness := (true, "1b4a7b5c81536381b6f8cd8f0ae4e25804e09b9839a3eb1ed20053b2af0f5110"), looks := false }, kinds := [], alts := [], laidByText := true, laidKinds := [.data, .pinned], laidTests := true, laidLooks := .later }
def CodeRowsUptoCardSaid : Prop := Claim7.holds Tryd.pinned (.plain (OpenSpec.upto codeRowsSpec)) codeRowsUptoCard

/-- THE SECOND FORM's CARD OF 'tripwirelaw03.CodeUnrows'. -/
def codeUnrowsUptoCard : Claim7 := { stood := { row := codeUnrowsUptoRow, standIns := [], harness := (true, "1b4a7b5c81536381b6f8cd8f0ae4e25804e09b9839a3eb1ed20053b2af0f5110"), looks := false }, kinds := [], alts := [], laidByText := true, laidKinds := [.data, .pinned], laidTests := true, laidLooks := .later }
def CodeUnrowsUptoCardSaid : Prop := Claim7.holds Tryd.pinned (.plain (OpenSpec.upto codeUnrowsSpec)) codeUnrowsUptoCard
end Rows
end Go.Proofs.YtedlohapoafkjaaDoor
