/-
  DERIVED. GIVEN WITH THE SEED: THE CARDS: each row of YtedlohapoafkjabDoorRows.lean that lists a variable, with what it lists TIED to the program's text (the seventh form; the later family's looks); each row that meets fmt, with fmt's text TOLD by the authors' own Lean function (tested against real Go, not proved from fmt's source: count such statements apart). THE CARD IS WHAT COUNTS. Prove the row's statement (the work); the ties are given (YtedlohapoafkjabDoorTie.lean); close each card by the builder's one call (the guide's Derived/Test/ToyasCard.lean, 'card_holds'). Laid BY PROGRAM, IN A SANDBOX (cutbox-door.mjs). By AI agents, Wed Nov 11 2026. No macro, syntax, notation, axiom, sorry.
-/
import Derived.Test.YtedlohapoafkjabDoorRows
import GoSem.ClaimSeven
namespace Go.Proofs.YtedlohapoafkjabDoor
namespace Rows

/-- THE TIED CARD OF 'tripwirelaw03.CodeIds'. -/
def codeIdsCard : Claim7 := { stood := { row := codeIdsRow, standIns := [], harness := (true, "45c68ac137c7e663aaf12160ec4e1aea55f776b4644980bc27c94f1941cc944b"), looks := false }, kinds := [], alts := [], laidByText := true, laidKinds := [.data, .pinned], laidTests := true, laidLooks := .later }
def CodeIdsCardSaid : Prop := Claim7.holds Tryd.pinned (.plain (OpenSpec.ofChange codeIdsSpec)) codeIdsCard

/-- THE TIED CARD OF 'tripwirelaw03.CodeNexts'. -/
def codeNextsCard : Claim7 := { stood := { row := codeNextsRow, standIns := [], harness := (true, "45c68ac137c7e663aaf12160ec4e1aea55f776b4644980bc27c94f1941cc944b"), looks := false }, kinds := [], alts := [], laidByText := true, laidKinds := [.data, .pinned], laidTests := true, laidLooks := .later }
def CodeNextsCardSaid : Prop := Claim7.holds Tryd.pinned (.plain (OpenSpec.ofChange codeNextsSpec)) codeNextsCard

/-- THE TIED CARD OF 'tripwirelaw03.CodeRanges'. -/
def codeRangesCard : Claim7 := { stood := { row := codeRangesRow, standIns := [], harness := (true, "45c68ac137c7e663aaf12160ec4e1aea55f776b4644980bc27c94f1941cc944b"), looks := false }, kinds := [], alts := [], laidByText := true, laidKinds := [.data, .pinned], laidTests := true, laidLooks := .later }
def CodeRangesCardSaid : Prop := Claim7.holds Tryd.pinned (.plain (OpenSpec.ofChange codeRangesSpec)) codeRangesCard

/-- THE SECOND FORM's CARD OF 'tripwirelaw03.CodeIds'. -/
def codeIdsUptoCard : Claim7 := { stood := { row := codeIdsUptoRow, standIns := [], harness := (true, "45c68ac137c7e663aaf12160ec4e1aea55f776b4644980bc27c94f1941cc944b"), looks := false }, kinds := [], alts := [], laidByText := true, laidKinds := [.data, .pinned], laidTests := true, laidLooks := .later }
def CodeIdsUptoCardSaid : Prop := Claim7.holds Tryd.pinned (.plain (OpenSpec.upto codeIdsSpec)) codeIdsUptoCard

/-- THE SECOND FORM's CARD OF 'tripwirelaw03.CodeNexts'. -/
def codeNextsUptoCard : Claim7 := { stood := { row := codeNextsUptoRow, standIns := [], harness := (true, "45c68ac137c7e663aaf12160ec4e1aea55f776b4644980bc27c94f1941cc944b"), looks := false }, kinds := [], alts := [], laidByText := true, laidKinds := [.data, .pinned], laidTests := true, laidLooks := .later }
def CodeNextsUptoCardSaid : Prop := Claim7.holds Tryd.pinned (.plain (OpenSpec.upto codeNextsSpec)) codeNextsUptoCard

/-- THE SECOND FORM's CARD OF 'tripwirelaw03.CodeRanges'. -/
def codeRangesUptoCard : Claim7 := { stood := { row := codeRangesUptoRow, standIns := [], harness := (true, "45c68ac137c7e663aaf12160ec4e1aea55f776b4644980bc27c94f1941cc944b"), looks := false }, kinds := [], alts := [], laidByText := true, laidKinds := [.data, .pinned], laidTests := true, laidLooks := .later }
def CodeRangesUptoCardSaid : Prop := Claim7.holds Tryd.pinned (.plain (OpenSpec.upto codeRangesSpec)) codeRangesUptoCard
end Rows
end Go.Proofs.YtedlohapoafkjabDoor
