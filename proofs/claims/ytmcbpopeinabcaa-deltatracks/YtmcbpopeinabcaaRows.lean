/-
  No cell of these rows narrows 'for every input' (looked for: loops, veiled, ifaces, maps, wideKeys, modest, calm, conditions, laid).
  DERIVED. THE GIVEN ROWS OF THIS SEAT. 5 by the template 'for every input the law returns true; each argument reads behind the call as it read before'; 0 by the template 'total and deterministic' (their statements: YtmcbpopeinabcaaTotals.lean).
  GIVEN WITH THE SEED: the statements are not yours to turn. If you find one false, say at which input.
  Laid BY PROGRAM, IN A SANDBOX (cutbox-rows.mjs): the forced cells as the released guide's own fill.sh prints them over the translation 4e591156c9fc9090… (all of the seat's roots in one cut). By AI agents, Wed Nov 11 2026. No macro, syntax, notation, axiom, sorry.
-/
import Derived.Test.YtmcbpopeinabcaaChecked
import GoSem.Claim
import GoSem.ClaimJoined
import GoSem.ClaimMapViews
import Derived.JoinedTies
import Derived.KernelRfl
namespace Go.Proofs.Ytmcbpopeinabcaa
/- THE CELL 'sum', in the pinned program and in every row, IS THE sha256 OF THE DUMP (.gsa) THAT YtmcbpopeinabcaaProg.lean LOADS. Nothing in Lean hashes anything: it is a label: what it is worth is what the hold of that sum in a sandbox is worth. -/
noncomputable def Try.pinned : Pinned := { name := "ytmcbpopeinabcaa", sum := "4e591156c9fc9090ad5591614e9b2738cce57e9171011070557a2d52217216a2", checked := Try.checked }
namespace Rows
def none {H : Type} : Left H := { results := [], args := [] }

/-- 'tripwirelaw10.DeltaNets': WHATEVER THE INPUT: true; the input reads as it did. -/
def deltaNetsSpec : ChangeSpec := { name := "deltaNets", fn := fun _ => fun
  | [d1, d2, d3] => { results := [.lit (.bool true)], args := [d1, d2, d3] }
  | _ => none }
def deltaNetsRow : OpenClaim := { program := "ytmcbpopeinabcaa", sum := "4e591156c9fc9090ad5591614e9b2738cce57e9171011070557a2d52217216a2", func := "tripwire/tripwirelaw10.DeltaNets", spec := "deltaNets", inPlace := ["internal/bytealg.abigen_runtime_cmpstring"], unfollowed := true, recurses := true, plainKeys := false, apart := false }
def DeltaNetsSaid : Prop := deltaNetsRow.holds Try.pinned (OpenSpec.ofChange deltaNetsSpec)

/-- ITS FALSE NEIGHBOUR: 'it returns false'. Refute it at one input. -/
def deltaNetsWrong : ChangeSpec := { name := "deltaNets", fn := fun _ => fun
  | [d1, d2, d3] => { results := [.lit (.bool false)], args := [d1, d2, d3] }
  | _ => none }
def DeltaNetsWrongFalsely : Prop := deltaNetsRow.holds Try.pinned (OpenSpec.ofChange deltaNetsWrong)

/-- 'tripwirelaw10.DeltaSnaps': WHATEVER THE INPUT: true; the input reads as it did. -/
def deltaSnapsSpec : ChangeSpec := { name := "deltaSnaps", fn := fun _ => fun
  | [d1, d2] => { results := [.lit (.bool true)], args := [d1, d2] }
  | _ => none }
def deltaSnapsRow : OpenClaim := { program := "ytmcbpopeinabcaa", sum := "4e591156c9fc9090ad5591614e9b2738cce57e9171011070557a2d52217216a2", func := "tripwire/tripwirelaw10.DeltaSnaps", spec := "deltaSnaps", inPlace := ["internal/bytealg.abigen_runtime_cmpstring"], unfollowed := true, recurses := true, plainKeys := false, apart := false }
def DeltaSnapsSaid : Prop := deltaSnapsRow.holds Try.pinned (OpenSpec.ofChange deltaSnapsSpec)

/-- ITS FALSE NEIGHBOUR: 'it returns false'. Refute it at one input. -/
def deltaSnapsWrong : ChangeSpec := { name := "deltaSnaps", fn := fun _ => fun
  | [d1, d2] => { results := [.lit (.bool false)], args := [d1, d2] }
  | _ => none }
def DeltaSnapsWrongFalsely : Prop := deltaSnapsRow.holds Try.pinned (OpenSpec.ofChange deltaSnapsWrong)

/-- 'tripwirelaw10.DeltaParts': WHATEVER THE INPUT: true; the input reads as it did. -/
def deltaPartsSpec : ChangeSpec := { name := "deltaParts", fn := fun _ => fun
  | [d1, d2] => { results := [.lit (.bool true)], args := [d1, d2] }
  | _ => none }
def deltaPartsRow : OpenClaim := { program := "ytmcbpopeinabcaa", sum := "4e591156c9fc9090ad5591614e9b2738cce57e9171011070557a2d52217216a2", func := "tripwire/tripwirelaw10.DeltaParts", spec := "deltaParts", inPlace := ["internal/bytealg.abigen_runtime_cmpstring"], unfollowed := true, recurses := true, plainKeys := false, apart := false }
def DeltaPartsSaid : Prop := deltaPartsRow.holds Try.pinned (OpenSpec.ofChange deltaPartsSpec)

/-- ITS FALSE NEIGHBOUR: 'it returns false'. Refute it at one input. -/
def deltaPartsWrong : ChangeSpec := { name := "deltaParts", fn := fun _ => fun
  | [d1, d2] => { results := [.lit (.bool false)], args := [d1, d2] }
  | _ => none }
def DeltaPartsWrongFalsely : Prop := deltaPartsRow.holds Try.pinned (OpenSpec.ofChange deltaPartsWrong)

/-- 'tripwirelaw10.DeltaTracks': WHATEVER THE INPUT: true; the input reads as it did. -/
def deltaTracksSpec : ChangeSpec := { name := "deltaTracks", fn := fun _ => fun
  | [d] => { results := [.lit (.bool true)], args := [d] }
  | _ => none }
def deltaTracksRow : OpenClaim := { program := "ytmcbpopeinabcaa", sum := "4e591156c9fc9090ad5591614e9b2738cce57e9171011070557a2d52217216a2", func := "tripwire/tripwirelaw10.DeltaTracks", spec := "deltaTracks", inPlace := ["internal/bytealg.abigen_runtime_cmpstring"], unfollowed := true, recurses := true, plainKeys := false, apart := false }
def DeltaTracksSaid : Prop := deltaTracksRow.holds Try.pinned (OpenSpec.ofChange deltaTracksSpec)

/-- ITS FALSE NEIGHBOUR: 'it returns false'. Refute it at one input. -/
def deltaTracksWrong : ChangeSpec := { name := "deltaTracks", fn := fun _ => fun
  | [d] => { results := [.lit (.bool false)], args := [d] }
  | _ => none }
def DeltaTracksWrongFalsely : Prop := deltaTracksRow.holds Try.pinned (OpenSpec.ofChange deltaTracksWrong)

/-- 'tripwirelaw10.DeltaTurns': WHATEVER THE INPUT: true; the input reads as it did. -/
def deltaTurnsSpec : ChangeSpec := { name := "deltaTurns", fn := fun _ => fun
  | [d] => { results := [.lit (.bool true)], args := [d] }
  | _ => none }
def deltaTurnsRow : OpenClaim := { program := "ytmcbpopeinabcaa", sum := "4e591156c9fc9090ad5591614e9b2738cce57e9171011070557a2d52217216a2", func := "tripwire/tripwirelaw10.DeltaTurns", spec := "deltaTurns", inPlace := ["internal/bytealg.abigen_runtime_cmpstring"], unfollowed := true, recurses := true, plainKeys := false, apart := false }
def DeltaTurnsSaid : Prop := deltaTurnsRow.holds Try.pinned (OpenSpec.ofChange deltaTurnsSpec)

/-- ITS FALSE NEIGHBOUR: 'it returns false'. Refute it at one input. -/
def deltaTurnsWrong : ChangeSpec := { name := "deltaTurns", fn := fun _ => fun
  | [d] => { results := [.lit (.bool false)], args := [d] }
  | _ => none }
def DeltaTurnsWrongFalsely : Prop := deltaTurnsRow.holds Try.pinned (OpenSpec.ofChange deltaTurnsWrong)

/- THE SECOND FORM. 'bulk': how many values and letters a reading holds, each counted each time it is reached (what is shared counts as often as it is met; a slice's spare places count too). A statement '..UptoSaid' is the law's where the arguments, and the package variables that the reading takes, are together of bulk at most 1048576: NARROWER than '..Said'. Prove '..Said' where nothing that the law and all that it calls make is longer than what came in: it says more and counts as full. Else prove '..UptoSaid'. A law counts once. -/
mutual
def uptoBulk {H : Type} : DataW H → Nat
  | .lit (.string bytes) => bytes.length + 1
  | .lit _ => 1
  | .nil => 1
  | .ptr d => uptoBulk d + 1
  | .slice elems spare => uptoBulkAll elems + uptoBulkAll spare + 1
  | .agg parts => uptoBulkAll parts + 1
  | .iface _ d => uptoBulk d + 1
  | .map entries => uptoBulkEntries entries + 1
  | .held _ => 1
def uptoBulkAll {H : Type} : List (DataW H) → Nat
  | [] => 0
  | d :: r => uptoBulk d + uptoBulkAll r
def uptoBulkEntries {H : Type} : List (Lit × DataW H) → Nat
  | [] => 0
  | x :: r => uptoBulkEntry x + uptoBulkEntries r
def uptoBulkEntry {H : Type} : Lit × DataW H → Nat
  | (.string bytes, d) => bytes.length + uptoBulk d + 1
  | (_, d) => uptoBulk d + 1
 end
def uptoSmall : (H : Type) → List (DataW H) → Bool := fun _ ds => decide (uptoBulkAll ds ≤ 1048576)
def OpenSpec.upto (s : _root_.Go.ChangeSpec) : _root_.Go.OpenSpec := { _root_.Go.OpenSpec.ofChange s with cond := some uptoSmall }

/-- 'tripwirelaw10.DeltaNets', WHERE WHAT IT READS IS OF BULK AT MOST 1048576: true; the input reads as it did. -/
def deltaNetsUptoRow : OpenClaim := { program := "ytmcbpopeinabcaa", sum := "4e591156c9fc9090ad5591614e9b2738cce57e9171011070557a2d52217216a2", func := "tripwire/tripwirelaw10.DeltaNets", spec := "deltaNets", inPlace := ["internal/bytealg.abigen_runtime_cmpstring"], unfollowed := true, recurses := true, plainKeys := false, apart := false, narrowed := true }
def DeltaNetsUptoSaid : Prop := deltaNetsUptoRow.holds Try.pinned (OpenSpec.upto deltaNetsSpec)

/-- 'tripwirelaw10.DeltaSnaps', WHERE WHAT IT READS IS OF BULK AT MOST 1048576: true; the input reads as it did. -/
def deltaSnapsUptoRow : OpenClaim := { program := "ytmcbpopeinabcaa", sum := "4e591156c9fc9090ad5591614e9b2738cce57e9171011070557a2d52217216a2", func := "tripwire/tripwirelaw10.DeltaSnaps", spec := "deltaSnaps", inPlace := ["internal/bytealg.abigen_runtime_cmpstring"], unfollowed := true, recurses := true, plainKeys := false, apart := false, narrowed := true }
def DeltaSnapsUptoSaid : Prop := deltaSnapsUptoRow.holds Try.pinned (OpenSpec.upto deltaSnapsSpec)

/-- 'tripwirelaw10.DeltaParts', WHERE WHAT IT READS IS OF BULK AT MOST 1048576: true; the input reads as it did. -/
def deltaPartsUptoRow : OpenClaim := { program := "ytmcbpopeinabcaa", sum := "4e591156c9fc9090ad5591614e9b2738cce57e9171011070557a2d52217216a2", func := "tripwire/tripwirelaw10.DeltaParts", spec := "deltaParts", inPlace := ["internal/bytealg.abigen_runtime_cmpstring"], unfollowed := true, recurses := true, plainKeys := false, apart := false, narrowed := true }
def DeltaPartsUptoSaid : Prop := deltaPartsUptoRow.holds Try.pinned (OpenSpec.upto deltaPartsSpec)

/-- 'tripwirelaw10.DeltaTracks', WHERE WHAT IT READS IS OF BULK AT MOST 1048576: true; the input reads as it did. -/
def deltaTracksUptoRow : OpenClaim := { program := "ytmcbpopeinabcaa", sum := "4e591156c9fc9090ad5591614e9b2738cce57e9171011070557a2d52217216a2", func := "tripwire/tripwirelaw10.DeltaTracks", spec := "deltaTracks", inPlace := ["internal/bytealg.abigen_runtime_cmpstring"], unfollowed := true, recurses := true, plainKeys := false, apart := false, narrowed := true }
def DeltaTracksUptoSaid : Prop := deltaTracksUptoRow.holds Try.pinned (OpenSpec.upto deltaTracksSpec)

/-- 'tripwirelaw10.DeltaTurns', WHERE WHAT IT READS IS OF BULK AT MOST 1048576: true; the input reads as it did. -/
def deltaTurnsUptoRow : OpenClaim := { program := "ytmcbpopeinabcaa", sum := "4e591156c9fc9090ad5591614e9b2738cce57e9171011070557a2d52217216a2", func := "tripwire/tripwirelaw10.DeltaTurns", spec := "deltaTurns", inPlace := ["internal/bytealg.abigen_runtime_cmpstring"], unfollowed := true, recurses := true, plainKeys := false, apart := false, narrowed := true }
def DeltaTurnsUptoSaid : Prop := deltaTurnsUptoRow.holds Try.pinned (OpenSpec.upto deltaTurnsSpec)

end Rows
end Go.Proofs.Ytmcbpopeinabcaa
