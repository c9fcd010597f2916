/-
  NARROWER THAN 'FOR EVERY INPUT', by the rows' own cells (each row's printed sentence says how): CheckExprs: loops · PredPlays: loops · PredTrue: loops · AlphaPlays: loops · AlphaHas: loops.
  DERIVED. THE GIVEN ROWS OF THIS SEAT. 5 by the template 'for every input the law returns true; each argument reads behind the call as it read before'; 0 by the template 'total and deterministic' (their statements: YteibhbnlcpejpaaGreatTotals.lean).
  GIVEN WITH THE SEED: the statements are not yours to turn. If you find one false, say at which input.
  Laid BY PROGRAM, IN A SANDBOX (cutbox-rows.mjs): the forced cells as the released guide's own fill.sh prints them over the translation f709a2171659f62e… (all of the seat's roots in one cut). By AI agents, Wed Nov 11 2026. No macro, syntax, notation, axiom, sorry.
-/
import Derived.Test.YteibhbnlcpejpaaGreatChecked
import GoSem.Claim
import GoSem.ClaimJoined
import GoSem.ClaimMapViews
import Derived.JoinedTies
import Derived.KernelRfl
namespace Go.Proofs.YteibhbnlcpejpaaGreat
/- THE CELL 'sum', in the pinned program and in every row, IS THE sha256 OF THE DUMP (.gsa) THAT YteibhbnlcpejpaaGreatProg.lean LOADS. Nothing in Lean hashes anything: it is a label: what it is worth is what the hold of that sum in a sandbox is worth. -/
noncomputable def Tryz.pinned : Pinned := { name := "yteibhbnlcpejpaagreat", sum := "f709a2171659f62e73ed6db0bc8cb2227fb384c4f3fabbc5130b3bc269727a2b", checked := Tryz.checked }
namespace Rows
def none {H : Type} : Left H := { results := [], args := [] }

/-- 'tripwirelaw15.CheckExprs': WHATEVER THE INPUT: true; the input reads as it did. -/
def checkExprsSpec : ChangeSpec := { name := "checkExprs", fn := fun _ => fun
  | [d1, d2] => { results := [.lit (.bool true)], args := [d1, d2] }
  | _ => none }
def checkExprsRow : OpenClaim := { program := "yteibhbnlcpejpaagreat", sum := "f709a2171659f62e73ed6db0bc8cb2227fb384c4f3fabbc5130b3bc269727a2b", func := "tripwire/tripwirelaw15.CheckExprs", spec := "checkExprs", unfollowed := true, recurses := true, loops := true, apart := false }
def CheckExprsSaid : Prop := checkExprsRow.holds Tryz.pinned (OpenSpec.ofChange checkExprsSpec)

/-- ITS FALSE NEIGHBOUR: 'it returns false'. Refute it at one input. -/
def checkExprsWrong : ChangeSpec := { name := "checkExprs", fn := fun _ => fun
  | [d1, d2] => { results := [.lit (.bool false)], args := [d1, d2] }
  | _ => none }
def CheckExprsWrongFalsely : Prop := checkExprsRow.holds Tryz.pinned (OpenSpec.ofChange checkExprsWrong)

/-- 'tripwirelaw17.PredPlays': WHATEVER THE INPUT: true; the input reads as it did. -/
def predPlaysSpec : ChangeSpec := { name := "predPlays", fn := fun _ => fun
  | [d] => { results := [.lit (.bool true)], args := [d] }
  | _ => none }
def predPlaysRow : OpenClaim := { program := "yteibhbnlcpejpaagreat", sum := "f709a2171659f62e73ed6db0bc8cb2227fb384c4f3fabbc5130b3bc269727a2b", func := "tripwire/tripwirelaw17.PredPlays", spec := "predPlays", unfollowed := true, recurses := true, loops := true, apart := false }
def PredPlaysSaid : Prop := predPlaysRow.holds Tryz.pinned (OpenSpec.ofChange predPlaysSpec)

/-- ITS FALSE NEIGHBOUR: 'it returns false'. Refute it at one input. -/
def predPlaysWrong : ChangeSpec := { name := "predPlays", fn := fun _ => fun
  | [d] => { results := [.lit (.bool false)], args := [d] }
  | _ => none }
def PredPlaysWrongFalsely : Prop := predPlaysRow.holds Tryz.pinned (OpenSpec.ofChange predPlaysWrong)

/-- 'tripwirelaw17.PredTrue': WHATEVER THE INPUT: true; the input reads as it did. -/
def predTrueSpec : ChangeSpec := { name := "predTrue", fn := fun _ => fun
  | [d1, d2, d3] => { results := [.lit (.bool true)], args := [d1, d2, d3] }
  | _ => none }
def predTrueRow : OpenClaim := { program := "yteibhbnlcpejpaagreat", sum := "f709a2171659f62e73ed6db0bc8cb2227fb384c4f3fabbc5130b3bc269727a2b", func := "tripwire/tripwirelaw17.PredTrue", spec := "predTrue", unfollowed := true, recurses := true, loops := true, apart := false }
def PredTrueSaid : Prop := predTrueRow.holds Tryz.pinned (OpenSpec.ofChange predTrueSpec)

/-- ITS FALSE NEIGHBOUR: 'it returns false'. Refute it at one input. -/
def predTrueWrong : ChangeSpec := { name := "predTrue", fn := fun _ => fun
  | [d1, d2, d3] => { results := [.lit (.bool false)], args := [d1, d2, d3] }
  | _ => none }
def PredTrueWrongFalsely : Prop := predTrueRow.holds Tryz.pinned (OpenSpec.ofChange predTrueWrong)

/-- 'tripwirelaw18.AlphaPlays': WHATEVER THE INPUT: true; the input reads as it did. -/
def alphaPlaysSpec : ChangeSpec := { name := "alphaPlays", fn := fun _ => fun
  | [d] => { results := [.lit (.bool true)], args := [d] }
  | _ => none }
def alphaPlaysRow : OpenClaim := { program := "yteibhbnlcpejpaagreat", sum := "f709a2171659f62e73ed6db0bc8cb2227fb384c4f3fabbc5130b3bc269727a2b", func := "tripwire/tripwirelaw18.AlphaPlays", spec := "alphaPlays", unfollowed := true, recurses := true, loops := true, apart := false }
def AlphaPlaysSaid : Prop := alphaPlaysRow.holds Tryz.pinned (OpenSpec.ofChange alphaPlaysSpec)

/-- ITS FALSE NEIGHBOUR: 'it returns false'. Refute it at one input. -/
def alphaPlaysWrong : ChangeSpec := { name := "alphaPlays", fn := fun _ => fun
  | [d] => { results := [.lit (.bool false)], args := [d] }
  | _ => none }
def AlphaPlaysWrongFalsely : Prop := alphaPlaysRow.holds Tryz.pinned (OpenSpec.ofChange alphaPlaysWrong)

/-- 'tripwirelaw18.AlphaHas': WHATEVER THE INPUT: true; the input reads as it did. -/
def alphaHasSpec : ChangeSpec := { name := "alphaHas", fn := fun _ => fun
  | [d1, d2, d3] => { results := [.lit (.bool true)], args := [d1, d2, d3] }
  | _ => none }
def alphaHasRow : OpenClaim := { program := "yteibhbnlcpejpaagreat", sum := "f709a2171659f62e73ed6db0bc8cb2227fb384c4f3fabbc5130b3bc269727a2b", func := "tripwire/tripwirelaw18.AlphaHas", spec := "alphaHas", unfollowed := true, recurses := true, loops := true, apart := false }
def AlphaHasSaid : Prop := alphaHasRow.holds Tryz.pinned (OpenSpec.ofChange alphaHasSpec)

/-- ITS FALSE NEIGHBOUR: 'it returns false'. Refute it at one input. -/
def alphaHasWrong : ChangeSpec := { name := "alphaHas", fn := fun _ => fun
  | [d1, d2, d3] => { results := [.lit (.bool false)], args := [d1, d2, d3] }
  | _ => none }
def AlphaHasWrongFalsely : Prop := alphaHasRow.holds Tryz.pinned (OpenSpec.ofChange alphaHasWrong)

/- THE SECOND FORM. 'bulk': how many values and letters a reading holds, each counted each time it is reached (what is shared counts as often as it is met; a slice's spare places count too). A statement '..UptoSaid' is the law's where the arguments, and the package variables that the reading takes, are together of bulk at most 1048576: NARROWER than '..Said'. Prove '..Said' where nothing that the law and all that it calls make is longer than what came in: it says more and counts as full. Else prove '..UptoSaid'. A law counts once. -/
mutual
def uptoBulk {H : Type} : DataW H → Nat
  | .lit (.string bytes) => bytes.length + 1
  | .lit _ => 1
  | .nil => 1
  | .ptr d => uptoBulk d + 1
  | .slice elems spare => uptoBulkAll elems + uptoBulkAll spare + 1
  | .agg parts => uptoBulkAll parts + 1
  | .iface _ d => uptoBulk d + 1
  | .map entries => uptoBulkEntries entries + 1
  | .held _ => 1
def uptoBulkAll {H : Type} : List (DataW H) → Nat
  | [] => 0
  | d :: r => uptoBulk d + uptoBulkAll r
def uptoBulkEntries {H : Type} : List (Lit × DataW H) → Nat
  | [] => 0
  | x :: r => uptoBulkEntry x + uptoBulkEntries r
def uptoBulkEntry {H : Type} : Lit × DataW H → Nat
  | (.string bytes, d) => bytes.length + uptoBulk d + 1
  | (_, d) => uptoBulk d + 1
 end
def uptoSmall : (H : Type) → List (DataW H) → Bool := fun _ ds => decide (uptoBulkAll ds ≤ 1048576)
def OpenSpec.upto (s : _root_.Go.ChangeSpec) : _root_.Go.OpenSpec := { _root_.Go.OpenSpec.ofChange s with cond := some uptoSmall }

/-- 'tripwirelaw15.CheckExprs', WHERE WHAT IT READS IS OF BULK AT MOST 1048576: true; the input reads as it did. -/
def checkExprsUptoRow : OpenClaim := { program := "yteibhbnlcpejpaagreat", sum := "f709a2171659f62e73ed6db0bc8cb2227fb384c4f3fabbc5130b3bc269727a2b", func := "tripwire/tripwirelaw15.CheckExprs", spec := "checkExprs", unfollowed := true, recurses := true, loops := true, apart := false, narrowed := true }
def CheckExprsUptoSaid : Prop := checkExprsUptoRow.holds Tryz.pinned (OpenSpec.upto checkExprsSpec)

/-- 'tripwirelaw17.PredPlays', WHERE WHAT IT READS IS OF BULK AT MOST 1048576: true; the input reads as it did. -/
def predPlaysUptoRow : OpenClaim := { program := "yteibhbnlcpejpaagreat", sum := "f709a2171659f62e73ed6db0bc8cb2227fb384c4f3fabbc5130b3bc269727a2b", func := "tripwire/tripwirelaw17.PredPlays", spec := "predPlays", unfollowed := true, recurses := true, loops := true, apart := false, narrowed := true }
def PredPlaysUptoSaid : Prop := predPlaysUptoRow.holds Tryz.pinned (OpenSpec.upto predPlaysSpec)

/-- 'tripwirelaw17.PredTrue', WHERE WHAT IT READS IS OF BULK AT MOST 1048576: true; the input reads as it did. -/
def predTrueUptoRow : OpenClaim := { program := "yteibhbnlcpejpaagreat", sum := "f709a2171659f62e73ed6db0bc8cb2227fb384c4f3fabbc5130b3bc269727a2b", func := "tripwire/tripwirelaw17.PredTrue", spec := "predTrue", unfollowed := true, recurses := true, loops := true, apart := false, narrowed := true }
def PredTrueUptoSaid : Prop := predTrueUptoRow.holds Tryz.pinned (OpenSpec.upto predTrueSpec)

/-- 'tripwirelaw18.AlphaPlays', WHERE WHAT IT READS IS OF BULK AT MOST 1048576: true; the input reads as it did. -/
def alphaPlaysUptoRow : OpenClaim := { program := "yteibhbnlcpejpaagreat", sum := "f709a2171659f62e73ed6db0bc8cb2227fb384c4f3fabbc5130b3bc269727a2b", func := "tripwire/tripwirelaw18.AlphaPlays", spec := "alphaPlays", unfollowed := true, recurses := true, loops := true, apart := false, narrowed := true }
def AlphaPlaysUptoSaid : Prop := alphaPlaysUptoRow.holds Tryz.pinned (OpenSpec.upto alphaPlaysSpec)

/-- 'tripwirelaw18.AlphaHas', WHERE WHAT IT READS IS OF BULK AT MOST 1048576: true; the input reads as it did. -/
def alphaHasUptoRow : OpenClaim := { program := "yteibhbnlcpejpaagreat", sum := "f709a2171659f62e73ed6db0bc8cb2227fb384c4f3fabbc5130b3bc269727a2b", func := "tripwire/tripwirelaw18.AlphaHas", spec := "alphaHas", unfollowed := true, recurses := true, loops := true, apart := false, narrowed := true }
def AlphaHasUptoSaid : Prop := alphaHasUptoRow.holds Tryz.pinned (OpenSpec.upto alphaHasSpec)

end Rows
end Go.Proofs.YteibhbnlcpejpaaGreat
