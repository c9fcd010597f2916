/-
  DeltaParts: its walk, at every number of a byte.
-/
import Derived.Test.YtbeilgikmikonaaDlS
import Derived.Test.YtbeilgikmikonaaDlR
namespace Go.Proofs.Ytbeilgikmikonaa
open Go.RowKit

theorem parts_law {l : List OpD} {a : Option Addr} {n c : Nat} {z : Int} {w : World} (h : OpsIn w a l) (hl : l.length = n) (hz : (Lit.int .u8 z).wf = true) :
    Calls Try.prog 5 #[.slice a n c, .int .u8 z] w fun e w' => e = .returned (.bool true) ∧ Below w.heap.size w w' := by
  obtain ⟨m, rfl, hm⟩ := nat8 hz
  exact parts_walk h hl hm
end Go.Proofs.Ytbeilgikmikonaa
