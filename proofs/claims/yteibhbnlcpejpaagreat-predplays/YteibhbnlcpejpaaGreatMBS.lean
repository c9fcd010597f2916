import Derived.Test.YteibhbnlcpejpaaGreatMBQ
import Derived.Test.YteibhbnlcpejpaaGreatMBR
set_option maxRecDepth 100000
set_option maxHeartbeats 4000000
namespace Go.Proofs.YteibhbnlcpejpaaGreat
open Go.RowKit
def argV: Value := .int .i64 15
theorem padd_nil (w: World) (id: Int) (a b: Option Addr) (n c l d: Nat): Calls Tryz.prog 26 #[.pointer none, .int .i64 id, .agg #[.slice a n c, .slice b l d]] w fun e w' => e = .returned argV /\ Below w.heap.size w w' := by
 go_enter Tryz.func26,Tryz.ntmps26
 go_wp2
 go_ret
 exact ⟨rfl,Rw.below_alloc _ _⟩
theorem pcut_nil (w: World) (id: Int): Calls Tryz.prog 28 #[.pointer none, .int .i64 id] w fun e w' => e = .returned argV /\ Below w.heap.size w w' := by
 go_enter Tryz.func28,Tryz.ntmps28
 go_wp2
 go_ret
 exact ⟨rfl,Below.refl _ _⟩
theorem pmatch_nil (w: World) (a: Option Addr) (n c: Nat): Calls Tryz.prog 29 #[.pointer none, .slice a n c] w fun e w' => e = .returned (.slice none 0 0) /\ Below w.heap.size w w' := by
 go_enter Tryz.func29,Tryz.ntmps29
 go_wp2
 go_ret
 exact ⟨rfl,Below.refl _ _⟩
theorem plen_nil (w: World): Calls Tryz.prog 31 #[.pointer none] w fun e w' => e = .returned (.int .i64 0) /\ Below w.heap.size w w' := by
 go_enter Tryz.func31,Tryz.ntmps31
 go_wp2
 go_ret
 exact ⟨rfl,Below.refl _ _⟩
end Go.Proofs.YteibhbnlcpejpaaGreat
