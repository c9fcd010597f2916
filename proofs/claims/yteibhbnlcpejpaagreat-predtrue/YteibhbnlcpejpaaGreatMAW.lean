import Derived.Test.YteibhbnlcpejpaaGreatMAC
import Derived.Lib.ItoaNum
import Derived.Test.YteibhbnlcpejpaaGreatMAG
import Derived.Deep.RegionWith
import Derived.Laws.IdiomStrings
namespace Go.Proofs.YteibhbnlcpejpaaGreat
open Go
end Go.Proofs.YteibhbnlcpejpaaGreat
namespace Go.Proofs.YteibhbnlcpejpaaGreat
open Go.RowKit
theorem dig_below_on {a b c: World} (h: Below a.heap.size a b) (k: Below b.heap.size b c): Below a.heap.size a c := h.trans (k.mono h.size)
end Go.Proofs.YteibhbnlcpejpaaGreat
