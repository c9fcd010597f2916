import Derived.Lib.Replace
import Derived.Lib.ReplaceLaws
import Derived.Lib.IndexBytes
import Derived.Lib.SplitLaws
namespace Go.Proofs.YteibhbnlcpejpaaGreat
open Go
end Go.Proofs.YteibhbnlcpejpaaGreat
