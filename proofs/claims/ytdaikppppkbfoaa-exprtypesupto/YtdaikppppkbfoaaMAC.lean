import Derived.Lib.Replace
import Derived.Lib.ReplaceLaws
import Derived.Lib.IndexBytes
import Derived.Lib.SplitLaws
namespace Go.Proofs.Ytdaikppppkbfoaa
open Go
end Go.Proofs.Ytdaikppppkbfoaa
