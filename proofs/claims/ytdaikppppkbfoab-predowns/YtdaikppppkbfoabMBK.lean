import Derived.Test.YtdaikppppkbfoabMBA
import Derived.Test.YtdaikppppkbfoabMBB
import Derived.Test.YtdaikppppkbfoabMBC
import Derived.Test.YtdaikppppkbfoabMBJ
import Derived.Test.YtdaikppppkbfoabMAN
namespace Go.Proofs.Ytdaikppppkbfoab
open Go.RowKit
def allStep (t: Int × Int) (r: Bool × Int): Bool × Int := if t.2 == 0 then (if t.1 == 1 then r else (false,0)) else (false,t.2)
def allN (n: Nat) (rs: List RowL): List NL -> Bool × Int
 | [] => (true,0)
 | x :: l => allStep (trE (evN n rs x)) (allN n rs l)
theorem drop_at {α: Type} {l: List α} {j: Nat} {x: α} (h: l[j]? = some x): l.drop j = x :: l.drop (j + 1) := by
 obtain ⟨hj,e⟩ := List.getElem?_eq_some_iff.1 h
 rw [List.drop_eq_getElem_cons hj,e]
theorem allN_at {n: Nat} {rs: List RowL} {l: List NL} {j: Nat} {x: NL} (h: l[j]? = some x): allN n rs (l.drop j) = allStep (trE (evN n rs x)) (allN n rs (l.drop (j + 1))) := by
 rw [drop_at h]; rfl
theorem allStep_err {t: Int × Int} {r: Bool × Int} (h: (t.2 != 0) = true): allStep t r = (false,t.2) := by
 unfold allStep; rw [if_neg (by simpa using h)]
theorem allStep_no {t: Int} {r: Bool × Int} (h: (t != 1) = true): allStep (t,0) r = (false,0) := by
 show (if t == 1 then r else (false,0)) = _
 rw [if_neg (by simpa using h)]
theorem allStep_yes {t: Int} {r: Bool × Int} (h: (t != 1) = false): allStep (t,0) r = r := by
 show (if t == 1 then r else (false,0)) = _
 rw [if_pos (by simpa using h)]
end Go.Proofs.Ytdaikppppkbfoab
