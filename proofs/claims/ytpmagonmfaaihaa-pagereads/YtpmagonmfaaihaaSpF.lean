/-
  The document's side and Cut.
-/
import Derived.Test.YtpmagonmfaaihaaSpC
namespace Go.Proofs.Ytpmagonmfaaihaa
open Go.RowKit

theorem weigh_wts (m : Nat) (l : List ByteArray) : weigh l + m * l.length = (wts (4 + m) l).sum := by
  induction l with
  | nil => simp [weigh, wts]
  | cons s l ih =>
    unfold weigh wts at ih ⊢
    simp only [List.map_cons, List.sum_cons, List.length_cons]
    rw [Nat.mul_add]
    omega

theorem weigh_take (m : Nat) (l : List ByteArray) (k : Nat) (hk : k ≤ l.length) : weigh (l.take k) + m * k = sumN (4 + m) l k := by
  have := weigh_wts m (l.take k)
  rw [List.length_take, Nat.min_eq_left hk] at this
  rw [this]
  unfold sumN wts
  rw [List.map_take]

theorem weigh_drop (m : Nat) (l : List ByteArray) (k : Nat) : weigh (l.drop k) + m * (l.length - k) = (wts (4 + m) l).sum - sumN (4 + m) l k := by
  have := weigh_wts m (l.drop k)
  rw [List.length_drop] at this
  rw [this]
  have h := sum_parts (wts (4 + m) l) k
  unfold sumN
  have e : wts (4 + m) (l.drop k) = (wts (4 + m) l).drop k := by unfold wts; rw [List.map_drop]
  rw [e]
  omega

/-- How heavy the heavier side is; -1: one of them has nothing. -/
def sideI (n : No) (k : Nat) : Int := if n.leaf then (heavy 4 0 n.recs k : Int) else if k + 1 < n.recs.length then (heavy 8 1 n.recs k : Int) else -1

end Go.Proofs.Ytpmagonmfaaihaa
