/-
  How two values stand: cmp.Compare of strings, cmp.Or of three numbers, Order of package value, and the document's Order.
-/
import Derived.Laws.Cover1
import Derived.Test.YtcgpcigablefhaaGreatDoorValueB
import Derived.Test.YtcgpcigablefhaaGreatDoorQuietTail
import Derived.Test.YtcgpcigablefhaaGreatDoorShelf
namespace Go.Proofs.YtcgpcigablefhaaGreatDoor
open Go.RowKit

def or3 (x y z : Int) : Int := if x == 0 then (if y == 0 then z else y) else x

/-- How two texts stand, by their bytes. -/
def cmpS (s t : ByteArray) : Int := if Op.bytesLess s.toList t.toList then -1 else if s.toList == t.toList then 0 else 1

/-- How two values stand: by the kind, then the number, then the text. -/
def ordI (k n : Int) (s : ByteArray) (k' n' : Int) (s' : ByteArray) : Int := or3 (Lib.compareInt k k') (Lib.compareInt n n') (cmpS s s')

theorem below_drewN {B : Nat} {a w : World} (h : Below B a w) (n : Nat) : Below B a (w.drewN n) := ⟨h.os, h.tape, h.output, h.size, h.block⟩

theorem bytesLess_lt (x : List UInt8) : ∀ y, Op.bytesLess x y = decide (x < y) := by
  induction x with
  | nil => intro y; cases y <;> simp [Op.bytesLess]
  | cons a x ih =>
    intro y
    cases y with
    | nil => simp [Op.bytesLess]
    | cons b y =>
      rw [Op.bytesLess, ih, Bool.eq_iff_iff]
      simp [List.cons_lt_cons_iff]

theorem bytesLess_irrefl (l : List UInt8) : Op.bytesLess l l = false := by
  rw [bytesLess_lt]; exact decide_eq_false (List.lt_irrefl l)

end Go.Proofs.YtcgpcigablefhaaGreatDoor
