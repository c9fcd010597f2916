/-
  Values: num, Of, Truth, Right of package value and the document's Right. Each returns what a Lean function of the arguments says; what lay below stands.
-/
import Derived.WalkKit
import Derived.Below
import Derived.Test.YtfokllgfejcehaaDoorProg
namespace Go.Proofs.YtfokllgfejcehaaDoor
open Go.RowKit

/-- A value, by its kind, its number and its text. -/
def valV (k n : Int) (s : ByteArray) : Value := .agg #[.int .i64 k, .int .i64 n, .string s]

def rightB (k n : Int) (s : ByteArray) : Bool :=
  if k == 0 then n == 0 && s.size == 0
  else if k == 1 then (n == 0 || n == 1) && s.size == 0
  else if k == 2 then s.size == 0
  else k == 3 && n == 0 && decide (s.size ≤ 24)

def ofV (a : Int) : Value := if a == 0 then valV 1 0 ⟨#[]⟩ else if a == 1 then valV 1 1 ⟨#[]⟩ else valV 0 0 ⟨#[]⟩

/-- A truth's number, and the error's. -/
def truthT (k n : Int) : Int := if k == 0 then 2 else if k == 1 && n == 0 then 0 else if k == 1 && n == 1 then 1 else 0
def truthE (k n : Int) : Int := if k == 0 then 0 else if k == 1 && n == 0 then 0 else if k == 1 && n == 1 then 0 else 4

theorem below_alloc (w : World) (o : Obj) : Below w.heap.size w (w.alloc o) := (Below.refl _ _).alloc (Nat.le_refl _) o

theorem toList_isEmpty (s : ByteArray) : s.toList.isEmpty = (s.size == 0) := by
  rw [ByteArray.toList_eq, ByteArray.size, ← Array.length_toList]
  cases s.data.toList <;> simp

theorem size_beq (s : ByteArray) : ((s.size : Int) == 0) = (s.size == 0) := by
  rw [Bool.eq_iff_iff]; simp

end Go.Proofs.YtfokllgfejcehaaDoor
