/-
  What two values make: joined, number and Reckon of package value, and the document's Reckon.
-/
import Derived.Test.YtcgpcigablefhaaGreatDoorValueD
import Derived.Test.YtcgpcigablefhaaGreatDoorValueE
namespace Go.Proofs.YtcgpcigablefhaaGreatDoor
open Go.RowKit

/-- The number that an operation makes. -/
def opI (op : ByteArray) (m n : Int) : Int := if op.toList == [43] then m + n else if op.toList == [45] then m - n else m * n

/-- The value and the error's number where both are texts. -/
def catV (s t : ByteArray) : Value := if s.size + t.size ≤ 24 then valV 3 0 (s ++ t) else valV 0 0 ⟨#[]⟩
def catE (s t : ByteArray) : Int := if s.size + t.size ≤ 24 then 0 else 8

def knownR (op : ByteArray) : Bool := op.toList == [43] || op.toList == [45] || op.toList == [42]

/-- What Reckon answers: the error's number and the value. -/
def reckE (op : ByteArray) (k n : Int) (s : ByteArray) (k' n' : Int) (s' : ByteArray) : Int :=
  if !knownR op || !rightB k n s || !rightB k' n' s' then 15 else if k == 0 || k' == 0 then 0
  else if op.toList == [43] && k == 3 && k' == 3 then catE s s' else if k != 2 || k' != 2 then 4 else if fits (opI op n n') then 0 else 7
def reckV (op : ByteArray) (k n : Int) (s : ByteArray) (k' n' : Int) (s' : ByteArray) : Value :=
  if !knownR op || !rightB k n s || !rightB k' n' s' then valV 0 0 ⟨#[]⟩ else if k == 0 || k' == 0 then valV 0 0 ⟨#[]⟩
  else if op.toList == [43] && k == 3 && k' == 3 then catV s s' else if k != 2 || k' != 2 then valV 0 0 ⟨#[]⟩ else if fits (opI op n n') then valV 2 (opI op n n') ⟨#[]⟩ else valV 0 0 ⟨#[]⟩

/-- The world with two values boxed, and a third one that is zero. -/
def box3 (w : World) (k n : Int) (s : ByteArray) (k' n' : Int) (s' : ByteArray) : World := (box2 w k n s k' n' s').alloc (.cells #[.int .i64 0, .int .i64 0, .string ⟨#[]⟩] 42)

theorem box3_size (w : World) (k n : Int) (s : ByteArray) (k' n' : Int) (s' : ByteArray) : (box2 w k n s k' n' s').heap.size = w.heap.size + 1 + 1 := by simp [box2]

theorem boxed3 (w : World) (k n : Int) (s : ByteArray) (k' n' : Int) (s' : ByteArray) : Boxed (box3 w k n s k' n' s') w.heap.size k n s ∧ Boxed (box3 w k n s k' n' s') (w.heap.size + 1) k' n' s' ∧ Boxed (box3 w k n s k' n' s') (w.heap.size + 1 + 1) 0 0 ⟨#[]⟩ :=
  ⟨(boxed_fst w k n s k' n' s').below (below_alloc _ _), (boxed_snd w k n s k' n' s').below (below_alloc _ _), by
    refine ⟨?_, ?_, ?_, ?_⟩ <;> simp [box3, box2, go_sem]⟩

/-- A block whose three cells can be written. -/
def Free3 (w : World) (p : Nat) : Prop := p < w.heap.size ∧ w.frozen? ⟨p, 0, none⟩ = false ∧ w.frozen? ⟨p, 1, none⟩ = false ∧ w.frozen? ⟨p, 2, none⟩ = false

theorem Free3.below {w w' : World} {p : Nat} (h : Free3 w p) (hb : Below w.heap.size w w') : Free3 w' p := by
  obtain ⟨h0, h1, h2, h3⟩ := h
  exact ⟨Nat.lt_of_lt_of_le h0 hb.size, by rw [hb.frozen h0]; exact h1, by rw [hb.frozen h0]; exact h2, by rw [hb.frozen h0]; exact h3⟩

theorem free3 (w : World) (k n : Int) (s : ByteArray) (k' n' : Int) (s' : ByteArray) : Free3 (box3 w k n s k' n' s') (w.heap.size + 1 + 1) := by
  refine ⟨?_, ?_, ?_, ?_⟩ <;> simp [box3, box2, go_sem]

theorem below_box3 (w : World) (k n : Int) (s : ByteArray) (k' n' : Int) (s' : ByteArray) : Below w.heap.size w (box3 w k n s k' n' s') :=
  below_on (below_box2 w k n s k' n' s') (below_alloc _ _)

theorem below_store3 {w w1 : World} (hb : Below w.heap.size w w1) (x y z : Value) :
    Below w.heap.size w (((w1.setCell ⟨w.heap.size + 1 + 1, 0, none⟩ x).setCell ⟨w.heap.size + 1 + 1, 1, none⟩ y).setCell ⟨w.heap.size + 1 + 1, 2, none⟩ z) :=
  ((hb.setCell (by simp; omega) _).setCell (by simp; omega) _).setCell (by simp; omega) _

theorem right3 {n : Int} {s : ByteArray} (h : rightB 3 n s = true) : s.size ≤ 24 := by
  simp [rightB] at h; exact h.2

end Go.Proofs.YtcgpcigablefhaaGreatDoor
