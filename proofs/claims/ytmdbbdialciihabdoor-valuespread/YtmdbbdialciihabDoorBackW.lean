/-
  The walk of ValueBack.
-/
import Derived.Test.YtmdbbdialciihabDoorValueF
import Derived.Deep.RegionWith
import Derived.Deep.DeepCutAuto
namespace Go.Proofs.YtmdbbdialciihabDoor
open Go.RowKit

/-- What is made of a number that may be too great: the value's kind, its number; the error's number. -/
def nk (v : Int) : Int := if fits v then 2 else 0
def nn (v : Int) : Int := if fits v then v else 0
def ne (v : Int) : Int := if fits v then 0 else 7

theorem reckon_num (op : ByteArray) (a b v : Int) (hk : knownR op = true) (ho : opI op a b = v) (ha : fits a = true) (hb : fits b = true) (w : World) :
    Calls Tryd.prog 6 #[.string op, valV 2 a ⟨#[]⟩, valV 2 b ⟨#[]⟩] w fun e w' => e = .returned (.tuple #[valV (nk v) (nn v) ⟨#[]⟩, .int .i64 (ne v)]) ∧ Below w.heap.size w w' := by
  refine (reckon_walk op 2 a ⟨#[]⟩ 2 b ⟨#[]⟩ ha hb w).mono ?_
  rintro e w' ⟨rfl, h⟩
  subst ho
  refine ⟨?_, h⟩
  cases hf : fits (opI op a b)
  · simp [reckV, reckE, hk, right_int, nk, nn, ne, hf]
  · simp [reckV, reckE, hk, right_int, nk, nn, ne, hf]

theorem known_plus : knownR ⟨#[43]⟩ = true := by simp [knownR, ByteArray.toList_eq]
theorem known_minus : knownR ⟨#[45]⟩ = true := by simp [knownR, ByteArray.toList_eq]
theorem known_times : knownR ⟨#[42]⟩ = true := by simp [knownR, ByteArray.toList_eq]
theorem op_plus (a b : Int) : opI ⟨#[43]⟩ a b = a + b := by simp [opI, ByteArray.toList_eq]
theorem op_minus (a b : Int) : opI ⟨#[45]⟩ a b = a - b := by simp [opI, ByteArray.toList_eq]
theorem op_times (a b : Int) : opI ⟨#[42]⟩ a b = a * b := by simp [opI, ByteArray.toList_eq]

theorem below_drew (w : World) : Below w.heap.size w w.drew := (Below.refl _ _).drew

theorem boxed_new (w : World) (k n : Int) (s : ByteArray) (t : TypeId) : Boxed (w.alloc (.cells #[.int .i64 k, .int .i64 n, .string s] t)) w.heap.size k n s := by
  refine ⟨?_, ?_, ?_, ?_⟩ <;> simp [go_sem]

theorem size_new (w : World) (o : Obj) : (w.alloc o).heap.size = w.heap.size + 1 := by simp

theorem free_new (w : World) (k n : Int) (s : ByteArray) (t : TypeId) : Free3 (w.alloc (.cells #[.int .i64 k, .int .i64 n, .string s] t)) w.heap.size := by
  refine ⟨?_, ?_, ?_, ?_⟩ <;> simp [go_sem]

theorem boxed_store {w : World} {p : Nat} {k n : Int} {s : ByteArray} (h : Boxed w p k n s) (k' n' : Int) (s' : ByteArray) :
    Boxed (((w.setCell ⟨p, 0, none⟩ (.int .i64 k')).setCell ⟨p, 1, none⟩ (.int .i64 n')).setCell ⟨p, 2, none⟩ (.string s')) p k' n' s' := by
  obtain ⟨h0, h1, h2, h3⟩ := h
  refine ⟨?_, ?_, ?_, ?_⟩ <;> simp [go_sem, h0, h1, h2, h3]

theorem below_store {w w1 : World} (hb : Below w.heap.size w w1) {p : Nat} (hp : w.heap.size ≤ p) (x y z : Value) :
    Below w.heap.size w (((w1.setCell ⟨p, 0, none⟩ x).setCell ⟨p, 1, none⟩ y).setCell ⟨p, 2, none⟩ z) :=
  ((hb.setCell hp _).setCell hp _).setCell hp _

end Go.Proofs.YtmdbbdialciihabDoor
