/-
  A text's key read byte by byte: what each step of a reader leaves to be read. Of no program.
-/
import Derived.Test.YtedlohapoafkjaaDoorKeyL
namespace Go.Proofs.YtedlohapoafkjaaDoor
open Go

/-- What a reader that has 'acc' makes of what is left, j bytes behind the beginning. -/
def left (acc : List UInt8) (j : Nat) (l : List UInt8) : Option (List UInt8 × Nat) :=
  (readT l).bind fun p => if (acc ++ p.1).length ≤ 24 then some (acc ++ p.1, p.2 + j) else none

theorem left_end (acc : List UInt8) (j : Nat) (l : List UInt8) (h : l.length ≤ 1) : left acc j l = none := by
  match l, h with
  | [], _ => rfl
  | [_], _ => rfl

theorem left_full (acc : List UInt8) (j : Nat) (c : UInt8) (o : Option (List UInt8 × Nat)) (k : Nat) (h : 24 ≤ acc.length) :
    ((o.map fun p => (c :: p.1, p.2 + k)).bind fun p => if (acc ++ p.1).length ≤ 24 then some (acc ++ p.1, p.2 + j) else none) = none := by
  cases o with
  | none => rfl
  | some p =>
    rw [Option.map_some, Option.bind_some, if_neg]
    simp; omega

theorem left_step (acc : List UInt8) (j : Nat) (c : UInt8) (o : Option (List UInt8 × Nat)) (k : Nat) :
    ((o.map fun p => (c :: p.1, p.2 + k)).bind fun p => if (acc ++ p.1).length ≤ 24 then some (acc ++ p.1, p.2 + j) else none) =
      o.bind fun p => if ((acc ++ [c]) ++ p.1).length ≤ 24 then some ((acc ++ [c]) ++ p.1, p.2 + (j + k)) else none := by
  cases o with
  | none => rfl
  | some p =>
    rw [Option.map_some, Option.bind_some, Option.bind_some]
    simp only [List.append_assoc, List.singleton_append]
    rw [show p.2 + k + j = p.2 + (j + k) by omega]

theorem left_ne {acc : List UInt8} {j : Nat} {a b : UInt8} {l : List UInt8} (h : ¬ a = 0) : left acc j (a :: b :: l) = left (acc ++ [a]) (j + 1) (b :: l) := by
  unfold left
  rw [readT]
  have : (a == 0) = false := by simpa using h
  rw [this]
  exact left_step acc j a _ 1

theorem left_ne_full {acc : List UInt8} {j : Nat} {a b : UInt8} {l : List UInt8} (h : ¬ a = 0) (hf : 24 ≤ acc.length) : left acc j (a :: b :: l) = none := by
  unfold left
  rw [readT]
  have : (a == 0) = false := by simpa using h
  rw [this]
  exact left_full acc j a _ 1 hf

theorem left_one {acc : List UInt8} {j : Nat} {l : List UInt8} (h : acc.length ≤ 24) : left acc j (0 :: 1 :: l) = some (acc, j + 2) := by
  unfold left
  rw [readT]
  simp [h]
  omega

theorem left_one_long {acc : List UInt8} {j : Nat} {l : List UInt8} (h : ¬ acc.length ≤ 24) : left acc j (0 :: 1 :: l) = none := by
  unfold left
  rw [readT]
  simp; omega

theorem left_bad {acc : List UInt8} {j : Nat} {b : UInt8} {l : List UInt8} (h1 : ¬ b = 1) (h2 : ¬ b = 255) : left acc j (0 :: b :: l) = none := by
  unfold left
  rw [readT]
  simp [h1, h2]

theorem left_ff {acc : List UInt8} {j : Nat} {l : List UInt8} : left acc j (0 :: 255 :: l) = left (acc ++ [0]) (j + 2) l := by
  unfold left
  rw [readT]
  exact left_step acc j 0 _ 2

theorem left_ff_full {acc : List UInt8} {j : Nat} {l : List UInt8} (hf : 24 ≤ acc.length) : left acc j (0 :: 255 :: l) = none := by
  unfold left
  rw [readT]
  exact left_full acc j 0 _ 2 hf

/-- A list from a place on, byte by byte. -/
theorem drop_two (s : ByteArray) (j : Nat) (h : j + 1 < s.size) : s.data.toList.drop j = s[j] :: s[j + 1] :: s.data.toList.drop (j + 2) := by
  have h1 : j < s.data.toList.length := by show j < s.size; omega
  have h2 : j + 1 < s.data.toList.length := h
  rw [List.drop_eq_getElem_cons h1, List.drop_eq_getElem_cons h2]
  rfl

theorem drop_one (s : ByteArray) (j : Nat) (h : j < s.size) : s.data.toList.drop j = s[j] :: s.data.toList.drop (j + 1) := by
  have h1 : j < s.data.toList.length := h
  rw [List.drop_eq_getElem_cons h1]
  rfl

/-- The value that is read, and the key's length. -/
def readV (l : List UInt8) : Int × Int × List UInt8 := match readL l with | some p => p.1 | none => (0, 0, [])
def readN (l : List UInt8) : Nat := match readL l with | some p => p.2 | none => 0

theorem read_text (l : List UInt8) : readL (3 :: l) = (left [] 1 l).map fun p => ((3, 0, p.1), p.2) := by
  unfold left
  show (readT l).bind _ = _
  cases readT l with
  | none => rfl
  | some p =>
    simp only [Option.bind_some, List.nil_append]
    split <;> rfl
end Go.Proofs.YtedlohapoafkjaaDoor
