/-
  What strings.ReplaceAll makes of a text at one byte, byte by byte; the text between quotes. Of no program.
-/
import Derived.Lib.Replace
import Derived.Lib.ReplaceLaws
import Derived.Lib.IndexBytes
import Derived.Lib.SplitLaws
namespace Go.Proofs.YtenpmialamffmaaDoor
open Go

def each (c : UInt8) (new : List UInt8) (l : List UInt8) : List UInt8 := l.flatMap fun b => if b == c then new else [b]

theorem each_cons_eq (c : UInt8) (new l : List UInt8) : each c new (c :: l) = new ++ each c new l := by simp [each]
theorem each_cons_ne {b c : UInt8} (h : ¬ b = c) (new l : List UInt8) : each c new (b :: l) = b :: each c new l := by simp [each, h]

theorem replaceK_each (c : UInt8) (new : List UInt8) (l : List UInt8) : Lib.replaceK [c] new (Lib.count l [c]) l = each c new l := by
  induction l with
  | nil => rw [Lib.count_one]; rfl
  | cons b l ih =>
    by_cases h : b = c
    · subst h
      rw [Lib.count_cons_eq, Nat.add_comm, Lib.replaceK_hit [b] new _ _ 0 (by simp [Lib.index]), each_cons_eq, ← ih]
      simp
    · rw [Lib.count_cons_ne _ _ _ h, each_cons_ne h, ← ih]
      cases hk : Lib.count l [c] with
      | zero => rfl
      | succ k =>
        obtain ⟨i, hi⟩ := Lib.index_of_count (s := l) (old := [c]) (by omega)
        have hj : Lib.index (b :: l) [c] = ((i + 1 : Nat) : Int) := by
          have hp : ¬ c = b := fun e => h e.symm
          simp [Lib.index, hi, hp]
        rw [Lib.replaceK_hit [c] new k (b :: l) (i + 1) hj, Lib.replaceK_hit [c] new k l i hi]
        simp

theorem replaceAll_each (c : UInt8) (new l : List UInt8) (h : ([c] == new) = false) : Lib.replaceAll l [c] new = each c new l := by
  have hn : Lib.replaceNum l [c] (-1) = Lib.count l [c] := by simp [Lib.replaceNum]
  rw [Lib.replaceAll, Lib.replace, h, hn]
  exact replaceK_each c new l

theorem each_length (c : UInt8) (new l : List UInt8) (h : new.length ≤ 2) : (each c new l).length ≤ 2 * l.length := by
  induction l with
  | nil => simp [each]
  | cons b l ih =>
    by_cases e : b = c
    · subst e; rw [each_cons_eq]; simp; omega
    · rw [each_cons_ne e]; simp; omega

/-- A text between single quotes, each of its quotes doubled. -/
def quoteB (s : ByteArray) : ByteArray := ⟨#[39]⟩ ++ ⟨(each 39 [39, 39] s.data.toList).toArray⟩ ++ ⟨#[39]⟩

theorem quote_repl (s : ByteArray) : quoteB s = ⟨#[39]⟩ ++ ⟨(Lib.replaceAll s.data.toList [39] [39, 39]).toArray⟩ ++ ⟨#[39]⟩ := by
  rw [quoteB, replaceAll_each 39 [39, 39] _ (by decide)]

theorem repl_length (s : ByteArray) : (Lib.replaceAll s.data.toList [39] [39, 39]).length ≤ 2 * s.size := by
  rw [replaceAll_each 39 [39, 39] _ (by decide)]
  exact each_length 39 [39, 39] s.data.toList (by decide)

theorem count_fits (s : ByteArray) (hs : s.size ≤ 2147483647) : s.size + Lib.countB s ⟨#[39]⟩ * (ByteArray.mk #[39, 39]).size ≤ 140737488355328 := by
  have h1 : 1 ≤ (ByteArray.mk #[39]).size := by decide
  have h := Lib.countB_le (ByteArray.mk #[39]) h1 s.size s (Nat.le_refl _)
  have h2 : (ByteArray.mk #[39, 39]).size = 2 := by decide
  rw [h2]; omega
end Go.Proofs.YtenpmialamffmaaDoor
