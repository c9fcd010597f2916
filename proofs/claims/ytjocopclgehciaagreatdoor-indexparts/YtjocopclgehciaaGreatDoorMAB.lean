/-
  What strings.ReplaceAll makes of a text at one byte, byte by byte; the text between quotes. Of no program.
-/
import Derived.Lib.Replace
import Derived.Lib.ReplaceLaws
import Derived.Lib.IndexBytes
import Derived.Lib.SplitLaws
import Derived.WalkKit
import Derived.Below
import Derived.Test.YtjocopclgehciaaGreatDoorProg
import Derived.Laws.Bits64b
import Derived.Deep.OwnRows
import Derived.Lib.LazyBuf
import Derived.Laws.IdiomStrings
import Derived.Test.YtjocopclgehciaaGreatDoorMAA
import Derived.Test.YtjocopclgehciaaGreatDoorShelf
namespace Go.Proofs.YtjocopclgehciaaGreatDoor.L3
open Go

def each (c : UInt8) (new : List UInt8) (l : List UInt8) : List UInt8 := l.flatMap fun b => if b == c then new else [b]

theorem each_cons_eq (c : UInt8) (new l : List UInt8) : each c new (c :: l) = new ++ each c new l := by simp [each]
theorem each_cons_ne {b c : UInt8} (h : ¬ b = c) (new l : List UInt8) : each c new (b :: l) = b :: each c new l := by simp [each, h]

theorem replaceK_each (c : UInt8) (new : List UInt8) (l : List UInt8) : Lib.replaceK [c] new (Lib.count l [c]) l = each c new l := by
  induction l with
  | nil => rw [Lib.count_one]; rfl
  | cons b l ih =>
    by_cases h : b = c
    · subst h
      rw [Lib.count_cons_eq, Nat.add_comm, Lib.replaceK_hit [b] new _ _ 0 (by simp [Lib.index]), each_cons_eq, ← ih]
      simp
    · rw [Lib.count_cons_ne _ _ _ h, each_cons_ne h, ← ih]
      cases hk : Lib.count l [c] with
      | zero => rfl
      | succ k =>
        obtain ⟨i, hi⟩ := Lib.index_of_count (s := l) (old := [c]) (by omega)
        have hj : Lib.index (b :: l) [c] = ((i + 1 : Nat) : Int) := by
          have hp : ¬ c = b := fun e => h e.symm
          simp [Lib.index, hi, hp]
        rw [Lib.replaceK_hit [c] new k (b :: l) (i + 1) hj, Lib.replaceK_hit [c] new k l i hi]
        simp

theorem replaceAll_each (c : UInt8) (new l : List UInt8) (h : ([c] == new) = false) : Lib.replaceAll l [c] new = each c new l := by
  have hn : Lib.replaceNum l [c] (-1) = Lib.count l [c] := by simp [Lib.replaceNum]
  rw [Lib.replaceAll, Lib.replace, h, hn]
  exact replaceK_each c new l

theorem each_length (c : UInt8) (new l : List UInt8) (h : new.length ≤ 2) : (each c new l).length ≤ 2 * l.length := by
  induction l with
  | nil => simp [each]
  | cons b l ih =>
    by_cases e : b = c
    · subst e; rw [each_cons_eq]; simp; omega
    · rw [each_cons_ne e]; simp; omega

/-- A text between single quotes, each of its quotes doubled. -/
def quoteB (s : ByteArray) : ByteArray := ⟨#[39]⟩ ++ ⟨(each 39 [39, 39] s.data.toList).toArray⟩ ++ ⟨#[39]⟩

theorem quote_repl (s : ByteArray) : quoteB s = ⟨#[39]⟩ ++ ⟨(Lib.replaceAll s.data.toList [39] [39, 39]).toArray⟩ ++ ⟨#[39]⟩ := by
  rw [quoteB, replaceAll_each 39 [39, 39] _ (by decide)]

theorem repl_length (s : ByteArray) : (Lib.replaceAll s.data.toList [39] [39, 39]).length ≤ 2 * s.size := by
  rw [replaceAll_each 39 [39, 39] _ (by decide)]
  exact each_length 39 [39, 39] s.data.toList (by decide)

theorem count_fits (s : ByteArray) (hs : s.size ≤ 2147483647) : s.size + Lib.countB s ⟨#[39]⟩ * (ByteArray.mk #[39, 39]).size ≤ 140737488355328 := by
  have h1 : 1 ≤ (ByteArray.mk #[39]).size := by decide
  have h := Lib.countB_le (ByteArray.mk #[39]) h1 s.size s (Nat.le_refl _)
  have h2 : (ByteArray.mk #[39, 39]).size = 2 := by decide
  rw [h2]; omega
end Go.Proofs.YtjocopclgehciaaGreatDoor.L3
/-
  Numbers as bytes, texts as keys: the plain mathematics of keys. Of no program.
-/
namespace Go.Proofs.YtjocopclgehciaaGreatDoor.L3
open Go

/-- The last n bytes of a number, the highest first. -/
def beL : Nat → Nat → List UInt8
  | 0, _ => []
  | n + 1, u => beL n (u / 256) ++ [UInt8.ofNat (u % 256)]

/-- The number of bytes, the highest first. -/
def number (l : List UInt8) : Nat := l.foldl (fun a c => a * 256 + c.toNat) 0

theorem number_back (l : List UInt8) (c : UInt8) : number (l ++ [c]) = number l * 256 + c.toNat := by simp [number]

theorem beL_length (n : Nat) : ∀ u, (beL n u).length = n := by
  induction n with
  | zero => intro u; rfl
  | succ n ih => intro u; simp [beL, ih]

theorem byte_toNat (u : Nat) (h : u < 256) : (UInt8.ofNat u).toNat = u := by
  rw [UInt8.toNat_ofNat']; omega

theorem number_beL (n : Nat) : ∀ u, number (beL n u) = u % 256 ^ n := by
  induction n with
  | zero => intro u; simp [beL, number]; omega
  | succ n ih =>
    intro u
    rw [beL, number_back, ih, byte_toNat _ (Nat.mod_lt _ (by decide)), Nat.pow_succ, Nat.mul_comm (256 ^ n) 256, Nat.mod_mul]
    omega

theorem beL_number (l : List UInt8) : beL l.length (number l) = l := by
  suffices h : ∀ n (l : List UInt8), l.length = n → beL n (number l) = l from h _ l rfl
  intro n
  induction n with
  | zero => intro l h; rw [List.length_eq_zero_iff.1 h]; rfl
  | succ n ih =>
    intro l h
    have hne : l ≠ [] := by intro e; rw [e] at h; cases h
    obtain ⟨l', c, rfl⟩ : ∃ l' c, l = l' ++ [c] := ⟨l.dropLast, l.getLast hne, (List.dropLast_concat_getLast hne).symm⟩
    have hl : l'.length = n := by simpa using h
    rw [number_back, beL]
    have hc := c.toNat_lt
    have h1 : (number l' * 256 + c.toNat) / 256 = number l' := by omega
    have h2 : (number l' * 256 + c.toNat) % 256 = c.toNat := by omega
    rw [h1, h2, ih l' hl, UInt8.ofNat_toNat]

theorem foldl_number (l : List UInt8) : ∀ a, l.foldl (fun a c => a * 256 + c.toNat) a = a * 256 ^ l.length + number l := by
  induction l with
  | nil => intro a; simp [number]
  | cons c l ih =>
    intro a
    have hc : number (c :: l) = c.toNat * 256 ^ l.length + number l := by
      show List.foldl (fun a c => a * 256 + c.toNat) 0 (c :: l) = _
      rw [List.foldl_cons, ih]; simp
    rw [List.foldl_cons, ih, hc, List.length_cons, Nat.pow_succ]
    rw [Nat.add_mul, Nat.mul_assoc, Nat.mul_comm 256 (256 ^ l.length), Nat.add_assoc]

theorem number_cons (c : UInt8) (l : List UInt8) : number (c :: l) = c.toNat * 256 ^ l.length + number l := by
  rw [number, List.foldl_cons, foldl_number]; simp

theorem number_lt (l : List UInt8) : number l < 256 ^ l.length := by
  induction l with
  | nil => simp [number]
  | cons c l ih =>
    rw [number_cons, List.length_cons, Nat.pow_succ, Nat.mul_comm (256 ^ l.length)]
    have hc := c.toNat_lt
    have : (c.toNat + 1) * 256 ^ l.length ≤ 256 * 256 ^ l.length := Nat.mul_le_mul_right _ (by omega)
    rw [Nat.add_mul, Nat.one_mul] at this
    omega

theorem lt_number (l : List UInt8) : ∀ l' : List UInt8, l.length = l'.length → (l < l' ↔ number l < number l') := by
  induction l with
  | nil => intro l' h; have : l' = [] := List.length_eq_zero_iff.1 h.symm; subst this; simp [number]
  | cons c l ih =>
    intro l' h
    cases l' with
    | nil => cases h
    | cons d l' =>
      have hl : l.length = l'.length := by simpa using h
      rw [List.cons_lt_cons_iff, ih l' hl, number_cons, number_cons, hl]
      have h1 := number_lt l
      have h2 := number_lt l'
      rw [hl] at h1
      rw [UInt8.lt_iff_toNat_lt, ← UInt8.toNat_inj]
      generalize hp : 256 ^ l'.length = p at *
      constructor
      · rintro (h3 | ⟨h3, h4⟩)
        · have : (c.toNat + 1) * p ≤ d.toNat * p := Nat.mul_le_mul_right _ h3
          rw [Nat.add_mul, Nat.one_mul] at this
          omega
        · rw [h3]; omega
      · intro h3
        rcases Nat.lt_trichotomy c.toNat d.toNat with h4 | h4 | h4
        · exact Or.inl h4
        · exact Or.inr ⟨h4, by rw [h4] at h3; omega⟩
        · have : (d.toNat + 1) * p ≤ c.toNat * p := Nat.mul_le_mul_right _ h4
          rw [Nat.add_mul, Nat.one_mul] at this
          omega

/-- Eight bytes of numbers below 2^64 stand as the numbers. -/
theorem eight_lt (u v : Nat) (hu : u < 18446744073709551616) (hv : v < 18446744073709551616) : beL 8 u < beL 8 v ↔ u < v := by
  rw [lt_number _ _ (by rw [beL_length, beL_length]), number_beL, number_beL]
  have : (256 : Nat) ^ 8 = 18446744073709551616 := by decide
  rw [this, Nat.mod_eq_of_lt hu, Nat.mod_eq_of_lt hv]

theorem eight_inj (u v : Nat) (hu : u < 18446744073709551616) (hv : v < 18446744073709551616) (h : beL 8 u = beL 8 v) : u = v := by
  have := congrArg number h
  have h8 : (256 : Nat) ^ 8 = 18446744073709551616 := by decide
  rwa [number_beL, number_beL, h8, Nat.mod_eq_of_lt hu, Nat.mod_eq_of_lt hv] at this

/-- A text's key, behind its first byte. -/
def textK (l : List UInt8) : List UInt8 := each 0 [0, 255] l ++ [0, 1]

theorem textK_nil : textK [] = [0, 1] := rfl
theorem textK_zero (l : List UInt8) : textK (0 :: l) = 0 :: 255 :: textK l := by simp [textK, each_cons_eq]
theorem textK_cons {b : UInt8} (h : ¬ b = 0) (l : List UInt8) : textK (b :: l) = b :: textK l := by simp [textK, each_cons_ne h]

theorem byte_pos {b : UInt8} (h : ¬ b = 0) : (0 : UInt8) < b := by
  rw [UInt8.lt_iff_toNat_lt]
  have : b.toNat ≠ 0 := fun e => h (UInt8.toNat_inj.1 (by simpa using e))
  simp; omega

theorem textK_lt (l : List UInt8) : ∀ l' : List UInt8, textK l < textK l' ↔ l < l' := by
  induction l with
  | nil =>
    intro l'
    cases l' with
    | nil => simp [textK]
    | cons b l' =>
      by_cases h : b = 0
      · subst h; rw [textK_zero, textK_nil]; simp [List.cons_lt_cons_iff]
      · rw [textK_cons h, textK_nil]; simp [List.cons_lt_cons_iff, byte_pos h]
  | cons a l ih =>
    intro l'
    cases l' with
    | nil =>
      by_cases h : a = 0
      · subst h; rw [textK_zero, textK_nil]; simp [List.cons_lt_cons_iff]
      · rw [textK_cons h, textK_nil]
        have := byte_pos h
        simp [List.cons_lt_cons_iff, h]
    | cons b l' =>
      by_cases h : a = 0 <;> by_cases h' : b = 0
      · subst h; subst h'
        rw [textK_zero, textK_zero]; simp [ih]
      · subst h
        rw [textK_zero, textK_cons h']
        simp [List.cons_lt_cons_iff, byte_pos h']
      · subst h'
        rw [textK_zero, textK_cons h]
        simp [List.cons_lt_cons_iff, h]
      · rw [textK_cons h, textK_cons h', List.cons_lt_cons_iff, List.cons_lt_cons_iff, ih]

/-- The text with whose key (behind the first byte) l begins, and the key's length. -/
def readT : List UInt8 → Option (List UInt8 × Nat)
  | a :: b :: l =>
    if a == 0 then
      if b == 1 then some ([], 2) else if b == 255 then (readT l).map fun p => (0 :: p.1, p.2 + 2) else none
    else (readT (b :: l)).map fun p => (a :: p.1, p.2 + 1)
  | _ => none

theorem readT_key (l : List UInt8) : ∀ more, readT (textK l ++ more) = some (l, (textK l).length) := by
  induction l with
  | nil => intro more; simp [textK_nil, readT]
  | cons a l ih =>
    intro more
    by_cases h : a = 0
    · subst h
      rw [textK_zero]
      simp [readT, ih]
    · rw [textK_cons h]
      cases hk : textK l with
      | nil => exact absurd hk (by simp [textK])
      | cons c k =>
        have := ih more
        rw [hk] at this
        simp only [List.cons_append] at this ⊢
        rw [readT]
        simp [h, this]

theorem key_readT (s : List UInt8) : ∀ l n, readT s = some (l, n) → ∃ more, s = textK l ++ more ∧ n = (textK l).length := by
  induction s using readT.induct with
  | case1 a b l h1 h2 =>
    intro t n h
    have ha : a = 0 := by simpa using h1
    have hb : b = 1 := by simpa using h2
    subst ha; subst hb
    rw [readT] at h
    simp at h
    obtain ⟨rfl, rfl⟩ := h
    exact ⟨l, by simp [textK_nil], rfl⟩
  | case2 a b l h1 h2 h3 ih =>
    intro t n h
    have ha : a = 0 := by simpa using h1
    have hb : b = 255 := by simpa using h3
    subst ha; subst hb
    rw [readT] at h
    simp at h
    obtain ⟨t', m, h4, rfl, rfl⟩ := h
    obtain ⟨more, e, e2⟩ := ih t' m h4
    exact ⟨more, by rw [textK_zero, e]; simp, by rw [textK_zero, e2]; simp⟩
  | case3 a b l h1 h2 h3 =>
    intro t n h
    rw [readT] at h
    simp [h1, h2, h3] at h
  | case4 a b l h1 ih =>
    intro t n h
    have ha : ¬ a = 0 := by simpa using h1
    rw [readT] at h
    simp [ha] at h
    obtain ⟨t', m, h4, rfl, rfl⟩ := h
    obtain ⟨more, e, e2⟩ := ih t' m h4
    exact ⟨more, by rw [textK_cons ha, e]; simp, by rw [textK_cons ha, e2]; simp⟩
  | case5 s h1 =>
    intro t n h
    rw [readT] at h
    · cases h
    · exact h1

/-- What is above all that begin so. -/
def nextL (l : List UInt8) : List UInt8 :=
  match l with
  | [] => []
  | c :: l => if nextL l == [] then (if c == 255 then [] else [c + 1]) else c :: nextL l

theorem succ_byte {c : UInt8} (h : ¬ c = 255) : (c + 1).toNat = c.toNat + 1 := by
  have := c.toNat_lt
  have h2 : c.toNat ≠ 255 := fun e => h (UInt8.toNat_inj.1 (by simpa using e))
  rw [UInt8.toNat_add]; simp; omega

theorem nextL_spec (s : List UInt8) : ∀ t : List UInt8, s <+: t ↔ ¬ t < s ∧ (nextL s = [] ∨ t < nextL s) := by
  induction s with
  | nil => intro t; simp [nextL]
  | cons c s ih =>
    intro t
    cases t with
    | nil => simp
    | cons d t =>
      have hd := d.toNat_lt
      have hc' := c.toNat_lt
      rw [List.cons_prefix_cons, ih t, nextL, List.cons_lt_cons_iff, UInt8.lt_iff_toNat_lt, ← UInt8.toNat_inj, ← UInt8.toNat_inj]
      by_cases hn : nextL s = []
      · by_cases hc : c = 255
        · have h255 : c.toNat = 255 := by rw [hc]; rfl
          simp only [hn, hc, beq_self_eq_true, if_true, true_or, and_true]
          rw [h255] at *
          constructor
          · rintro ⟨h1, h2⟩ (h3 | ⟨_, h3⟩)
            · have : (255 : UInt8).toNat = 255 := rfl
              omega
            · exact h2 h3
          · intro h
            have : (255 : UInt8).toNat = 255 := rfl
            exact ⟨by omega, fun h3 => h (Or.inr ⟨by omega, h3⟩)⟩
        · have hs := succ_byte hc
          have hc2 : (c == 255) = false := by simpa using hc
          simp only [hn, hc2, beq_self_eq_true, if_true, true_or, and_true, Bool.false_eq_true, if_false]
          rw [List.cons_lt_cons_iff, UInt8.lt_iff_toNat_lt, ← UInt8.toNat_inj, hs]
          simp only [List.not_lt_nil, and_false, or_false, List.cons_ne_nil, false_or]
          constructor
          · rintro ⟨h1, h2⟩
            exact ⟨fun h => h.elim (fun h => by omega) (fun h => h2 h.2), by omega⟩
          · rintro ⟨h1, h2⟩
            have : c.toNat = d.toNat := by
              have : ¬ d.toNat < c.toNat := fun h => h1 (Or.inl h)
              omega
            exact ⟨this, fun h => h1 (Or.inr ⟨this.symm, h⟩)⟩
      · have hn2 : (nextL s == []) = false := by simpa using hn
        simp only [hn2, hn, Bool.false_eq_true, if_false, false_or, List.cons_ne_nil]
        rw [List.cons_lt_cons_iff, UInt8.lt_iff_toNat_lt, ← UInt8.toNat_inj]
        constructor
        · rintro ⟨h1, h2, h3⟩
          exact ⟨fun h => h.elim (fun h => by omega) (fun h => h2 h.2), Or.inr ⟨h1.symm, h3⟩⟩
        · rintro ⟨h1, h2⟩
          rcases h2 with h2 | ⟨h2, h3⟩
          · exact absurd (Or.inl h2) h1
          · exact ⟨h2.symm, fun h => h1 (Or.inr ⟨h2, h⟩), h3⟩

/-- Where two lists part, what stands behind them doesn't count. -/
theorem lt_apart (a : List UInt8) : ∀ b x y : List UInt8, ¬ a <+: b → ¬ b <+: a → (a ++ x < b ++ y ↔ a < b) := by
  induction a with
  | nil => intro b x y h; exact absurd (List.nil_prefix) h
  | cons c a ih =>
    intro b x y h1 h2
    cases b with
    | nil => exact absurd (List.nil_prefix) h2
    | cons d b =>
      rw [List.cons_append, List.cons_append, List.cons_lt_cons_iff, List.cons_lt_cons_iff]
      by_cases e : c = d
      · subst e
        rw [List.cons_prefix_cons] at h1 h2
        rw [ih b x y (fun h => h1 ⟨rfl, h⟩) (fun h => h2 ⟨rfl, h⟩)]
      · simp [e]
end Go.Proofs.YtjocopclgehciaaGreatDoor.L3
/-
  Values: num, Of, Truth, Right of package value and the document's Right. Each returns what a Lean function of the arguments says; what lay below stands.
-/
namespace Go.Proofs.YtjocopclgehciaaGreatDoor.L3
open Go.RowKit

/-- A value, by its kind, its number and its text. -/
def valV (k n : Int) (s : ByteArray) : Value := .agg #[.int .i64 k, .int .i64 n, .string s]

def rightB (k n : Int) (s : ByteArray) : Bool :=
  if k == 0 then n == 0 && s.size == 0
  else if k == 1 then (n == 0 || n == 1) && s.size == 0
  else if k == 2 then s.size == 0
  else k == 3 && n == 0 && decide (s.size ≤ 24)

def ofV (a : Int) : Value := if a == 0 then valV 1 0 ⟨#[]⟩ else if a == 1 then valV 1 1 ⟨#[]⟩ else valV 0 0 ⟨#[]⟩

/-- A truth's number, and the error's. -/
def truthT (k n : Int) : Int := if k == 0 then 2 else if k == 1 && n == 0 then 0 else if k == 1 && n == 1 then 1 else 0
def truthE (k n : Int) : Int := if k == 0 then 0 else if k == 1 && n == 0 then 0 else if k == 1 && n == 1 then 0 else 4

theorem below_alloc (w : World) (o : Obj) : Below w.heap.size w (w.alloc o) := (Below.refl _ _).alloc (Nat.le_refl _) o

theorem toList_isEmpty (s : ByteArray) : s.toList.isEmpty = (s.size == 0) := by
  rw [ByteArray.toList_eq, ByteArray.size, ← Array.length_toList]
  cases s.data.toList <;> simp

theorem size_beq (s : ByteArray) : ((s.size : Int) == 0) = (s.size == 0) := by
  rw [Bool.eq_iff_iff]; simp

theorem right_walk (k n : Int) (s : ByteArray) (w : World) : Calls Tryz.prog 71 #[valV k n s] w fun e w' => e = .returned (.bool (rightB k n s)) ∧ Below w.heap.size w w' := by
  go_enter Tryz.func71, Tryz.ntmps71
  unfold valV
  go_wp2
  all_goals (go_ret; refine ⟨?_, below_alloc _ _⟩; simp_all [rightB, toList_isEmpty])
  omega

theorem rright_walk (k n : Int) (s : ByteArray) (w : World) : Calls Tryz.prog 36 #[valV k n s] w fun e w' => e = .returned (.bool (rightB k n s)) ∧ Below w.heap.size w w' := by
  go_enter Tryz.func36, Tryz.ntmps36
  unfold valV
  go_wp2
  all_goals (go_ret; refine ⟨?_, below_alloc _ _⟩; simp_all [rightB, size_beq])
  omega
end Go.Proofs.YtjocopclgehciaaGreatDoor.L3
/-
  A value's key as a list of bytes, what a list of bytes begins with, and what stands above: the plain laws. Of no program.
-/
namespace Go.Proofs.YtjocopclgehciaaGreatDoor.L3
open Go

def fits (x : Int) : Bool := decide (-9223372036854775808 ≤ x) && decide (x ≤ 9223372036854775807)

theorem fits_iff (x : Int) : fits x = true ↔ -9223372036854775808 ≤ x ∧ x ≤ 9223372036854775807 := by simp [fits]

/-- A number with its highest bit turned. -/
def bias (n : Int) : Nat := (n + 9223372036854775808).toNat

theorem bias_lt {n : Int} (h : fits n = true) : bias n < 18446744073709551616 := by
  rw [fits_iff] at h; unfold bias; omega

theorem bias_back {n : Int} (h : fits n = true) : (bias n : Int) - 9223372036854775808 = n := by
  rw [fits_iff] at h; unfold bias; omega

def keyL (k n : Int) (s : ByteArray) : List UInt8 :=
  if k == 1 then [1, UInt8.ofNat n.toNat] else if k == 2 then 2 :: beL 8 (bias n) else if k == 3 then 3 :: textK s.data.toList else [0]

/-- The value with whose key a list begins, and the key's length. -/
def readL : List UInt8 → Option ((Int × Int × List UInt8) × Nat)
  | [] => none
  | c :: l =>
    if c == 0 then some ((0, 0, []), 1)
    else if c == 1 then (if 1 ≤ l.length ∧ (l.getD 0 0).toNat < 2 then some ((1, ((l.getD 0 0).toNat : Int), []), 2) else none)
    else if c == 2 then (if 8 ≤ l.length then some ((2, (number (l.take 8) : Int) - 9223372036854775808, []), 9) else none)
    else if c == 3 then (readT l).bind fun p => if p.1.length ≤ 24 then some ((3, 0, p.1), p.2 + 1) else none
    else none

/-- The five kinds of right values. -/
theorem right_cases {k n : Int} {s : ByteArray} (h : rightB k n s = true) :
    (k = 0 ∧ n = 0 ∧ s = ⟨#[]⟩) ∨ (k = 1 ∧ (n = 0 ∨ n = 1) ∧ s = ⟨#[]⟩) ∨ (k = 2 ∧ s = ⟨#[]⟩) ∨ (k = 3 ∧ n = 0 ∧ s.size ≤ 24) := by
  have hl : (s.size == 0) = true → s = ⟨#[]⟩ := fun e => by
    have : s.size = 0 := by simpa using e
    apply ByteArray.ext
    exact Array.eq_empty_of_size_eq_zero this
  unfold rightB at h
  split at h
  · rename_i hk
    rw [Bool.and_eq_true, beq_iff_eq] at h
    exact Or.inl ⟨by simpa using hk, h.1, hl h.2⟩
  split at h
  · rename_i hk0 hk
    rw [Bool.and_eq_true, Bool.or_eq_true, beq_iff_eq, beq_iff_eq] at h
    exact Or.inr (Or.inl ⟨by simpa using hk, h.1, hl h.2⟩)
  split at h
  · rename_i hk
    exact Or.inr (Or.inr (Or.inl ⟨by simpa using hk, hl h⟩))
  · simp only [Bool.and_eq_true, beq_iff_eq, decide_eq_true_eq] at h
    exact Or.inr (Or.inr (Or.inr ⟨h.1.1, h.1.2, h.2⟩))

theorem number_eight {u : Nat} (h : u < 18446744073709551616) : number (beL 8 u) = u := by
  have h8 : (256 : Nat) ^ 8 = 18446744073709551616 := by decide
  rw [number_beL, h8, Nat.mod_eq_of_lt h]

theorem read_key {k n : Int} {s : ByteArray} (h : rightB k n s = true) (hn : fits n = true) (more : List UInt8) :
    readL (keyL k n s ++ more) = some ((k, n, s.data.toList), (keyL k n s).length) := by
  rcases right_cases h with ⟨rfl, rfl, rfl⟩ | ⟨rfl, rfl | rfl, rfl⟩ | ⟨rfl, rfl⟩ | ⟨rfl, rfl, hs⟩
  · rfl
  · rfl
  · rfl
  · have e : keyL 2 n ⟨#[]⟩ = 2 :: beL 8 (bias n) := rfl
    have h1 : (beL 8 (bias n) ++ more).take 8 = beL 8 (bias n) := by
      rw [List.take_append_of_le_length (by rw [beL_length]; omega), List.take_of_length_le (by rw [beL_length]; omega)]
    have h2 : 8 ≤ (beL 8 (bias n) ++ more).length := by rw [List.length_append, beL_length]; omega
    have h3 : ((2 : UInt8) == 0) = false := rfl
    have h4 : ((2 : UInt8) == 1) = false := rfl
    rw [e, List.cons_append, readL, h3, h4]
    simp only [Bool.false_eq_true, if_false, beq_self_eq_true, if_true]
    rw [if_pos h2, h1, number_eight (bias_lt hn), bias_back hn, List.length_cons, beL_length]
  · have e : keyL 3 0 s = 3 :: textK s.data.toList := rfl
    have h3 : ((3 : UInt8) == 0) = false := rfl
    have h4 : ((3 : UInt8) == 1) = false := rfl
    have h5 : ((3 : UInt8) == 2) = false := rfl
    rw [e, List.cons_append, readL, h3, h4, h5, readT_key]
    simp only [Bool.false_eq_true, if_false, beq_self_eq_true, if_true, Option.bind_some]
    rw [if_pos (by simpa using hs), List.length_cons]

theorem key_read {l : List UInt8} {k n : Int} {t : List UInt8} {m : Nat} (h : readL l = some ((k, n, t), m)) :
    rightB k n ⟨t.toArray⟩ = true ∧ fits n = true ∧ m = (keyL k n ⟨t.toArray⟩).length ∧ ∃ more, l = keyL k n ⟨t.toArray⟩ ++ more := by
  cases l with
  | nil => cases h
  | cons c l =>
    rw [readL] at h
    split at h
    · rename_i hc
      have hc : c = 0 := by simpa using hc
      subst hc
      simp only [Option.some.injEq, Prod.mk.injEq] at h
      obtain ⟨⟨rfl, rfl, rfl⟩, rfl⟩ := h
      exact ⟨rfl, rfl, rfl, l, rfl⟩
    split at h
    · rename_i _ hc
      have hc : c = 1 := by simpa using hc
      subst hc
      split at h
      · rename_i hd
        obtain ⟨h1, h2⟩ := hd
        simp only [Option.some.injEq, Prod.mk.injEq] at h
        obtain ⟨⟨rfl, rfl, rfl⟩, rfl⟩ := h
        cases l with
        | nil => simp at h1
        | cons d l =>
          simp only [List.getD_cons_zero] at h2 ⊢
          have hd : d.toNat = 0 ∨ d.toNat = 1 := by omega
          have hd' : d = 0 ∨ d = 1 := by
            rcases hd with hd | hd
            · exact Or.inl (UInt8.toNat_inj.1 (by simpa using hd))
            · exact Or.inr (UInt8.toNat_inj.1 (by simpa using hd))
          rcases hd' with rfl | rfl
          · exact ⟨rfl, rfl, rfl, l, rfl⟩
          · exact ⟨rfl, rfl, rfl, l, rfl⟩
      · cases h
    split at h
    · rename_i _ _ hc
      have hc : c = 2 := by simpa using hc
      subst hc
      split at h
      · rename_i h8
        simp only [Option.some.injEq, Prod.mk.injEq] at h
        obtain ⟨⟨rfl, rfl, rfl⟩, rfl⟩ := h
        have hl : (l.take 8).length = 8 := by rw [List.length_take]; omega
        have hlt := number_lt (l.take 8)
        have hp : (256 : Nat) ^ 8 = 18446744073709551616 := by decide
        rw [hl, hp] at hlt
        have hb : bias ((number (l.take 8) : Int) - 9223372036854775808) = number (l.take 8) := by unfold bias; omega
        have hk : keyL 2 ((number (l.take 8) : Int) - 9223372036854775808) ⟨[].toArray⟩ = 2 :: l.take 8 := by
          show 2 :: beL 8 (bias _) = _
          rw [hb]
          have := beL_number (l.take 8)
          rw [hl] at this
          rw [this]
        refine ⟨rfl, ?_, ?_, l.drop 8, ?_⟩
        · rw [fits_iff]; omega
        · rw [hk, List.length_cons, hl]
        · rw [hk, List.cons_append, List.take_append_drop]
      · cases h
    split at h
    · rename_i _ _ _ hc
      have hc : c = 3 := by simpa using hc
      subst hc
      cases hr : readT l with
      | none => rw [hr] at h; cases h
      | some p =>
        obtain ⟨t', m'⟩ := p
        rw [hr, Option.bind_some] at h
        split at h
        · rename_i ht
          simp only [Option.some.injEq, Prod.mk.injEq] at h
          obtain ⟨⟨rfl, rfl, rfl⟩, rfl⟩ := h
          obtain ⟨more, e1, e2⟩ := key_readT _ _ _ hr
          refine ⟨?_, rfl, ?_, more, ?_⟩
          · have : (ByteArray.mk t'.toArray).size ≤ 24 := ht
            simp [rightB, this]
          · rw [e2]; rfl
          · rw [e1]; rfl
        · cases h
    · cases h

/-- A key is a beginning of another one, whatever stands behind, just if the values are one. -/
theorem key_prefix {k n : Int} {s : ByteArray} {k' n' : Int} {s' : ByteArray} (h : rightB k n s = true) (hn : fits n = true) (h' : rightB k' n' s' = true) (hn' : fits n' = true) (more : List UInt8) :
    keyL k n s <+: keyL k' n' s' ++ more ↔ k = k' ∧ n = n' ∧ s.data.toList = s'.data.toList := by
  constructor
  · rintro ⟨r, e⟩
    have h1 := read_key h hn r
    rw [e, read_key h' hn' more] at h1
    simp only [Option.some.injEq, Prod.mk.injEq] at h1
    exact ⟨h1.1.1.symm, h1.1.2.1.symm, h1.1.2.2.symm⟩
  · rintro ⟨rfl, rfl, e⟩
    refine ⟨more, ?_⟩
    unfold keyL
    rw [e]

theorem nextL_none {r : List UInt8} (h : ∀ b ∈ r, b = 255) : nextL r = [] := by
  induction r with
  | nil => rfl
  | cons c r ih =>
    have hc : c = 255 := h c (by simp)
    subst hc
    rw [nextL, ih (fun b hb => h b (by simp [hb]))]
    rfl

theorem nextL_at {c : UInt8} (hc : ¬ c = 255) {r : List UInt8} (h : ∀ b ∈ r, b = 255) (l : List UInt8) : nextL (l ++ c :: r) = l ++ [c + 1] := by
  induction l with
  | nil =>
    have hc' : (c == 255) = false := by simpa using hc
    rw [List.nil_append, nextL, nextL_none h, hc']
    rfl
  | cons d l ih =>
    rw [List.cons_append, nextL, ih]
    have : (l ++ [c + 1] == []) = false := by
      rw [beq_eq_false_iff_ne]; simp
    rw [this]
    rfl

theorem key_next (k n : Int) (s : ByteArray) : nextL (keyL k n s) ≠ [] := by
  have : ∃ c l, keyL k n s = c :: l ∧ ¬ c = 255 := by
    unfold keyL
    split
    · exact ⟨_, _, rfl, by decide⟩
    split
    · exact ⟨_, _, rfl, by decide⟩
    split
    · exact ⟨_, _, rfl, by decide⟩
    · exact ⟨_, _, rfl, by decide⟩
  obtain ⟨c, l, e, hc⟩ := this
  rw [e, nextL]
  have hc' : (c == 255) = false := by simpa using hc
  rw [hc']
  split <;> simp
end Go.Proofs.YtjocopclgehciaaGreatDoor.L3
/-
  A byte set behind a number by 'or', and the highest bit turned by 'xor'. Of no program.
-/
namespace Go.Proofs.YtjocopclgehciaaGreatDoor.L3
open Go

theorem or_byte (x c : Nat) (hx : x < 72057594037927936) (hc : c < 256) : bits .or .u64 ((x : Int) * 256) (c : Int) = ((x * 256 + c : Nat) : Int) := by
  have h2 : (x : Int) * 256 = ((x * 256 : Nat) : Int) := by omega
  rw [h2, bits_or_u64_nat _ _ (by omega) (by omega)]
  have h3 := Nat.two_pow_add_eq_or_of_lt (i := 8) (b := c) (by omega) x
  have h4 : (2 : Nat) ^ 8 * x = x * 256 := by omega
  rw [h4] at h3
  rw [h3]

theorem xor_top (a : Nat) (ha : a < 18446744073709551616) : a ^^^ 9223372036854775808 = (a + 9223372036854775808) % 18446744073709551616 := by
  have hp : (2 : Nat) ^ 63 = 9223372036854775808 := by decide
  have key : ∀ q r : Nat, q < 2 → r < 2 ^ 63 → (2 ^ 63 * q + r) ^^^ (2 ^ 63 * 1 + 0) = 2 ^ 63 * (1 - q) + r := by
    intro q r hq hr
    apply Nat.eq_of_testBit_eq
    intro i
    rw [Nat.testBit_xor, Nat.testBit_two_pow_mul_add q hr, Nat.testBit_two_pow_mul_add 1 (Nat.two_pow_pos 63), Nat.testBit_two_pow_mul_add (1 - q) hr]
    split
    · simp
    · have : q = 0 ∨ q = 1 := by omega
      rcases this with rfl | rfl <;> simp
  have h1 := key (a / 2 ^ 63) (a % 2 ^ 63) (by rw [hp]; omega) (Nat.mod_lt _ (Nat.two_pow_pos 63))
  rw [Nat.div_add_mod, Nat.mul_one, Nat.add_zero, hp] at h1
  rw [h1]
  omega

/-- Turned from below: the number of a key. -/
theorem turn_int (n : Int) (h : fits n = true) : bits .xor .u64 (IntKind.u64.wrap n) 9223372036854775808 = (bias n : Int) := by
  rw [fits_iff] at h
  have h1 : IntKind.u64.wrap n = ((n % 18446744073709551616).toNat : Int) := by rw [IntKind.wrap_u64]; omega
  have h2 : (9223372036854775808 : Int) = ((9223372036854775808 : Nat) : Int) := by omega
  rw [h1, h2, bits_xor_u64_nat _ _ (by omega) (by omega), xor_top _ (by omega)]
  unfold bias
  omega

/-- Turned back. -/
theorem turn_back (u : Nat) (h : u < 18446744073709551616) : IntKind.i64.wrap (bits .xor .u64 (u : Int) 9223372036854775808) = (u : Int) - 9223372036854775808 := by
  have h2 : (9223372036854775808 : Int) = ((9223372036854775808 : Nat) : Int) := by omega
  rw [h2, bits_xor_u64_nat _ _ h (by omega), xor_top _ h]
  simp only [IntKind.wrap, IntKind.bits, IntKind.signed]
  simp
  omega
end Go.Proofs.YtjocopclgehciaaGreatDoor.L3
/-
  A number's eight bytes: split and joined of package code.
-/
namespace Go.Proofs.YtjocopclgehciaaGreatDoor.L3
open Go.RowKit

/-- Eight bytes as an array's cells. -/
def cells (l : List UInt8) : Array Value := (l.map fun c => Value.int .u8 (c.toNat : Int)).toArray

/-- Byte t of a number's eight. -/
def byteN (u t : Nat) : Nat := u / 256 ^ (7 - t) % 256
def byteV (u t : Nat) : Value := .int .u8 (byteN u t : Int)

theorem byte_at (u j : Nat) (hj : j < 8) : Value.int .u8 ((u : Int) / 2 ^ (56 - 8 * j) % 256) = byteV u j := by
  have h : (256 : Nat) ^ (7 - j) = 2 ^ (56 - 8 * j) := by
    rw [show 56 - 8 * j = 8 * (7 - j) by omega, Nat.pow_mul]
  unfold byteV byteN
  rw [h]
  simp

theorem cells_eight (u : Nat) : cells (beL 8 u) = #[byteV u 0, byteV u 1, byteV u 2, byteV u 3, byteV u 4, byteV u 5, byteV u 6, byteV u 7] := by
  simp [cells, beL, byteV, byteN, Nat.div_div_eq_div_mul]

/-- Eight noughts. -/
def zero8 : Array Value := #[.int .u8 0, .int .u8 0, .int .u8 0, .int .u8 0, .int .u8 0, .int .u8 0, .int .u8 0, .int .u8 0]

theorem zero8_get : ∀ i, i < zero8.size → zero8[i]? = some (.int .u8 0) := by
  intro i hi
  have hi' : i < 8 := hi
  rw [show zero8 = Array.replicate 8 (.int .u8 0) from rfl]
  simp [hi']

set_option maxRecDepth 100000 in
set_option maxHeartbeats 400000 in
theorem split_walk (u : Nat) (w : World) :
    Calls Tryz.prog 72 #[.int .u64 (u : Int)] w fun e w' => e = .returned (.agg (cells (beL 8 u))) ∧ Below w.heap.size w w' := by
  go_enter Tryz.func72, Tryz.ntmps72
  go_wp2
  go_loopw [5] (fun i wr => ∃ j : Nat, j ≤ 8 ∧ i = .int .i64 j ∧ Below w.heap.size w wr ∧ wr.heap.size = w.heap.size + 2 ∧ wr.rowIs w.heap.size 120 8 (fun _ => .int .u8 0) ∧ wr.rowIs (w.heap.size + 1) 120 8 (fun t => if t < j then byteV u t else .int .u8 0)) (fun i _ => 8 - (intOf i).toNat)
  case atStart =>
    refine ⟨0, by omega, rfl, ((Below.refl _ _).alloc (Nat.le_refl _) _).alloc (by simp) _, by simp, ?_, ?_⟩
    · exact (World.rowIs_alloc w zero8 120 (fun _ => .int .u8 0) zero8_get).alloc _
    · have := World.rowIs_alloc (w.alloc (.cells zero8 120)) zero8 120 (fun t => if t < 0 then byteV u t else .int .u8 0) (fun i hi => by rw [zero8_get i hi]; simp)
      simp only [World.size_alloc] at this
      exact this
  case round =>
    obtain ⟨j, hj, rfl, B, hz, R, T⟩ := hrel
    by_cases hlt : j < 8
    · have hc := T.cell hlt
      have hf := T.frozen j
      have HB : Hid _ := B
      have HR : Hid _ := R
      have HT : Hid _ := T
      clear B R T
      go_wp2
      rw [byte_at u j hlt]
      refine ⟨⟨j + 1, by omega, by go_num, HB.out.setCell (by simp) _, by simpa [World.setCell] using hz, World.rowIs.setOther HR.out (by simp) _, ?_⟩, by simp [intOf]; omega⟩
      refine (World.rowIs.set HT.out j (byteV u j)).congr fun i hi => ?_
      by_cases e : i = j
      · subst e; simp
      · by_cases e2 : i < j
        · rw [if_neg e, if_pos e2, if_pos (by omega)]
        · rw [if_neg e, if_neg e2, if_neg (by omega)]
    · have hj8 : j = 8 := by omega
      subst hj8
      have t0 := T.cell (i := 0) (by decide)
      have t1 := T.cell (i := 1) (by decide)
      have t2 := T.cell (i := 2) (by decide)
      have t3 := T.cell (i := 3) (by decide)
      have t4 := T.cell (i := 4) (by decide)
      have t5 := T.cell (i := 5) (by decide)
      have t6 := T.cell (i := 6) (by decide)
      have t7 := T.cell (i := 7) (by decide)
      simp only [Nat.reduceLT, if_true] at t0 t1 t2 t3 t4 t5 t6 t7
      unfold byteV at t0 t1 t2 t3 t4 t5 t6 t7
      have r0 := R.cell (i := 0) (by decide)
      have r1 := R.cell (i := 1) (by decide)
      have r2 := R.cell (i := 2) (by decide)
      have r3 := R.cell (i := 3) (by decide)
      have r4 := R.cell (i := 4) (by decide)
      have r5 := R.cell (i := 5) (by decide)
      have r6 := R.cell (i := 6) (by decide)
      have r7 := R.cell (i := 7) (by decide)
      have hf := R.frozen
      have HB : Hid _ := B
      clear T R B
      go_wp2
      refine bodyPost_ret (v := .agg (cells (beL 8 u))) (by rw [cells_eight]; simp [results, Tryz.results72, go_sem, byteV, *]) rfl ⟨rfl, ?_⟩
      exact (((((((HB.out.setCell (Nat.le_refl _) _).setCell (Nat.le_refl _) _).setCell (Nat.le_refl _) _).setCell (Nat.le_refl _) _).setCell (Nat.le_refl _) _).setCell (Nat.le_refl _) _).setCell (Nat.le_refl _) _).setCell (Nat.le_refl _) _
theorem idx8 (cs : Array Value) (j : Nat) (hj : j < 8) (n : Int) (hc : cs[j]? = some (.int .u8 n)) (W : World) : (Instr.index 120 (.agg cs) (.int .i64 (j : Int))).run Tryz.prog W = .ok (.int .u8 n) W := by
  simp [Instr.index, run_underlying Tryz.underlying120, asIntOf, go_sem]
  rw [if_pos hj, hc]
  rfl

/-- Eight bytes, one by one. -/
theorem eight_bytes {l : List UInt8} (h : l.length = 8) : ∃ a b c d e f g i, l = [a, b, c, d, e, f, g, i] := by
  match l, h with
  | [a, b, c, d, e, f, g, i], _ => exact ⟨a, b, c, d, e, f, g, i, rfl⟩

set_option maxRecDepth 100000 in
set_option maxHeartbeats 400000 in
theorem joined_walk (s : ByteArray) (hs : s.size = 8) (w : World) :
    Calls Tryz.prog 111 #[.string s] w fun e w' => e = .returned (.int .u64 (number s.data.toList : Int)) ∧ Below w.heap.size w w' := by
  obtain ⟨c0, c1, c2, c3, c4, c5, c6, c7, hl⟩ := eight_bytes (l := s.data.toList) hs
  go_enter Tryz.func111, Tryz.ntmps111
  go_wp2
  rw [run_copy_string _ 119 9 3 5 w.heap.size 0 8 8 s Tryz.underlying119 (fun w => by simp [go_sem]) (by omega) (fun j hj => by
    have hj' : j < 8 := by omega
    have := (World.rowIs_alloc w zero8 120 (fun _ => .int .u8 0) zero8_get).cell (i := j) hj'
    rw [Nat.zero_add]
    exact Option.isSome_iff_exists.2 ⟨_, this⟩) (fun j hj => by
    rw [Nat.zero_add]
    exact (World.rowIs_alloc w zero8 120 (fun _ => .int .u8 0) zero8_get).frozen j)]
  rw [hl]
  simp only [List.map_cons, List.map_nil, World.setCells]
  go_wp2
  go_loop [4, 11] (fun n i => ∃ j : Nat, j ≤ 8 ∧ i = .int .i64 j ∧ n = .int .u64 (number (s.data.toList.take j) : Int)) (fun _ i => 8 - (intOf i).toNat)
  case atStart => exact ⟨0, by omega, rfl, rfl⟩
  case round =>
    obtain ⟨j, hj, rfl, rfl⟩ := hrel
    by_cases hlt : j < 8
    · obtain ⟨c, hc⟩ : ∃ c, s.data.toList[j]? = some c := ⟨s.data.toList[j]'(by rw [hl]; exact hlt), List.getElem?_eq_getElem _⟩
      have hx := number_lt (s.data.toList.take j)
      have ht : (s.data.toList.take j).length = j := by rw [hl, List.length_take]; simp; omega
      rw [ht] at hx
      have hx2 : (256 : Nat) ^ j ≤ 256 ^ 7 := Nat.pow_le_pow_right (by decide) (by omega)
      have HN : Hid (number (s.data.toList.take (j + 1)) = number (s.data.toList.take j) * 256 + c.toNat) := by
        show _ = _
        rw [List.take_add_one, hc]
        exact number_back _ _
      have hi : ∀ W, (Instr.index 120 (.agg #[.int .u8 c0.toNat, .int .u8 c1.toNat, .int .u8 c2.toNat, .int .u8 c3.toNat, .int .u8 c4.toNat, .int .u8 c5.toNat, .int .u8 c6.toNat, .int .u8 c7.toNat]) (.int .i64 (j : Int))).run Tryz.prog W = .ok (.int .u8 (c.toNat : Int)) W :=
        fun W => idx8 _ j hlt _ (by
          have : #[Value.int .u8 c0.toNat, .int .u8 c1.toNat, .int .u8 c2.toNat, .int .u8 c3.toNat, .int .u8 c4.toNat, .int .u8 c5.toNat, .int .u8 c6.toNat, .int .u8 c7.toNat] = (s.data.toList.map fun c => Value.int .u8 (c.toNat : Int)).toArray := by rw [hl]; rfl
          rw [this]
          simp [hc]) W
      generalize number (s.data.toList.take j) = x at *
      have hx3 : x < 72057594037927936 := Nat.lt_of_lt_of_le hx hx2
      clear hx hx2 ht hl hc
      have hcb := c.toNat_lt
      go_wp2
      rw [or_byte x c.toNat hx3 hcb]
      exact ⟨⟨j + 1, hlt, by go_num, by rw [HN.out]⟩, by simp [intOf]; omega⟩
    · have hj8 : j = 8 := by omega
      subst hj8
      go_wp2
      go_ret
      exact ⟨rfl, below_alloc _ _⟩
end Go.Proofs.YtjocopclgehciaaGreatDoor.L3
/-
  Ids as bytes, and what is above: ID, Unid and Next of package code.
-/
namespace Go.Proofs.YtjocopclgehciaaGreatDoor.L3
open Go.RowKit

/-- A text out of a list of bytes. -/
def strB (l : List UInt8) : ByteArray := ⟨l.toArray⟩

theorem strB_list (l : List UInt8) : (strB l).data.toList = l := rfl

theorem strB_append (a b : List UInt8) : strB (a ++ b) = strB a ++ strB b := by
  apply ByteArray.ext
  simp [strB]

theorem strB_back (s : ByteArray) : strB s.data.toList = s := rfl

theorem extract_take (s : ByteArray) (j : Nat) : s.extract 0 j = strB (s.data.toList.take j) := by
  apply ByteArray.ext
  apply Array.ext'
  simp [strB, ByteArray.data_extract]

theorem split_at (s : ByteArray) (j : Nat) (hj : j < s.size) : s.data.toList = s.data.toList.take j ++ s[j] :: s.data.toList.drop (j + 1) := by
  have h : j < s.data.toList.length := hj
  rw [show s[j] = s.data.toList[j] from rfl, ← List.drop_eq_getElem_cons h, List.take_append_drop]

def idS (n : Int) : ByteArray := if n < 0 ∨ 1099511627776 < n then ⟨#[]⟩ else strB (beL 8 n.toNat)
def idE (n : Int) : Int := if n < 0 ∨ 1099511627776 < n then 15 else 0

def unidN (s : ByteArray) : Int := if s.size = 8 ∧ number s.data.toList ≤ 1099511627776 then (number s.data.toList : Int) else 0
def unidE (s : ByteArray) : Int := if s.size = 8 ∧ number s.data.toList ≤ 1099511627776 then 0 else 16

theorem below_on {a b c : World} (h : Below a.heap.size a b) (k : Below b.heap.size b c) : Below a.heap.size a c := h.trans (k.mono h.size)

theorem cells8_at (w : World) (u : Nat) : ∀ t, t < 8 → (w.alloc (.cells #[.int .u8 (byteN u 0 : Int), .int .u8 (byteN u 1 : Int), .int .u8 (byteN u 2 : Int), .int .u8 (byteN u 3 : Int), .int .u8 (byteN u 4 : Int), .int .u8 (byteN u 5 : Int), .int .u8 (byteN u 6 : Int), .int .u8 (byteN u 7 : Int)] 120)).cell? ⟨w.heap.size, t, none⟩ = some (byteV u t) := by
  intro t ht
  have hcs : t = 0 ∨ t = 1 ∨ t = 2 ∨ t = 3 ∨ t = 4 ∨ t = 5 ∨ t = 6 ∨ t = 7 := by omega
  rcases hcs with rfl | rfl | rfl | rfl | rfl | rfl | rfl | rfl <;> simp [go_sem, byteV]

/-- The text of eight bytes that lie in a block. -/
theorem conv8 (W : World) (b u : Nat) (h : ∀ t, t < 8 → W.cell? ⟨b, t, none⟩ = some (byteV u t)) :
    (convert 119 9 (.slice (some ⟨b, 0, none⟩) 8 8)).run Tryz.prog W = .ok (.string (strB (beL 8 u))) W := by
  have hl : (beL 8 u).length = 8 := beL_length 8 u
  have := run_convert_bytes_back (P := Tryz.prog) W 119 9 5 ⟨b, 0, none⟩ 8 (beL 8 u) Tryz.underlying119 Tryz.underlying5 Tryz.underlying9 (fun j hj => by
    have hj8 : j < 8 := by rw [hl] at hj; exact hj
    have hc := h j hj8
    rw [show (⟨b, 0, none⟩ : Addr).add j = ⟨b, j, none⟩ by unfold Addr.add; split <;> simp_all, hc]
    have hcs : j = 0 ∨ j = 1 ∨ j = 2 ∨ j = 3 ∨ j = 4 ∨ j = 5 ∨ j = 6 ∨ j = 7 := by omega
    rcases hcs with rfl | rfl | rfl | rfl | rfl | rfl | rfl | rfl <;> simp [beL, byteV, byteN, Nat.div_div_eq_div_mul])
  rw [hl] at this
  exact this

theorem conv1 (W : World) (b : Nat) (d : UInt8) (h : W.cell? ⟨b, 0, none⟩ = some (.int .u8 (d.toNat : Int))) :
    (convert 119 9 (.slice (some ⟨b, 0, none⟩) 1 1)).run Tryz.prog W = .ok (.string ⟨#[d]⟩) W :=
  run_convert_bytes_back W 119 9 5 ⟨b, 0, none⟩ 1 [d] Tryz.underlying119 Tryz.underlying5 Tryz.underlying9 (fun j hj => by
    have : j = 0 := by simpa using hj
    subst this
    exact h)

set_option maxRecDepth 100000 in
set_option maxHeartbeats 400000 in
theorem id_walk (n : Int) (w : World) :
    Calls Tryz.prog 50 #[.int .i64 n] w fun e w' => e = .returned (.tuple #[.string (idS n), .int .i64 (idE n)]) ∧ Below w.heap.size w w' := by
  go_enter Tryz.func50, Tryz.ntmps50
  by_cases h : n < 0 ∨ 1099511627776 < n
  · have e1 : idS n = ⟨#[]⟩ := by unfold idS; rw [if_pos h]
    have e2 : idE n = 15 := by unfold idE; rw [if_pos h]
    rcases h with h | h
    · go_wp2
      go_ret2
      exact ⟨by rw [e1, e2]; rfl, Below.refl _ _⟩
    · have h0 : ¬ n < 0 := by omega
      go_wp2
      go_ret2
      exact ⟨rfl, Below.refl _ _⟩
  · have e1 : idS n = strB (beL 8 n.toNat) := by unfold idS; rw [if_neg h]
    have e2 : idE n = 0 := by unfold idE; rw [if_neg h]
    obtain ⟨u, rfl⟩ : ∃ u : Nat, n = u := ⟨n.toNat, by omega⟩
    have h0 : 0 ≤ (u : Int) := by omega
    have h1 : (u : Int) ≤ 1099511627776 := by omega
    have e3 : ((u : Int)).toNat = u := by omega
    rw [e3] at e1
    clear h
    go_wp2_with fail
    refine (split_walk u _).mono ?_
    rintro e w1 ⟨rfl, hb⟩
    rw [cells_eight]
    unfold byteV
    go_wp2
    rw [conv8 _ w1.heap.size u (cells8_at w1 u)]
    go_wp2
    go_ret2
    exact ⟨by rw [e1, e2]; rfl, below_on hb (below_alloc _ _)⟩

theorem unid_walk (s : ByteArray) (w : World) :
    Calls Tryz.prog 86 #[.string s] w fun e w' => e = .returned (.tuple #[.int .i64 (unidN s), .int .i64 (unidE s)]) ∧ Below w.heap.size w w' := by
  go_enter Tryz.func86, Tryz.ntmps86
  by_cases h : s.size = 8
  · have hlt := number_lt s.data.toList
    have h8 : s.data.toList.length = 8 := h
    have hp : (256 : Nat) ^ 8 = 18446744073709551616 := by decide
    rw [h8, hp] at hlt
    by_cases hb : number s.data.toList ≤ 1099511627776
    · have e1 : unidN s = number s.data.toList := by unfold unidN; rw [if_pos ⟨h, hb⟩]
      have e2 : unidE s = 0 := by unfold unidE; rw [if_pos ⟨h, hb⟩]
      have hh : ((s.size : Int) == 8) = true := by rw [h]; rfl
      go_wp2_with (go_at_call 111; refine (joined_walk s h _).mono ?_; rintro e w1 ⟨rfl, hb1⟩)
      go_ret2
      exact ⟨by rw [e1, e2]; rfl, hb1⟩
    · have e1 : unidN s = 0 := by unfold unidN; rw [if_neg (fun e => hb e.2)]
      have e2 : unidE s = 16 := by unfold unidE; rw [if_neg (fun e => hb e.2)]
      have hh : ((s.size : Int) == 8) = true := by rw [h]; rfl
      have hb' : 1099511627776 < number s.data.toList := by omega
      go_wp2_with (go_at_call 111; refine (joined_walk s h _).mono ?_; rintro e w1 ⟨rfl, hb1⟩)
      go_ret2
      exact ⟨by rw [e1, e2]; rfl, hb1⟩
  · have e1 : unidN s = 0 := by unfold unidN; rw [if_neg (fun e => h e.1)]
    have e2 : unidE s = 16 := by unfold unidE; rw [if_neg (fun e => h e.1)]
    have hh : ((s.size : Int) == 8) = false := by rw [beq_eq_false_iff_ne]; omega
    go_wp2
    go_ret2
    exact ⟨by rw [e1, e2]; rfl, Below.refl _ _⟩

set_option maxRecDepth 100000 in
set_option maxHeartbeats 400000 in
theorem next_walk (s : ByteArray) (hs : s.size ≤ maxLen) (w : World) :
    Calls Tryz.prog 81 #[.string s] w fun e w' => e = .returned (.string (strB (nextL s.data.toList))) ∧ Below w.heap.size w w' := by
  unfold maxLen at hs
  go_enter Tryz.func81, Tryz.ntmps81
  go_wp2
  go_loop [3] (fun i => (i = .int .i64 (-1) ∧ Hid (∀ b ∈ s.data.toList, b = 255)) ∨ ∃ j : Nat, j < s.size ∧ i = .int .i64 (j : Int) ∧ Hid (∀ b ∈ s.data.toList.drop (j + 1), b = 255)) (fun i => (intOf i + 1).toNat)
  case atStart =>
    by_cases h0 : s.size = 0
    · refine Or.inl ⟨by rw [h0]; rfl, ?_⟩
      have : s.data.toList = [] := List.length_eq_zero_iff.1 h0
      show ∀ b ∈ _, _
      rw [this]
      intro b hb; cases hb
    · refine Or.inr ⟨s.size - 1, by omega, by rw [show ((s.size - 1 : Nat) : Int) = (s.size : Int) - 1 by omega], ?_⟩
      show ∀ b ∈ _, _
      rw [List.drop_of_length_le (by show s.size ≤ _; omega)]
      intro b hb; cases hb
  case round =>
    rcases hrel with ⟨rfl, HD⟩ | ⟨j, hj, rfl, HD⟩
    · go_wp2
      go_ret
      exact ⟨by rw [nextL_none HD.out]; rfl, Below.refl _ _⟩
    · have hj2 : j ≤ s.size := Nat.le_of_lt hj
      by_cases h255 : s[j].toNat < 255
      · have hne : ¬ s[j] = 255 := fun e => by rw [e] at h255; exact absurd h255 (by decide)
        have hsb := succ_byte hne
        have hcv := conv1 (w.alloc (.cells #[.int .u8 ((s[j].toNat : Int) + 1)] 5)).drew w.heap.size (s[j] + 1) (by rw [hsb]; simp [go_sem])
        have HS : Hid (strB (nextL s.data.toList) = s.extract 0 j ++ ⟨#[s[j] + 1]⟩) := by
          have e := nextL_at hne HD.out (s.data.toList.take j)
          show _ = _
          rw [← split_at s j hj] at e
          rw [e, strB_append, extract_take]
          rfl
        clear hne hsb
        go_wp2
        go_region
        all_goals go_wp2
        all_goals go_ret
        all_goals exact ⟨by rw [HS.out]; rfl, (below_alloc _ _).drew⟩
      · have h255' : 255 ≤ s[j].toNat := by omega
        have hlt := s[j].toNat_lt
        have he : s[j] = 255 := UInt8.toNat_inj.1 (by simp; omega)
        have HE : Hid (∀ b ∈ s.data.toList.drop j, b = 255) := by
          show ∀ b ∈ _, _
          rw [List.drop_eq_getElem_cons (show j < s.data.toList.length from hj)]
          intro b hb
          rcases List.mem_cons.1 hb with rfl | hb
          · exact he
          · exact HD.out b hb
        clear he hlt
        go_wp2
        refine ⟨?_, by simp [intOf]⟩
        by_cases h0 : j = 0
        · subst h0
          exact Or.inl ⟨rfl, HE.out⟩
        · refine Or.inr ⟨j - 1, by omega, by rw [show ((j - 1 : Nat) : Int) = (j : Int) - 1 by omega], ?_⟩
          rw [show j - 1 + 1 = j by omega]
          exact HE

end Go.Proofs.YtjocopclgehciaaGreatDoor.L3
/-
  A value's key: Key of package code; and 'awake', the document's example, which every statement of the layer asks first.
-/
namespace Go.Proofs.YtjocopclgehciaaGreatDoor.L3
open Go.RowKit

def keyS (k n : Int) (s : ByteArray) : ByteArray := if rightB k n s then strB (keyL k n s) else ⟨#[]⟩
def keyE (k n : Int) (s : ByteArray) : Int := if rightB k n s then 0 else 15

/-- A value lies in the block p. -/
def Boxed (w : World) (p : Nat) (k n : Int) (s : ByteArray) : Prop :=
  p < w.heap.size ∧ w.cell? ⟨p, 0, none⟩ = some (.int .i64 k) ∧ w.cell? ⟨p, 1, none⟩ = some (.int .i64 n) ∧ w.cell? ⟨p, 2, none⟩ = some (.string s)

theorem Boxed.below {w w' : World} {p : Nat} {k n : Int} {s : ByteArray} (h : Boxed w p k n s) (hb : Below w.heap.size w w') : Boxed w' p k n s := by
  obtain ⟨h0, h1, h2, h3⟩ := h
  exact ⟨Nat.lt_of_lt_of_le h0 hb.size, by rw [hb.cell h0]; exact h1, by rw [hb.cell h0]; exact h2, by rw [hb.cell h0]; exact h3⟩

theorem boxed_new (w : World) (k n : Int) (s : ByteArray) (t : TypeId) : Boxed (w.alloc (.cells #[.int .i64 k, .int .i64 n, .string s] t)) w.heap.size k n s := by
  refine ⟨?_, ?_, ?_, ?_⟩ <;> simp [go_sem]

theorem conv2 (W : World) (b : Nat) (c d : UInt8) (h : W.cell? ⟨b, 0, none⟩ = some (.int .u8 (c.toNat : Int))) (h1 : W.cell? ⟨b, 1, none⟩ = some (.int .u8 (d.toNat : Int))) :
    (convert 119 9 (.slice (some ⟨b, 0, none⟩) 2 2)).run Tryz.prog W = .ok (.string ⟨#[c, d]⟩) W :=
  run_convert_bytes_back W 119 9 5 ⟨b, 0, none⟩ 2 [c, d] Tryz.underlying119 Tryz.underlying5 Tryz.underlying9 (fun j hj => by
    have hj' : j < 2 := by simpa using hj
    have : j = 0 ∨ j = 1 := by omega
    rcases this with rfl | rfl
    · exact h
    · exact h1)

theorem repl_text (s : ByteArray) : strB (keyL 3 0 s) = ⟨#[3]⟩ ++ ⟨(Lib.replaceAll s.data.toList [0] [0, 255]).toArray⟩ ++ ⟨#[0, 1]⟩ := by
  rw [replaceAll_each 0 [0, 255] _ (by decide)]
  show strB (3 :: textK s.data.toList) = _
  unfold textK
  apply ByteArray.ext
  simp [strB]

theorem repl_len0 (s : ByteArray) : (Lib.replaceAll s.data.toList [0] [0, 255]).length ≤ 2 * s.size := by
  rw [replaceAll_each 0 [0, 255] _ (by decide)]
  exact each_length 0 [0, 255] s.data.toList (by decide)

theorem count_fits0 (s : ByteArray) (hs : s.size ≤ 24) : s.size + Lib.countB s ⟨#[0]⟩ * (ByteArray.mk #[0, 255]).size ≤ 140737488355328 := by
  have h1 : 1 ≤ (ByteArray.mk #[0]).size := by decide
  have h := Lib.countB_le (ByteArray.mk #[0]) h1 s.size s (Nat.le_refl _)
  have h2 : (ByteArray.mk #[0, 255]).size = 2 := by decide
  rw [h2]; omega

set_option maxRecDepth 100000 in
set_option maxHeartbeats 1000000 in
theorem key_walk (k n : Int) (s : ByteArray) (hn : fits n = true) (m : Int) (w : World) (hl : 0 < w.heap.size) (hm : w.cell? ⟨0, 0, none⟩ = some (.int .i64 m)) :
    Calls Tryz.prog 49 #[valV k n s] w fun e w' => e = .returned (.tuple #[.string (keyS k n s), .int .i64 (keyE k n s)]) ∧ Below w.heap.size w w' := by
  go_enter Tryz.func49, Tryz.ntmps49
  have A := boxed_new w k n s 37
  have B0 := below_alloc w (.cells #[.int .i64 k, .int .i64 n, .string s] 37)
  have e3 : keyS k n s = if rightB k n s then strB (keyL k n s) else ⟨#[]⟩ := rfl
  have e4 : keyE k n s = if rightB k n s then 0 else 15 := rfl
  unfold valV
  go_wp2_with fail
  refine (right_walk k n s _).mono ?_
  rintro e w1 ⟨rfl, hb⟩
  replace A := A.below hb
  replace hb := below_on B0 hb
  obtain ⟨_, a0, a1, a2⟩ := id A
  have hl1 := Nat.lt_of_lt_of_le hl hb.size
  have hm1 : w1.cell? ⟨0, 0, none⟩ = some (.int .i64 m) := by rw [hb.cell hl]; exact hm
  clear hl hm B0
  cases hr : rightB k n s
  · rw [hr] at e3 e4
    have e3' : keyS k n s = ⟨#[]⟩ := e3
    have e4' : keyE k n s = 15 := e4
    clear e3 e4
    go_wp2
    go_ret2
    exact ⟨by rw [e3', e4']; rfl, hb⟩
  · rw [hr] at e3 e4
    have e4' : keyE k n s = 0 := e4
    have e3' : keyS k n s = strB (keyL k n s) := e3
    clear e3 e4
    rcases right_cases hr with ⟨rfl, rfl, rfl⟩ | ⟨rfl, h01, rfl⟩ | ⟨rfl, rfl⟩ | ⟨rfl, rfl, hs⟩
    · go_wp2
      go_ret2
      exact ⟨by rw [e3', e4']; rfl, hb⟩
    · rcases h01 with rfl | rfl
      · go_wp2
        rw [conv2 _ w1.heap.size 1 0 (by simp [go_sem]) (by simp [go_sem])]
        go_wp2
        go_ret2
        exact ⟨by rw [e3', e4']; rfl, below_on hb (below_alloc _ _)⟩
      · go_wp2
        rw [conv2 _ w1.heap.size 1 1 (by simp [go_sem]) (by simp [go_sem])]
        go_wp2
        go_ret2
        exact ⟨by rw [e3', e4']; rfl, below_on hb (below_alloc _ _)⟩
    · go_wp2_with fail
      rw [turn_int n hn]
      refine (split_walk (bias n) _).mono ?_
      rintro e w2 ⟨rfl, hb2⟩
      rw [cells_eight]
      unfold byteV
      go_wp2
      rw [conv8 _ w2.heap.size (bias n) (cells8_at w2 (bias n))]
      have hz : (strB (beL 8 (bias n))).size = 8 := by show (beL 8 (bias n)).length = 8; exact beL_length _ _
      go_wp2
      go_ret2
      refine ⟨?_, below_on hb (below_on hb2 (below_alloc _ _))⟩
      rw [e3', e4']
      have : strB (keyL 2 n ⟨#[]⟩) = ⟨#[2]⟩ ++ strB (beL 8 (bias n)) := by
        show strB ([2] ++ beL 8 (bias n)) = _
        rw [strB_append]; rfl
      rw [this]
      rfl
    · go_wp2_with fail
      refine (Tryz.strings_ReplaceAll s ⟨#[0]⟩ ⟨#[0, 255]⟩ m _ (by omega) hm1 (by decide) (count_fits0 s hs)).mono ?_
      rintro e w2 ⟨rfl, hb2⟩
      have hL := repl_len0 s
      go_wp2
      go_ret2
      refine ⟨?_, below_on hb hb2⟩
      rw [e3', e4', repl_text s]
      rfl

theorem awake_key1 : ((strB (keyL 2 1 ⟨#[]⟩)).toList == [2, 128, 0, 0, 0, 0, 0, 0, 1]) = true := by
  rw [ByteArray.toList_eq]; decide
theorem awake_key2 : ((strB (keyL 3 0 ⟨#[97]⟩)).toList == [3, 97, 0, 1]) = true := by
  rw [ByteArray.toList_eq]; decide
theorem awake_next : ((strB (nextL [97, 255])).toList == [98]) = true := by
  rw [ByteArray.toList_eq]; decide

end Go.Proofs.YtjocopclgehciaaGreatDoor.L3
