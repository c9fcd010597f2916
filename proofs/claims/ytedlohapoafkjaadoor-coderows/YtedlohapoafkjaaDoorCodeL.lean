/-
  Numbers as bytes, texts as keys: the plain mathematics of keys. Of no program.
-/
import Derived.Test.YtedlohapoafkjaaDoorQuote
namespace Go.Proofs.YtedlohapoafkjaaDoor
open Go

/-- The last n bytes of a number, the highest first. -/
def beL : Nat → Nat → List UInt8
  | 0, _ => []
  | n + 1, u => beL n (u / 256) ++ [UInt8.ofNat (u % 256)]

/-- The number of bytes, the highest first. -/
def number (l : List UInt8) : Nat := l.foldl (fun a c => a * 256 + c.toNat) 0

theorem number_back (l : List UInt8) (c : UInt8) : number (l ++ [c]) = number l * 256 + c.toNat := by simp [number]

theorem beL_length (n : Nat) : ∀ u, (beL n u).length = n := by
  induction n with
  | zero => intro u; rfl
  | succ n ih => intro u; simp [beL, ih]

theorem byte_toNat (u : Nat) (h : u < 256) : (UInt8.ofNat u).toNat = u := by
  rw [UInt8.toNat_ofNat']; omega

theorem number_beL (n : Nat) : ∀ u, number (beL n u) = u % 256 ^ n := by
  induction n with
  | zero => intro u; simp [beL, number]; omega
  | succ n ih =>
    intro u
    rw [beL, number_back, ih, byte_toNat _ (Nat.mod_lt _ (by decide)), Nat.pow_succ, Nat.mul_comm (256 ^ n) 256, Nat.mod_mul]
    omega

theorem beL_number (l : List UInt8) : beL l.length (number l) = l := by
  suffices h : ∀ n (l : List UInt8), l.length = n → beL n (number l) = l from h _ l rfl
  intro n
  induction n with
  | zero => intro l h; rw [List.length_eq_zero_iff.1 h]; rfl
  | succ n ih =>
    intro l h
    have hne : l ≠ [] := by intro e; rw [e] at h; cases h
    obtain ⟨l', c, rfl⟩ : ∃ l' c, l = l' ++ [c] := ⟨l.dropLast, l.getLast hne, (List.dropLast_concat_getLast hne).symm⟩
    have hl : l'.length = n := by simpa using h
    rw [number_back, beL]
    have hc := c.toNat_lt
    have h1 : (number l' * 256 + c.toNat) / 256 = number l' := by omega
    have h2 : (number l' * 256 + c.toNat) % 256 = c.toNat := by omega
    rw [h1, h2, ih l' hl, UInt8.ofNat_toNat]

theorem foldl_number (l : List UInt8) : ∀ a, l.foldl (fun a c => a * 256 + c.toNat) a = a * 256 ^ l.length + number l := by
  induction l with
  | nil => intro a; simp [number]
  | cons c l ih =>
    intro a
    have hc : number (c :: l) = c.toNat * 256 ^ l.length + number l := by
      show List.foldl (fun a c => a * 256 + c.toNat) 0 (c :: l) = _
      rw [List.foldl_cons, ih]; simp
    rw [List.foldl_cons, ih, hc, List.length_cons, Nat.pow_succ]
    rw [Nat.add_mul, Nat.mul_assoc, Nat.mul_comm 256 (256 ^ l.length), Nat.add_assoc]

theorem number_cons (c : UInt8) (l : List UInt8) : number (c :: l) = c.toNat * 256 ^ l.length + number l := by
  rw [number, List.foldl_cons, foldl_number]; simp

theorem number_lt (l : List UInt8) : number l < 256 ^ l.length := by
  induction l with
  | nil => simp [number]
  | cons c l ih =>
    rw [number_cons, List.length_cons, Nat.pow_succ, Nat.mul_comm (256 ^ l.length)]
    have hc := c.toNat_lt
    have : (c.toNat + 1) * 256 ^ l.length ≤ 256 * 256 ^ l.length := Nat.mul_le_mul_right _ (by omega)
    rw [Nat.add_mul, Nat.one_mul] at this
    omega

theorem lt_number (l : List UInt8) : ∀ l' : List UInt8, l.length = l'.length → (l < l' ↔ number l < number l') := by
  induction l with
  | nil => intro l' h; have : l' = [] := List.length_eq_zero_iff.1 h.symm; subst this; simp [number]
  | cons c l ih =>
    intro l' h
    cases l' with
    | nil => cases h
    | cons d l' =>
      have hl : l.length = l'.length := by simpa using h
      rw [List.cons_lt_cons_iff, ih l' hl, number_cons, number_cons, hl]
      have h1 := number_lt l
      have h2 := number_lt l'
      rw [hl] at h1
      rw [UInt8.lt_iff_toNat_lt, ← UInt8.toNat_inj]
      generalize hp : 256 ^ l'.length = p at *
      constructor
      · rintro (h3 | ⟨h3, h4⟩)
        · have : (c.toNat + 1) * p ≤ d.toNat * p := Nat.mul_le_mul_right _ h3
          rw [Nat.add_mul, Nat.one_mul] at this
          omega
        · rw [h3]; omega
      · intro h3
        rcases Nat.lt_trichotomy c.toNat d.toNat with h4 | h4 | h4
        · exact Or.inl h4
        · exact Or.inr ⟨h4, by rw [h4] at h3; omega⟩
        · have : (d.toNat + 1) * p ≤ c.toNat * p := Nat.mul_le_mul_right _ h4
          rw [Nat.add_mul, Nat.one_mul] at this
          omega

/-- Eight bytes of numbers below 2^64 stand as the numbers. -/
theorem eight_lt (u v : Nat) (hu : u < 18446744073709551616) (hv : v < 18446744073709551616) : beL 8 u < beL 8 v ↔ u < v := by
  rw [lt_number _ _ (by rw [beL_length, beL_length]), number_beL, number_beL]
  have : (256 : Nat) ^ 8 = 18446744073709551616 := by decide
  rw [this, Nat.mod_eq_of_lt hu, Nat.mod_eq_of_lt hv]

theorem eight_inj (u v : Nat) (hu : u < 18446744073709551616) (hv : v < 18446744073709551616) (h : beL 8 u = beL 8 v) : u = v := by
  have := congrArg number h
  have h8 : (256 : Nat) ^ 8 = 18446744073709551616 := by decide
  rwa [number_beL, number_beL, h8, Nat.mod_eq_of_lt hu, Nat.mod_eq_of_lt hv] at this

/-- A text's key, behind its first byte. -/
def textK (l : List UInt8) : List UInt8 := each 0 [0, 255] l ++ [0, 1]

theorem textK_nil : textK [] = [0, 1] := rfl
theorem textK_zero (l : List UInt8) : textK (0 :: l) = 0 :: 255 :: textK l := by simp [textK, each_cons_eq]
theorem textK_cons {b : UInt8} (h : ¬ b = 0) (l : List UInt8) : textK (b :: l) = b :: textK l := by simp [textK, each_cons_ne h]

theorem byte_pos {b : UInt8} (h : ¬ b = 0) : (0 : UInt8) < b := by
  rw [UInt8.lt_iff_toNat_lt]
  have : b.toNat ≠ 0 := fun e => h (UInt8.toNat_inj.1 (by simpa using e))
  simp; omega

theorem textK_lt (l : List UInt8) : ∀ l' : List UInt8, textK l < textK l' ↔ l < l' := by
  induction l with
  | nil =>
    intro l'
    cases l' with
    | nil => simp [textK]
    | cons b l' =>
      by_cases h : b = 0
      · subst h; rw [textK_zero, textK_nil]; simp [List.cons_lt_cons_iff]
      · rw [textK_cons h, textK_nil]; simp [List.cons_lt_cons_iff, byte_pos h]
  | cons a l ih =>
    intro l'
    cases l' with
    | nil =>
      by_cases h : a = 0
      · subst h; rw [textK_zero, textK_nil]; simp [List.cons_lt_cons_iff]
      · rw [textK_cons h, textK_nil]
        have := byte_pos h
        simp [List.cons_lt_cons_iff, h]
    | cons b l' =>
      by_cases h : a = 0 <;> by_cases h' : b = 0
      · subst h; subst h'
        rw [textK_zero, textK_zero]; simp [ih]
      · subst h
        rw [textK_zero, textK_cons h']
        simp [List.cons_lt_cons_iff, byte_pos h']
      · subst h'
        rw [textK_zero, textK_cons h]
        simp [List.cons_lt_cons_iff, h]
      · rw [textK_cons h, textK_cons h', List.cons_lt_cons_iff, List.cons_lt_cons_iff, ih]

/-- The text with whose key (behind the first byte) l begins, and the key's length. -/
def readT : List UInt8 → Option (List UInt8 × Nat)
  | a :: b :: l =>
    if a == 0 then
      if b == 1 then some ([], 2) else if b == 255 then (readT l).map fun p => (0 :: p.1, p.2 + 2) else none
    else (readT (b :: l)).map fun p => (a :: p.1, p.2 + 1)
  | _ => none

theorem readT_key (l : List UInt8) : ∀ more, readT (textK l ++ more) = some (l, (textK l).length) := by
  induction l with
  | nil => intro more; simp [textK_nil, readT]
  | cons a l ih =>
    intro more
    by_cases h : a = 0
    · subst h
      rw [textK_zero]
      simp [readT, ih]
    · rw [textK_cons h]
      cases hk : textK l with
      | nil => exact absurd hk (by simp [textK])
      | cons c k =>
        have := ih more
        rw [hk] at this
        simp only [List.cons_append] at this ⊢
        rw [readT]
        simp [h, this]

theorem key_readT (s : List UInt8) : ∀ l n, readT s = some (l, n) → ∃ more, s = textK l ++ more ∧ n = (textK l).length := by
  induction s using readT.induct with
  | case1 a b l h1 h2 =>
    intro t n h
    have ha : a = 0 := by simpa using h1
    have hb : b = 1 := by simpa using h2
    subst ha; subst hb
    rw [readT] at h
    simp at h
    obtain ⟨rfl, rfl⟩ := h
    exact ⟨l, by simp [textK_nil], rfl⟩
  | case2 a b l h1 h2 h3 ih =>
    intro t n h
    have ha : a = 0 := by simpa using h1
    have hb : b = 255 := by simpa using h3
    subst ha; subst hb
    rw [readT] at h
    simp at h
    obtain ⟨t', m, h4, rfl, rfl⟩ := h
    obtain ⟨more, e, e2⟩ := ih t' m h4
    exact ⟨more, by rw [textK_zero, e]; simp, by rw [textK_zero, e2]; simp⟩
  | case3 a b l h1 h2 h3 =>
    intro t n h
    rw [readT] at h
    simp [h1, h2, h3] at h
  | case4 a b l h1 ih =>
    intro t n h
    have ha : ¬ a = 0 := by simpa using h1
    rw [readT] at h
    simp [ha] at h
    obtain ⟨t', m, h4, rfl, rfl⟩ := h
    obtain ⟨more, e, e2⟩ := ih t' m h4
    exact ⟨more, by rw [textK_cons ha, e]; simp, by rw [textK_cons ha, e2]; simp⟩
  | case5 s h1 =>
    intro t n h
    rw [readT] at h
    · cases h
    · exact h1

/-- What is above all that begin so. -/
def nextL (l : List UInt8) : List UInt8 :=
  match l with
  | [] => []
  | c :: l => if nextL l == [] then (if c == 255 then [] else [c + 1]) else c :: nextL l

theorem succ_byte {c : UInt8} (h : ¬ c = 255) : (c + 1).toNat = c.toNat + 1 := by
  have := c.toNat_lt
  have h2 : c.toNat ≠ 255 := fun e => h (UInt8.toNat_inj.1 (by simpa using e))
  rw [UInt8.toNat_add]; simp; omega

theorem nextL_spec (s : List UInt8) : ∀ t : List UInt8, s <+: t ↔ ¬ t < s ∧ (nextL s = [] ∨ t < nextL s) := by
  induction s with
  | nil => intro t; simp [nextL]
  | cons c s ih =>
    intro t
    cases t with
    | nil => simp
    | cons d t =>
      have hd := d.toNat_lt
      have hc' := c.toNat_lt
      rw [List.cons_prefix_cons, ih t, nextL, List.cons_lt_cons_iff, UInt8.lt_iff_toNat_lt, ← UInt8.toNat_inj, ← UInt8.toNat_inj]
      by_cases hn : nextL s = []
      · by_cases hc : c = 255
        · have h255 : c.toNat = 255 := by rw [hc]; rfl
          simp only [hn, hc, beq_self_eq_true, if_true, true_or, and_true]
          rw [h255] at *
          constructor
          · rintro ⟨h1, h2⟩ (h3 | ⟨_, h3⟩)
            · have : (255 : UInt8).toNat = 255 := rfl
              omega
            · exact h2 h3
          · intro h
            have : (255 : UInt8).toNat = 255 := rfl
            exact ⟨by omega, fun h3 => h (Or.inr ⟨by omega, h3⟩)⟩
        · have hs := succ_byte hc
          have hc2 : (c == 255) = false := by simpa using hc
          simp only [hn, hc2, beq_self_eq_true, if_true, true_or, and_true, Bool.false_eq_true, if_false]
          rw [List.cons_lt_cons_iff, UInt8.lt_iff_toNat_lt, ← UInt8.toNat_inj, hs]
          simp only [List.not_lt_nil, and_false, or_false, List.cons_ne_nil, false_or]
          constructor
          · rintro ⟨h1, h2⟩
            exact ⟨fun h => h.elim (fun h => by omega) (fun h => h2 h.2), by omega⟩
          · rintro ⟨h1, h2⟩
            have : c.toNat = d.toNat := by
              have : ¬ d.toNat < c.toNat := fun h => h1 (Or.inl h)
              omega
            exact ⟨this, fun h => h1 (Or.inr ⟨this.symm, h⟩)⟩
      · have hn2 : (nextL s == []) = false := by simpa using hn
        simp only [hn2, hn, Bool.false_eq_true, if_false, false_or, List.cons_ne_nil]
        rw [List.cons_lt_cons_iff, UInt8.lt_iff_toNat_lt, ← UInt8.toNat_inj]
        constructor
        · rintro ⟨h1, h2, h3⟩
          exact ⟨fun h => h.elim (fun h => by omega) (fun h => h2 h.2), Or.inr ⟨h1.symm, h3⟩⟩
        · rintro ⟨h1, h2⟩
          rcases h2 with h2 | ⟨h2, h3⟩
          · exact absurd (Or.inl h2) h1
          · exact ⟨h2.symm, fun h => h1 (Or.inr ⟨h2, h⟩), h3⟩

/-- Where two lists part, what stands behind them doesn't count. -/
theorem lt_apart (a : List UInt8) : ∀ b x y : List UInt8, ¬ a <+: b → ¬ b <+: a → (a ++ x < b ++ y ↔ a < b) := by
  induction a with
  | nil => intro b x y h; exact absurd (List.nil_prefix) h
  | cons c a ih =>
    intro b x y h1 h2
    cases b with
    | nil => exact absurd (List.nil_prefix) h2
    | cons d b =>
      rw [List.cons_append, List.cons_append, List.cons_lt_cons_iff, List.cons_lt_cons_iff]
      by_cases e : c = d
      · subst e
        rw [List.cons_prefix_cons] at h1 h2
        rw [ih b x y (fun h => h1 ⟨rfl, h⟩) (fun h => h2 ⟨rfl, h⟩)]
      · simp [e]
end Go.Proofs.YtedlohapoafkjaaDoor
