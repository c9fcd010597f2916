/-
  A value's key as a list of bytes, what a list of bytes begins with, and what stands above: the plain laws. Of no program.
-/
import Derived.Test.YtedlohapoafkjaaDoorCodeL
import Derived.Test.YtedlohapoafkjaaDoorValueB
namespace Go.Proofs.YtedlohapoafkjaaDoor
open Go

def fits (x : Int) : Bool := decide (-9223372036854775808 ≤ x) && decide (x ≤ 9223372036854775807)

theorem fits_iff (x : Int) : fits x = true ↔ -9223372036854775808 ≤ x ∧ x ≤ 9223372036854775807 := by simp [fits]

/-- A number with its highest bit turned. -/
def bias (n : Int) : Nat := (n + 9223372036854775808).toNat

theorem bias_lt {n : Int} (h : fits n = true) : bias n < 18446744073709551616 := by
  rw [fits_iff] at h; unfold bias; omega

theorem bias_back {n : Int} (h : fits n = true) : (bias n : Int) - 9223372036854775808 = n := by
  rw [fits_iff] at h; unfold bias; omega

def keyL (k n : Int) (s : ByteArray) : List UInt8 :=
  if k == 1 then [1, UInt8.ofNat n.toNat] else if k == 2 then 2 :: beL 8 (bias n) else if k == 3 then 3 :: textK s.data.toList else [0]

/-- The value with whose key a list begins, and the key's length. -/
def readL : List UInt8 → Option ((Int × Int × List UInt8) × Nat)
  | [] => none
  | c :: l =>
    if c == 0 then some ((0, 0, []), 1)
    else if c == 1 then (if 1 ≤ l.length ∧ (l.getD 0 0).toNat < 2 then some ((1, ((l.getD 0 0).toNat : Int), []), 2) else none)
    else if c == 2 then (if 8 ≤ l.length then some ((2, (number (l.take 8) : Int) - 9223372036854775808, []), 9) else none)
    else if c == 3 then (readT l).bind fun p => if p.1.length ≤ 24 then some ((3, 0, p.1), p.2 + 1) else none
    else none

/-- The five kinds of right values. -/
theorem right_cases {k n : Int} {s : ByteArray} (h : rightB k n s = true) :
    (k = 0 ∧ n = 0 ∧ s = ⟨#[]⟩) ∨ (k = 1 ∧ (n = 0 ∨ n = 1) ∧ s = ⟨#[]⟩) ∨ (k = 2 ∧ s = ⟨#[]⟩) ∨ (k = 3 ∧ n = 0 ∧ s.size ≤ 24) := by
  have hl : (s.size == 0) = true → s = ⟨#[]⟩ := fun e => by
    have : s.size = 0 := by simpa using e
    apply ByteArray.ext
    exact Array.eq_empty_of_size_eq_zero this
  unfold rightB at h
  split at h
  · rename_i hk
    rw [Bool.and_eq_true, beq_iff_eq] at h
    exact Or.inl ⟨by simpa using hk, h.1, hl h.2⟩
  split at h
  · rename_i hk0 hk
    rw [Bool.and_eq_true, Bool.or_eq_true, beq_iff_eq, beq_iff_eq] at h
    exact Or.inr (Or.inl ⟨by simpa using hk, h.1, hl h.2⟩)
  split at h
  · rename_i hk
    exact Or.inr (Or.inr (Or.inl ⟨by simpa using hk, hl h⟩))
  · simp only [Bool.and_eq_true, beq_iff_eq, decide_eq_true_eq] at h
    exact Or.inr (Or.inr (Or.inr ⟨h.1.1, h.1.2, h.2⟩))

theorem number_eight {u : Nat} (h : u < 18446744073709551616) : number (beL 8 u) = u := by
  have h8 : (256 : Nat) ^ 8 = 18446744073709551616 := by decide
  rw [number_beL, h8, Nat.mod_eq_of_lt h]

theorem read_key {k n : Int} {s : ByteArray} (h : rightB k n s = true) (hn : fits n = true) (more : List UInt8) :
    readL (keyL k n s ++ more) = some ((k, n, s.data.toList), (keyL k n s).length) := by
  rcases right_cases h with ⟨rfl, rfl, rfl⟩ | ⟨rfl, rfl | rfl, rfl⟩ | ⟨rfl, rfl⟩ | ⟨rfl, rfl, hs⟩
  · rfl
  · rfl
  · rfl
  · have e : keyL 2 n ⟨#[]⟩ = 2 :: beL 8 (bias n) := rfl
    have h1 : (beL 8 (bias n) ++ more).take 8 = beL 8 (bias n) := by
      rw [List.take_append_of_le_length (by rw [beL_length]; omega), List.take_of_length_le (by rw [beL_length]; omega)]
    have h2 : 8 ≤ (beL 8 (bias n) ++ more).length := by rw [List.length_append, beL_length]; omega
    have h3 : ((2 : UInt8) == 0) = false := rfl
    have h4 : ((2 : UInt8) == 1) = false := rfl
    rw [e, List.cons_append, readL, h3, h4]
    simp only [Bool.false_eq_true, if_false, beq_self_eq_true, if_true]
    rw [if_pos h2, h1, number_eight (bias_lt hn), bias_back hn, List.length_cons, beL_length]
  · have e : keyL 3 0 s = 3 :: textK s.data.toList := rfl
    have h3 : ((3 : UInt8) == 0) = false := rfl
    have h4 : ((3 : UInt8) == 1) = false := rfl
    have h5 : ((3 : UInt8) == 2) = false := rfl
    rw [e, List.cons_append, readL, h3, h4, h5, readT_key]
    simp only [Bool.false_eq_true, if_false, beq_self_eq_true, if_true, Option.bind_some]
    rw [if_pos (by simpa using hs), List.length_cons]

theorem key_read {l : List UInt8} {k n : Int} {t : List UInt8} {m : Nat} (h : readL l = some ((k, n, t), m)) :
    rightB k n ⟨t.toArray⟩ = true ∧ fits n = true ∧ m = (keyL k n ⟨t.toArray⟩).length ∧ ∃ more, l = keyL k n ⟨t.toArray⟩ ++ more := by
  cases l with
  | nil => cases h
  | cons c l =>
    rw [readL] at h
    split at h
    · rename_i hc
      have hc : c = 0 := by simpa using hc
      subst hc
      simp only [Option.some.injEq, Prod.mk.injEq] at h
      obtain ⟨⟨rfl, rfl, rfl⟩, rfl⟩ := h
      exact ⟨rfl, rfl, rfl, l, rfl⟩
    split at h
    · rename_i _ hc
      have hc : c = 1 := by simpa using hc
      subst hc
      split at h
      · rename_i hd
        obtain ⟨h1, h2⟩ := hd
        simp only [Option.some.injEq, Prod.mk.injEq] at h
        obtain ⟨⟨rfl, rfl, rfl⟩, rfl⟩ := h
        cases l with
        | nil => simp at h1
        | cons d l =>
          simp only [List.getD_cons_zero] at h2 ⊢
          have hd : d.toNat = 0 ∨ d.toNat = 1 := by omega
          have hd' : d = 0 ∨ d = 1 := by
            rcases hd with hd | hd
            · exact Or.inl (UInt8.toNat_inj.1 (by simpa using hd))
            · exact Or.inr (UInt8.toNat_inj.1 (by simpa using hd))
          rcases hd' with rfl | rfl
          · exact ⟨rfl, rfl, rfl, l, rfl⟩
          · exact ⟨rfl, rfl, rfl, l, rfl⟩
      · cases h
    split at h
    · rename_i _ _ hc
      have hc : c = 2 := by simpa using hc
      subst hc
      split at h
      · rename_i h8
        simp only [Option.some.injEq, Prod.mk.injEq] at h
        obtain ⟨⟨rfl, rfl, rfl⟩, rfl⟩ := h
        have hl : (l.take 8).length = 8 := by rw [List.length_take]; omega
        have hlt := number_lt (l.take 8)
        have hp : (256 : Nat) ^ 8 = 18446744073709551616 := by decide
        rw [hl, hp] at hlt
        have hb : bias ((number (l.take 8) : Int) - 9223372036854775808) = number (l.take 8) := by unfold bias; omega
        have hk : keyL 2 ((number (l.take 8) : Int) - 9223372036854775808) ⟨[].toArray⟩ = 2 :: l.take 8 := by
          show 2 :: beL 8 (bias _) = _
          rw [hb]
          have := beL_number (l.take 8)
          rw [hl] at this
          rw [this]
        refine ⟨rfl, ?_, ?_, l.drop 8, ?_⟩
        · rw [fits_iff]; omega
        · rw [hk, List.length_cons, hl]
        · rw [hk, List.cons_append, List.take_append_drop]
      · cases h
    split at h
    · rename_i _ _ _ hc
      have hc : c = 3 := by simpa using hc
      subst hc
      cases hr : readT l with
      | none => rw [hr] at h; cases h
      | some p =>
        obtain ⟨t', m'⟩ := p
        rw [hr, Option.bind_some] at h
        split at h
        · rename_i ht
          simp only [Option.some.injEq, Prod.mk.injEq] at h
          obtain ⟨⟨rfl, rfl, rfl⟩, rfl⟩ := h
          obtain ⟨more, e1, e2⟩ := key_readT _ _ _ hr
          refine ⟨?_, rfl, ?_, more, ?_⟩
          · have : (ByteArray.mk t'.toArray).size ≤ 24 := ht
            simp [rightB, this]
          · rw [e2]; rfl
          · rw [e1]; rfl
        · cases h
    · cases h

/-- A key is a beginning of another one, whatever stands behind, just if the values are one. -/
theorem key_prefix {k n : Int} {s : ByteArray} {k' n' : Int} {s' : ByteArray} (h : rightB k n s = true) (hn : fits n = true) (h' : rightB k' n' s' = true) (hn' : fits n' = true) (more : List UInt8) :
    keyL k n s <+: keyL k' n' s' ++ more ↔ k = k' ∧ n = n' ∧ s.data.toList = s'.data.toList := by
  constructor
  · rintro ⟨r, e⟩
    have h1 := read_key h hn r
    rw [e, read_key h' hn' more] at h1
    simp only [Option.some.injEq, Prod.mk.injEq] at h1
    exact ⟨h1.1.1.symm, h1.1.2.1.symm, h1.1.2.2.symm⟩
  · rintro ⟨rfl, rfl, e⟩
    refine ⟨more, ?_⟩
    unfold keyL
    rw [e]

theorem nextL_none {r : List UInt8} (h : ∀ b ∈ r, b = 255) : nextL r = [] := by
  induction r with
  | nil => rfl
  | cons c r ih =>
    have hc : c = 255 := h c (by simp)
    subst hc
    rw [nextL, ih (fun b hb => h b (by simp [hb]))]
    rfl

theorem nextL_at {c : UInt8} (hc : ¬ c = 255) {r : List UInt8} (h : ∀ b ∈ r, b = 255) (l : List UInt8) : nextL (l ++ c :: r) = l ++ [c + 1] := by
  induction l with
  | nil =>
    have hc' : (c == 255) = false := by simpa using hc
    rw [List.nil_append, nextL, nextL_none h, hc']
    rfl
  | cons d l ih =>
    rw [List.cons_append, nextL, ih]
    have : (l ++ [c + 1] == []) = false := by
      rw [beq_eq_false_iff_ne]; simp
    rw [this]
    rfl

theorem key_next (k n : Int) (s : ByteArray) : nextL (keyL k n s) ≠ [] := by
  have : ∃ c l, keyL k n s = c :: l ∧ ¬ c = 255 := by
    unfold keyL
    split
    · exact ⟨_, _, rfl, by decide⟩
    split
    · exact ⟨_, _, rfl, by decide⟩
    split
    · exact ⟨_, _, rfl, by decide⟩
    · exact ⟨_, _, rfl, by decide⟩
  obtain ⟨c, l, e, hc⟩ := this
  rw [e, nextL]
  have hc' : (c == 255) = false := by simpa using hc
  rw [hc']
  split <;> simp
end Go.Proofs.YtedlohapoafkjaaDoor
