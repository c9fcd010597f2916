/-
  A value's text, as a Lean function; unlike right values have unlike ones. Of no program.
-/
import Derived.Test.YtenpmialamffmaaDoorValueB
import Derived.Test.YtenpmialamffmaaDoorQuote
import Derived.Lib.ItoaNum
namespace Go.Proofs.YtenpmialamffmaaDoor
open Go

def digVal (l : List UInt8) : Nat := l.foldl (fun a d => a * 10 + (d.toNat - 48)) 0

theorem digVal_back (l : List UInt8) (d : UInt8) : digVal (l ++ [d]) = digVal l * 10 + (d.toNat - 48) := by simp [digVal]

theorem dig_toNat (u : Nat) (h : u < 10) : (UInt8.ofNat (48 + u)).toNat = 48 + u := by
  rw [UInt8.toNat_ofNat']; omega

theorem digVal_dec (u : Nat) : digVal (Lib.decDigits u) = u := by
  induction u using Nat.strongRecOn with
  | ind u ih =>
    rw [Lib.decDigits]
    split
    · rename_i h
      have := dig_toNat u h
      simp only [digVal, List.foldl_cons, List.foldl_nil, this]
      omega
    · rename_i h
      have := dig_toNat (u % 10) (by omega)
      rw [digVal_back, ih (u / 10) (by omega), this]
      omega

theorem dec_inj {u v : Nat} (h : Lib.decDigits u = Lib.decDigits v) : u = v := by rw [← digVal_dec u, h, digVal_dec]

/-- A numeral opens with a digit. -/
theorem dec_head (u : Nat) : ∃ d l, Lib.decDigits u = d :: l ∧ 48 ≤ d.toNat ∧ d.toNat ≤ 57 := by
  induction u using Nat.strongRecOn with
  | ind u ih =>
    rw [Lib.decDigits]
    split
    · rename_i h
      have := dig_toNat u h
      exact ⟨_, [], rfl, by omega, by omega⟩
    · rename_i h
      obtain ⟨d, l, e, h1, h2⟩ := ih (u / 10) (by omega)
      exact ⟨d, l ++ [UInt8.ofNat (48 + u % 10)], by rw [e]; rfl, h1, h2⟩

theorem itoa_head (n : Int) : ∃ d l, Lib.itoa n = d :: l ∧ (d.toNat = 45 ∨ (48 ≤ d.toNat ∧ d.toNat ≤ 57)) := by
  unfold Lib.itoa
  split
  · exact ⟨45, _, rfl, Or.inl rfl⟩
  · obtain ⟨d, l, e, h1, h2⟩ := dec_head n.toNat
    exact ⟨d, l, e, Or.inr ⟨h1, h2⟩⟩

theorem itoa_inj {m n : Int} (h : Lib.itoa m = Lib.itoa n) : m = n := by
  unfold Lib.itoa at h
  obtain ⟨d, l, e, h1, h2⟩ := dec_head m.toNat
  obtain ⟨d', l', e', h1', h2'⟩ := dec_head n.toNat
  split at h <;> split at h
  · have := dec_inj (List.cons.inj h).2
    omega
  · rw [e'] at h
    have := (List.cons.inj h).1
    subst this
    exact absurd h1' (by decide)
  · rw [e] at h
    have := (List.cons.inj h).1
    subst this
    exact absurd h1 (by decide)
  · have := dec_inj h
    omega

theorem each_inj (l : List UInt8) : ∀ l', each 39 [39, 39] l = each 39 [39, 39] l' → l = l' := by
  induction l with
  | nil =>
    intro l' h
    cases l' with
    | nil => rfl
    | cons b l' =>
      by_cases e : b = 39
      · subst e; rw [each_cons_eq] at h; cases h
      · rw [each_cons_ne e] at h; cases h
  | cons a l ih =>
    intro l' h
    cases l' with
    | nil =>
      by_cases e : a = 39
      · subst e; rw [each_cons_eq] at h; cases h
      · rw [each_cons_ne e] at h; cases h
    | cons b l' =>
      by_cases e : a = 39 <;> by_cases e' : b = 39
      · subst e; subst e'
        rw [each_cons_eq, each_cons_eq] at h
        simp only [List.cons_append, List.nil_append, List.cons.injEq, true_and] at h
        rw [ih l' h]
      · subst e
        rw [each_cons_eq, each_cons_ne e'] at h
        exact absurd (List.cons.inj h).1.symm e'
      · subst e'
        rw [each_cons_eq, each_cons_ne e] at h
        exact absurd (List.cons.inj h).1 e
      · rw [each_cons_ne e, each_cons_ne e'] at h
        rw [(List.cons.inj h).1, ih l' (List.cons.inj h).2]

/-- A value's text. -/
def showL (k n : Int) (s : ByteArray) : List UInt8 :=
  if k == 0 then [78, 85, 76, 76] else if k == 1 && n == 0 then [70, 65, 76, 83, 69] else if k == 1 && n == 1 then [84, 82, 85, 69]
  else if k == 2 then Lib.itoa n else if k == 3 then 39 :: (each 39 [39, 39] s.data.toList ++ [39]) else []

theorem quote_list (s : ByteArray) : quoteB s = ⟨(showL 3 0 s).toArray⟩ := by
  apply ByteArray.ext
  simp [quoteB, showL]

/-- Five kinds of right values, each with its text's first byte. -/
theorem show_first {k n : Int} {s : ByteArray} (h : rightB k n s = true) :
    (k = 0 ∧ n = 0 ∧ s.toList = [] ∧ showL k n s = [78, 85, 76, 76]) ∨ (k = 1 ∧ n = 0 ∧ s.toList = [] ∧ showL k n s = [70, 65, 76, 83, 69]) ∨ (k = 1 ∧ n = 1 ∧ s.toList = [] ∧ showL k n s = [84, 82, 85, 69]) ∨
    (k = 2 ∧ s.toList = [] ∧ showL k n s = Lib.itoa n) ∨ (k = 3 ∧ n = 0 ∧ showL k n s = 39 :: (each 39 [39, 39] s.toList ++ [39])) := by
  have hl : (s.size == 0) = true → s.toList = [] := fun e => by rw [← toList_isEmpty] at e; simpa using e
  unfold rightB at h
  split at h
  · rename_i hk
    rw [Bool.and_eq_true, beq_iff_eq] at h
    exact Or.inl ⟨by simpa using hk, h.1, hl h.2, by simp [showL, hk]⟩
  split at h
  · rename_i hk0 hk
    rw [Bool.and_eq_true, Bool.or_eq_true, beq_iff_eq, beq_iff_eq] at h
    have hk' : k = 1 := by simpa using hk
    subst hk'
    rcases h.1 with rfl | rfl
    · exact Or.inr (Or.inl ⟨rfl, rfl, hl h.2, rfl⟩)
    · exact Or.inr (Or.inr (Or.inl ⟨rfl, rfl, hl h.2, rfl⟩))
  split at h
  · rename_i hk
    have hk' : k = 2 := by simpa using hk
    subst hk'
    exact Or.inr (Or.inr (Or.inr (Or.inl ⟨rfl, hl h, rfl⟩)))
  · simp only [Bool.and_eq_true, beq_iff_eq] at h
    obtain ⟨⟨rfl, rfl⟩, _⟩ := h
    exact Or.inr (Or.inr (Or.inr (Or.inr ⟨rfl, rfl, by rw [ByteArray.toList_eq]; rfl⟩)))

theorem show_inj {k n : Int} {s : ByteArray} {k' n' : Int} {s' : ByteArray} (h : rightB k n s = true) (h' : rightB k' n' s' = true) :
    showL k n s = showL k' n' s' ↔ k = k' ∧ n = n' ∧ s.toList = s'.toList := by
  obtain ⟨d, l, e, hd⟩ := itoa_head n
  obtain ⟨d', l', e', hd'⟩ := itoa_head n'
  constructor
  · intro hs
    rcases show_first h with ⟨rfl, rfl, h1, h2⟩ | ⟨rfl, rfl, h1, h2⟩ | ⟨rfl, rfl, h1, h2⟩ | ⟨rfl, h1, h2⟩ | ⟨rfl, rfl, h2⟩ <;>
    rcases show_first h' with ⟨rfl, rfl, h3, h4⟩ | ⟨rfl, rfl, h3, h4⟩ | ⟨rfl, rfl, h3, h4⟩ | ⟨rfl, h3, h4⟩ | ⟨rfl, rfl, h4⟩ <;>
    rw [h2, h4] at hs <;>
    first
      | exact ⟨rfl, rfl, h1.trans h3.symm⟩
      | exact ⟨rfl, itoa_inj hs, h1.trans h3.symm⟩
      | (refine ⟨rfl, rfl, each_inj _ _ ?_⟩; have := (List.cons.inj hs).2; exact List.append_cancel_right this)
      | (exfalso; revert hs; decide)
      | (exfalso; rw [e] at hs; have := (List.cons.inj hs).1; subst this; revert hd; decide)
      | (exfalso; rw [e'] at hs; have := (List.cons.inj hs).1; subst this; revert hd'; decide)
      | (exfalso; have := (List.cons.inj hs).1; revert this; decide)
  · rintro ⟨rfl, rfl, h3⟩
    have h3' : s.data.toList = s'.data.toList := by rw [← ByteArray.toList_eq, ← ByteArray.toList_eq]; exact h3
    unfold showL
    rw [h3']
end Go.Proofs.YtenpmialamffmaaDoor
