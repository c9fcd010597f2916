/-
  Delta, plain: the order of rows, folding changes, the net effect. Of no program.
-/
import Derived.Lib.Bytealg
import Derived.Test.YtmcbpopeinabcaaDlB
namespace Go.Proofs.Ytmcbpopeinabcaa
open Go.RowKit

theorem snoc_ind {α : Type} {p : List α → Prop} (h0 : p []) (h1 : ∀ l a, p l → p (l ++ [a])) (l : List α) : p l := by
  have : ∀ r : List α, p r.reverse := by
    intro r
    induction r with
    | nil => exact h0
    | cons a r ih => rw [List.reverse_cons]; exact h1 _ _ ih
  simpa using this l.reverse

/-- By what a change names its row. -/
def Chg.key (c : Chg) : ByteArray × Int := (c.t, c.id)

/-- Is a row named so? -/
def Chg.isK (c : Chg) (k : ByteArray × Int) : Bool := c.t.toList == k.1.toList && c.id == k.2

theorem isK_iff {c : Chg} {k : ByteArray × Int} : c.isK k = true ↔ c.key = k := by
  obtain ⟨t, id⟩ := k
  simp only [Chg.isK, Bool.and_eq_true, beq_iff_eq, Chg.key, Prod.mk.injEq]
  constructor
  · rintro ⟨h1, h2⟩; exact ⟨bytes_ext h1, h2⟩
  · rintro ⟨h1, h2⟩; exact ⟨by rw [h1], h2⟩

theorem isK_self (c : Chg) : c.isK c.key = true := isK_iff.2 rfl
theorem isK_ne {c : Chg} {k : ByteArray × Int} (h : c.key ≠ k) : c.isK k = false := by
  cases e : c.isK k
  · rfl
  · exact absurd (isK_iff.1 e) h

def firstO (l : List Chg) (k : ByteArray × Int) : Option (List Va) := (l.find? (·.isK k)).map (·.o)
def lastN (l : List Chg) (k : ByteArray × Int) : Option (List Va) := (l.reverse.find? (·.isK k)).map (·.n)

theorem firstO_append (l m : List Chg) (k : ByteArray × Int) : firstO (l ++ m) k = (firstO l k).or (firstO m k) := by
  unfold firstO
  rw [List.find?_append]
  cases l.find? (·.isK k) <;> simp

theorem lastN_append (l m : List Chg) (k : ByteArray × Int) : lastN (l ++ m) k = (lastN m k).or (lastN l k) := by
  unfold lastN
  rw [List.reverse_append, List.find?_append]
  cases m.reverse.find? (·.isK k) <;> simp

theorem firstO_one (c : Chg) (k : ByteArray × Int) : firstO [c] k = if c.key = k then some c.o else none := by
  by_cases h : c.key = k
  · simp [firstO, isK_iff.2 h, h]
  · simp [firstO, isK_ne h, h]

theorem lastN_one (c : Chg) (k : ByteArray × Int) : lastN [c] k = if c.key = k then some c.n else none := by
  by_cases h : c.key = k
  · simp [lastN, isK_iff.2 h, h]
  · simp [lastN, isK_ne h, h]

theorem first_last (k : ByteArray × Int) (l : List Chg) : (firstO l k).isSome = (lastN l k).isSome := by
  induction l using snoc_ind with
  | h0 => rfl
  | h1 l a ih =>
    rw [firstO_append, lastN_append, firstO_one, lastN_one]
    split
    · cases firstO l k <;> rfl
    · cases h1 : firstO l k <;> cases h2 : lastN l k <;> simp [h1, h2] at ih ⊢

/-- One change more. -/
def stepC (rows : List Chg) (c : Chg) : List Chg := if rows.any (·.isK c.key) then rows.map (fun r => if r.isK c.key then { r with n := c.n } else r) else rows ++ [c]

def foldC (l : List Chg) : List Chg := l.foldl stepC []

theorem foldC_snoc (l : List Chg) (c : Chg) : foldC (l ++ [c]) = stepC (foldC l) c := by unfold foldC; rw [List.foldl_append]; rfl

/-- What the rows are. -/
structure Rows (l rows : List Chg) : Prop where
  apart : rows.Pairwise (fun a b => a.key ≠ b.key)
  mem : ∀ r, r ∈ rows ↔ firstO l r.key = some r.o ∧ lastN l r.key = some r.n

theorem upd_key (r c : Chg) : (if r.isK c.key then { r with n := c.n } else r).key = r.key := by split <;> rfl

theorem Rows.step {l rows : List Chg} (h : Rows l rows) (c : Chg) : Rows (l ++ [c]) (stepC rows c) := by
  unfold stepC
  split
  · rename_i ha
    obtain ⟨r0, hr0, hk0⟩ := List.any_eq_true.1 ha
    rw [isK_iff] at hk0
    obtain ⟨hf0, hl0⟩ := (h.mem r0).1 hr0
    rw [hk0] at hf0 hl0
    refine ⟨?_, fun r => ?_⟩
    · rw [List.pairwise_map]
      exact h.apart.imp fun hab => by rw [upd_key, upd_key]; exact hab
    · rw [firstO_append, lastN_append, firstO_one, lastN_one]
      by_cases hk : c.key = r.key
      · rw [if_pos hk, if_pos hk, ← hk, hf0]
        simp only [Option.or_some, Option.some_or, Option.some.injEq]
        constructor
        · intro hm
          obtain ⟨r1, hr1, e⟩ := List.mem_map.1 hm
          have k1 : r1.key = c.key := by rw [← upd_key r1 c, e, hk]
          rw [if_pos (isK_iff.2 k1)] at e
          obtain ⟨f1, _⟩ := (h.mem r1).1 hr1
          rw [k1, hf0] at f1
          cases e
          exact ⟨Option.some.inj f1, rfl⟩
        · rintro ⟨e1, e2⟩
          refine List.mem_map.2 ⟨r0, hr0, ?_⟩
          rw [if_pos (isK_iff.2 hk0)]
          obtain ⟨t0, i0, o0, n0⟩ := r0
          obtain ⟨t, i, o, n⟩ := r
          simp only [Chg.key] at hk hk0 e1 e2
          rw [hk] at hk0
          simp only [Prod.mk.injEq] at hk0
          obtain ⟨rfl, rfl⟩ := hk0
          have e1' : o0 = o := e1
          subst e1'; subst e2; rfl
      · rw [if_neg hk, if_neg hk]
        simp only [Option.or_none, Option.none_or]
        rw [← h.mem r]
        constructor
        · intro hm
          obtain ⟨r1, hr1, e⟩ := List.mem_map.1 hm
          have k1 : r1.key ≠ c.key := by rw [← upd_key r1 c, e]; exact fun e => hk e.symm
          rw [isK_ne k1] at e
          simp at e
          rw [← e]; exact hr1
        · intro hm
          refine List.mem_map.2 ⟨r, hm, ?_⟩
          rw [isK_ne (fun e => hk e.symm)]
          simp
  · rename_i ha
    have hno : ∀ r ∈ rows, r.key ≠ c.key := fun r hr e => ha (List.any_eq_true.2 ⟨r, hr, isK_iff.2 e⟩)
    have hf : firstO l c.key = none := by
      cases hf : firstO l c.key with
      | none => rfl
      | some o =>
        have := first_last c.key l
        rw [hf] at this
        cases hl : lastN l c.key with
        | none => rw [hl] at this; cases this
        | some n => exact absurd rfl (hno ⟨c.t, c.id, o, n⟩ ((h.mem _).2 ⟨hf, hl⟩))
    refine ⟨?_, fun r => ?_⟩
    · rw [List.pairwise_append]
      exact ⟨h.apart, by simp, fun a ga b hb => by simp at hb; subst hb; exact hno a ga⟩
    · rw [firstO_append, lastN_append, firstO_one, lastN_one, List.mem_append, h.mem r]
      by_cases hk : c.key = r.key
      · rw [if_pos hk, if_pos hk, ← hk, hf]
        simp only [Option.none_or, Option.some_or, Option.some.injEq, List.mem_singleton, reduceCtorEq, false_and, false_or]
        constructor
        · rintro rfl; exact ⟨rfl, rfl⟩
        · rintro ⟨e1, e2⟩
          obtain ⟨t, i, o, n⟩ := r
          obtain ⟨t', i', o', n'⟩ := c
          simp only [Chg.key, Prod.mk.injEq] at hk e1 e2
          obtain ⟨rfl, rfl⟩ := hk
          subst e1; subst e2; rfl
      · rw [if_neg hk, if_neg hk]
        simp only [Option.or_none, Option.none_or, List.mem_singleton, or_iff_left_iff_imp]
        rintro rfl
        exact absurd rfl hk

theorem rows_fold (l : List Chg) : Rows l (foldC l) := by
  induction l using snoc_ind with
  | h0 => exact ⟨List.Pairwise.nil, fun r => by simp [foldC, firstO]⟩
  | h1 l a ih => rw [foldC_snoc]; exact ih.step a

/-- One row stands ahead of another. -/
def keyLt (a b : ByteArray × Int) : Prop := a.1.toList < b.1.toList ∨ a.1.toList = b.1.toList ∧ a.2 < b.2

theorem keyLt_irrefl (a : ByteArray × Int) : ¬ keyLt a a := by
  rintro (h | ⟨_, h⟩)
  · exact List.lt_irrefl _ h
  · omega

theorem keyLt_trans {a b c : ByteArray × Int} (h : keyLt a b) (k : keyLt b c) : keyLt a c := by
  rcases h with h | ⟨h1, h2⟩ <;> rcases k with k | ⟨k1, k2⟩
  · exact Or.inl (List.lt_trans h k)
  · exact Or.inl (k1 ▸ h)
  · exact Or.inl (h1 ▸ k)
  · exact Or.inr ⟨h1.trans k1, by omega⟩

theorem list_tri (a b : List UInt8) : a < b ∨ a = b ∨ b < a := by
  induction a generalizing b with
  | nil => cases b <;> simp
  | cons x a ih =>
    cases b with
    | nil => simp
    | cons y b =>
      rw [List.cons_lt_cons_iff, List.cons_lt_cons_iff]
      have : x < y ∨ x = y ∨ y < x := by
        rw [UInt8.lt_iff_toNat_lt, UInt8.lt_iff_toNat_lt, ← UInt8.toNat_inj]; omega
      rcases this with h | rfl | h
      · exact Or.inl (Or.inl h)
      · rcases ih b with h | rfl | h
        · exact Or.inl (Or.inr ⟨rfl, h⟩)
        · exact Or.inr (Or.inl rfl)
        · exact Or.inr (Or.inr (Or.inr ⟨rfl, h⟩))
      · exact Or.inr (Or.inr (Or.inl h))

theorem keyLt_tri (a b : ByteArray × Int) : keyLt a b ∨ a = b ∨ keyLt b a := by
  obtain ⟨s, i⟩ := a
  obtain ⟨t, j⟩ := b
  rcases list_tri s.toList t.toList with h | h | h
  · exact Or.inl (Or.inl h)
  · have : i < j ∨ i = j ∨ j < i := by omega
    rcases this with g | g | g
    · exact Or.inl (Or.inr ⟨h, g⟩)
    · exact Or.inr (Or.inl (by rw [bytes_ext h, g]))
    · exact Or.inr (Or.inr (Or.inr ⟨h.symm, g⟩))
  · exact Or.inr (Or.inr (Or.inl h))

/-- The net effect: by rows, rising; just those that differ. -/
structure IsNet (l N : List Chg) : Prop where
  rise : N.Pairwise (fun a b => keyLt a.key b.key)
  mem : ∀ c, c ∈ N ↔ firstO l c.key = some c.o ∧ lastN l c.key = some c.n ∧ c.o ≠ c.n
  len : N.length ≤ l.length

theorem rising_unique {α : Type} {lt : α → α → Prop} (irr : ∀ a, ¬ lt a a) (tr : ∀ {a b c}, lt a b → lt b c → lt a c) : ∀ {l m : List α}, l.Pairwise lt → m.Pairwise lt → (∀ x, x ∈ l ↔ x ∈ m) → l = m
  | [], [], _, _, _ => rfl
  | [], y :: m, _, _, h => absurd ((h y).2 (by simp)) (by simp)
  | x :: l, [], _, _, h => absurd ((h x).1 (by simp)) (by simp)
  | x :: l, y :: m, hl, hm, h => by
    obtain ⟨hx, hl'⟩ := List.pairwise_cons.1 hl
    obtain ⟨hy, hm'⟩ := List.pairwise_cons.1 hm
    have e : x = y := by
      rcases List.mem_cons.1 ((h x).1 (by simp)) with e | e
      · exact e
      · rcases List.mem_cons.1 ((h y).2 (by simp)) with e' | e'
        · exact e'.symm
        · exact absurd (tr (hx y e') (hy x e)) (irr x)
    subst e
    congr 1
    refine rising_unique irr tr hl' hm' fun z => ?_
    have hz := h z
    simp only [List.mem_cons] at hz
    constructor
    · intro hzl
      rcases hz.1 (Or.inr hzl) with rfl | hz'
      · exact absurd (hx z hzl) (irr z)
      · exact hz'
    · intro hzm
      rcases hz.2 (Or.inr hzm) with rfl | hz'
      · exact absurd (hy z hzm) (irr z)
      · exact hz'

theorem net_rising {N M : List Chg} (h : N.Pairwise (fun a b => keyLt a.key b.key)) (k : M.Pairwise (fun a b => keyLt a.key b.key)) (hm : ∀ c, c ∈ N ↔ c ∈ M) : N = M :=
  rising_unique (lt := fun a b : Chg => keyLt a.key b.key) (fun _ => keyLt_irrefl _) (fun h k => keyLt_trans h k) h k hm

theorem IsNet.uniq {l N M : List Chg} (h : IsNet l N) (k : IsNet l M) : N = M := net_rising h.rise k.rise fun c => (h.mem c).trans (k.mem c).symm

theorem foldC_length (l : List Chg) : (foldC l).length ≤ l.length := by
  induction l using snoc_ind with
  | h0 => exact Nat.le_refl _
  | h1 l a ih =>
    rw [foldC_snoc]
    unfold stepC
    split <;> simp <;> omega

/-- Rows in order, those that differ. -/
theorem net_of {l D : List Chg} (hp : D.Perm (foldC l)) (hs : D.Pairwise (fun a b => ¬ keyLt b.key a.key)) : IsNet l (D.filter fun c => !(c.kind == 0)) := by
  have hr := rows_fold l
  have hd : D.Pairwise (fun a b => a.key ≠ b.key) := (hp.pairwise_iff (fun {a b} (h : a.key ≠ b.key) => h.symm)).2 hr.apart
  refine ⟨List.Pairwise.filter _ ?_, fun c => ?_, Nat.le_trans (List.length_filter_le _ _) (by rw [hp.length_eq]; exact foldC_length l)⟩
  · refine List.Pairwise.imp ?_ (hd.and hs)
    rintro a b ⟨h1, h2⟩
    rcases keyLt_tri a.key b.key with h | h | h
    · exact h
    · exact absurd h h1
    · exact absurd h h2
  · rw [List.mem_filter, hp.mem_iff, hr.mem c, and_assoc]
    have : (!(c.kind == 0)) = true ↔ c.o ≠ c.n := by
      rw [Bool.not_eq_true', beq_eq_false_iff_ne, ne_eq]
      unfold Chg.kind
      rw [kindL_zero]
    rw [this]
end Go.Proofs.Ytmcbpopeinabcaa
