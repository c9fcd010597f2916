/-
  Keys stand as their values do; so do rows of as many values. Of no program.
-/
import Derived.Lib.Small
import Derived.Test.YtedlohapoafkjaaDoorKeyL
namespace Go.Proofs.YtedlohapoafkjaaDoor
open Go

def or3 (x y z : Int) : Int := if x == 0 then (if y == 0 then z else y) else x

/-- How two lists of bytes stand. -/
def signL (x y : List UInt8) : Int := if x < y then -1 else if y < x then 1 else 0

/-- How two values stand: by the kind, then the number, then the text. -/
def ordL (k n : Int) (s : List UInt8) (k' n' : Int) (s' : List UInt8) : Int := or3 (Lib.compareInt k k') (Lib.compareInt n n') (signL s s')

theorem signL_refl (l : List UInt8) : signL l l = 0 := by
  unfold signL
  rw [if_neg (List.lt_irrefl l), if_neg (List.lt_irrefl l)]

theorem signL_zero {x y : List UInt8} : signL x y = 0 ↔ x = y := by
  constructor
  · intro h
    unfold signL at h
    split at h
    · cases h
    split at h
    · cases h
    · rename_i h1 h2
      exact List.le_antisymm (List.not_lt.1 h2) (List.not_lt.1 h1)
  · rintro rfl; exact signL_refl x

theorem signL_cons (c : UInt8) (x y : List UInt8) : signL (c :: x) (c :: y) = signL x y := by simp [signL]

theorem signL_append (c x y : List UInt8) : signL (c ++ x) (c ++ y) = signL x y := by
  induction c with
  | nil => rfl
  | cons d c ih => rw [List.cons_append, List.cons_append, signL_cons, ih]

theorem signL_head {c d : UInt8} (h : c < d) (x y : List UInt8) : signL (c :: x) (d :: y) = -1 := by simp [signL, List.cons_lt_cons_iff, h]

theorem signL_head' {c d : UInt8} (h : d < c) (x y : List UInt8) : signL (c :: x) (d :: y) = 1 := by
  have h1 : ¬ c < d := fun e => absurd (UInt8.lt_trans h e) (UInt8.lt_irrefl d)
  have h2 : ¬ c = d := fun e => by subst e; exact UInt8.lt_irrefl c h
  simp [signL, List.cons_lt_cons_iff, h, h1, h2]

theorem signL_apart {a b : List UInt8} (x y : List UInt8) (h1 : ¬ a <+: b) (h2 : ¬ b <+: a) : signL (a ++ x) (b ++ y) = signL a b := by
  unfold signL
  simp only [lt_apart a b x y h1 h2, lt_apart b a y x h2 h1]

theorem compareInt_eq (x : Int) : Lib.compareInt x x = 0 := by simp [Lib.compareInt]

theorem signL_eight {m n : Int} (hm : fits m = true) (hn : fits n = true) : signL (beL 8 (bias m)) (beL 8 (bias n)) = Lib.compareInt m n := by
  unfold signL Lib.compareInt
  simp only [eight_lt _ _ (bias_lt hm) (bias_lt hn), eight_lt _ _ (bias_lt hn) (bias_lt hm)]
  rw [fits_iff] at hm hn
  unfold bias
  by_cases h1 : m < n
  · rw [if_pos h1, if_pos (by omega)]
  · rw [if_neg h1, if_neg (by omega)]
    by_cases h2 : m > n
    · rw [if_pos h2, if_pos (by omega)]
    · rw [if_neg h2, if_neg (by omega)]

theorem signL_text (s t : List UInt8) : signL (textK s) (textK t) = signL s t := by
  unfold signL
  simp only [textK_lt]

/-- Keys stand as their values do. -/
theorem key_order {k n : Int} {s : ByteArray} {k' n' : Int} {s' : ByteArray} (h : rightB k n s = true) (hn : fits n = true) (h' : rightB k' n' s' = true) (hn' : fits n' = true) :
    signL (keyL k n s) (keyL k' n' s') = ordL k n s.data.toList k' n' s'.data.toList := by
  have e2 : ∀ m t, keyL 2 m t = 2 :: beL 8 (bias m) := fun _ _ => rfl
  have e3 : ∀ m t, keyL 3 m t = 3 :: textK t.data.toList := fun _ _ => rfl
  have e0 : ∀ m t, keyL 0 m t = [0] := fun _ _ => rfl
  have e10 : ∀ t, keyL 1 0 t = [1, 0] := fun _ => rfl
  have e11 : ∀ t, keyL 1 1 t = [1, 1] := fun _ => rfl
  rcases right_cases h with ⟨rfl, rfl, rfl⟩ | ⟨rfl, rfl | rfl, rfl⟩ | ⟨rfl, rfl⟩ | ⟨rfl, rfl, hs⟩ <;>
  rcases right_cases h' with ⟨rfl, rfl, rfl⟩ | ⟨rfl, rfl | rfl, rfl⟩ | ⟨rfl, rfl⟩ | ⟨rfl, rfl, hs'⟩ <;>
  simp only [e0, e10, e11, e2, e3]
  all_goals first
    | (rw [signL_refl, ordL]; simp only [compareInt_eq, signL_refl]; rfl)
    | (rw [signL_head (by decide)]; rfl)
    | (rw [signL_head' (by decide)]; rfl)
    | (rw [signL_cons, signL_eight hn hn', ordL, compareInt_eq, signL_refl]; unfold or3; simp; done)
    | (rw [signL_cons, signL_text, ordL]; simp only [compareInt_eq]; rfl)
    | (rw [signL_cons, signL_head (by decide)]; rfl)
    | (rw [signL_cons, signL_head' (by decide)]; rfl)

theorem compareInt_zero {x y : Int} : Lib.compareInt x y = 0 ↔ x = y := by
  unfold Lib.compareInt
  constructor
  · intro h
    split at h
    · cases h
    split at h
    · cases h
    · omega
  · rintro rfl; simp

theorem ordL_zero {k n : Int} {s : List UInt8} {k' n' : Int} {s' : List UInt8} : ordL k n s k' n' s' = 0 ↔ k = k' ∧ n = n' ∧ s = s' := by
  unfold ordL or3
  rw [← compareInt_zero (x := k), ← compareInt_zero (x := n), ← signL_zero (x := s)]
  constructor
  · intro h
    split at h
    · rename_i h1
      split at h
      · rename_i h2
        exact ⟨by simpa using h1, by simpa using h2, h⟩
      · rename_i h2
        exact absurd h (by simpa using h2)
    · rename_i h1
      exact absurd h (by simpa using h1)
  · rintro ⟨h1, h2, h3⟩
    simp [h1, h2, h3]

/-- A value, as the laws on rows take it. -/
structure Val where
  k : Int
  n : Int
  s : ByteArray

def Val.ok (v : Val) : Prop := rightB v.k v.n v.s = true ∧ fits v.n = true
def Val.key (v : Val) : List UInt8 := keyL v.k v.n v.s
def Val.ord (a b : Val) : Int := ordL a.k a.n a.s.data.toList b.k b.n b.s.data.toList

def rowK (l : List Val) : List UInt8 := l.flatMap Val.key

/-- How two rows stand: as their first unlike values. -/
def rowOrd : List Val → List Val → Int
  | a :: l, b :: l' => if a.ord b == 0 then rowOrd l l' else a.ord b
  | _, _ => 0

theorem val_ext {a b : Val} (h : a.ord b = 0) : a = b := by
  obtain ⟨h1, h2, h3⟩ := ordL_zero.1 h
  cases a; cases b
  simp only at h1 h2 h3
  subst h1; subst h2
  congr 1
  exact ByteArray.ext (Array.toList_inj.1 h3)

theorem row_order (l : List Val) : ∀ l' : List Val, l.length = l'.length → (∀ v ∈ l, v.ok) → (∀ v ∈ l', v.ok) → signL (rowK l) (rowK l') = rowOrd l l' := by
  induction l with
  | nil => intro l' h; have : l' = [] := List.length_eq_zero_iff.1 h.symm; subst this; intro _ _; rfl
  | cons a l ih =>
    intro l' h ha hb
    cases l' with
    | nil => cases h
    | cons b l' =>
      have hl : l.length = l'.length := by simpa using h
      have A := ha a (by simp)
      have B := hb b (by simp)
      have ih' := ih l' hl (fun v hv => ha v (by simp [hv])) (fun v hv => hb v (by simp [hv]))
      show signL (a.key ++ rowK l) (b.key ++ rowK l') = if a.ord b == 0 then rowOrd l l' else a.ord b
      by_cases e : a.ord b = 0
      · have := val_ext e
        subst this
        rw [signL_append, ih', e]
        rfl
      · have e' : (a.ord b == 0) = false := by simpa using e
        rw [e', signL_apart]
        · exact key_order A.1 A.2 B.1 B.2
        · intro hp
          have := (key_prefix A.1 A.2 B.1 B.2 []).1 (by rw [List.append_nil]; exact hp)
          exact e (ordL_zero.2 this)
        · intro hp
          have := (key_prefix B.1 B.2 A.1 A.2 []).1 (by rw [List.append_nil]; exact hp)
          exact e (ordL_zero.2 ⟨this.1.symm, this.2.1.symm, this.2.2.symm⟩)
end Go.Proofs.YtedlohapoafkjaaDoor
