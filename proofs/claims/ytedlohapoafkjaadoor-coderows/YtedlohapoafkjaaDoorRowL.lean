/-
  Rows of values as bytes, and back: the plain laws. Of no program.
-/
import Derived.Test.YtedlohapoafkjaaDoorOrdK
import Derived.Test.YtedlohapoafkjaaDoorReadL
namespace Go.Proofs.YtedlohapoafkjaaDoor
open Go

def okRow (l : List Val) : Bool := decide (l.length ≤ 6) && l.all fun v => rightB v.k v.n v.s

def Val.fit (v : Val) : Prop := fits v.n = true

/-- The values whose keys a list of bytes is, behind those that are there; at most f more. -/
def unr : Nat → List Val → List UInt8 → Option (List Val)
  | 0, acc, s => if s = [] then some acc else none
  | f + 1, acc, s => if s = [] then some acc else match readL s with
    | none => none
    | some p => unr f (acc ++ [⟨p.1.1, p.1.2.1, ⟨p.1.2.2.toArray⟩⟩]) (s.drop p.2)

theorem unr_nil (f : Nat) (acc : List Val) : unr f acc [] = some acc := by cases f <;> rfl

theorem unr_none {f : Nat} {acc : List Val} {s : List UInt8} (h : ¬ s = []) (hr : readL s = none) : unr f acc s = none := by
  cases f with
  | zero => rw [unr, if_neg h]
  | succ f => rw [unr, if_neg h, hr]

theorem unr_full {acc : List Val} {s : List UInt8} (h : ¬ s = []) : unr 0 acc s = none := by rw [unr, if_neg h]

theorem unr_step {f : Nat} {acc : List Val} {s : List UInt8} {k n : Int} {t : List UInt8} {m : Nat} (h : ¬ s = []) (hr : readL s = some ((k, n, t), m)) :
    unr (f + 1) acc s = unr f (acc ++ [⟨k, n, ⟨t.toArray⟩⟩]) (s.drop m) := by rw [unr, if_neg h, hr]

theorem rowK_cons (v : Val) (l : List Val) : rowK (v :: l) = v.key ++ rowK l := rfl

theorem rowK_snoc (l : List Val) (v : Val) : rowK (l ++ [v]) = rowK l ++ v.key := by simp [rowK]

theorem unr_spec (f : Nat) : ∀ (acc : List Val) (s : List UInt8) (l : List Val), unr f acc s = some l → ∃ l', l = acc ++ l' ∧ l'.length ≤ f ∧ (∀ v ∈ l', v.ok) ∧ s = rowK l' := by
  induction f with
  | zero =>
    intro acc s l h
    by_cases hs : s = []
    · subst hs
      rw [unr_nil] at h
      cases h
      exact ⟨[], by simp, by simp, by simp, rfl⟩
    · rw [unr_full hs] at h; cases h
  | succ f ih =>
    intro acc s l h
    by_cases hs : s = []
    · subst hs
      rw [unr_nil] at h
      cases h
      exact ⟨[], by simp, by simp, by simp, rfl⟩
    · cases hr : readL s with
      | none => rw [unr_none hs hr] at h; cases h
      | some p =>
        obtain ⟨⟨k, n, t⟩, m⟩ := p
        rw [unr_step hs hr] at h
        obtain ⟨r1, r2, r3, more, r4⟩ := key_read hr
        obtain ⟨l', e1, e2, e3, e4⟩ := ih _ _ _ h
        refine ⟨⟨k, n, ⟨t.toArray⟩⟩ :: l', by rw [e1]; simp, by simp; omega, ?_, ?_⟩
        · intro v hv
          rcases List.mem_cons.1 hv with rfl | hv
          · exact ⟨r1, r2⟩
          · exact e3 v hv
        · rw [rowK_cons, ← e4, r3, r4]
          show _ = keyL k n _ ++ _
          rw [List.drop_left]

theorem key_ne (k n : Int) (s : ByteArray) : keyL k n s ≠ [] := by
  unfold keyL
  split
  · simp
  split
  · simp
  split <;> simp

theorem unr_row (l : List Val) : ∀ (f : Nat) (acc : List Val), l.length ≤ f → (∀ v ∈ l, v.ok) → unr f acc (rowK l) = some (acc ++ l) := by
  induction l with
  | nil => intro f acc _ _; show unr f acc [] = _; rw [unr_nil]; simp
  | cons v l ih =>
    intro f acc hf hok
    cases f with
    | zero => simp at hf
    | succ f =>
      have hv := hok v (by simp)
      have hr := read_key hv.1 hv.2 (rowK l)
      have hne : ¬ rowK (v :: l) = [] := by
        rw [rowK_cons]
        intro e
        exact key_ne v.k v.n v.s (List.append_eq_nil_iff.1 e).1
      rw [unr_step hne hr, rowK_cons]
      have e : (v.key ++ rowK l).drop (keyL v.k v.n v.s).length = rowK l := List.drop_left
      rw [e]
      have e2 : (⟨v.k, v.n, ⟨v.s.data.toList.toArray⟩⟩ : Val) = v := by cases v; rfl
      rw [e2, ih f (acc ++ [v]) (by simpa using hf) (fun u hu => hok u (by simp [hu]))]
      simp

theorem okRow_iff (l : List Val) (hf : ∀ v ∈ l, v.fit) : okRow l = true ↔ l.length ≤ 6 ∧ ∀ v ∈ l, v.ok := by
  simp only [okRow, Bool.and_eq_true, decide_eq_true_eq, List.all_eq_true]
  constructor
  · rintro ⟨h1, h2⟩; exact ⟨h1, fun v hv => ⟨h2 v hv, hf v hv⟩⟩
  · rintro ⟨h1, h2⟩; exact ⟨h1, fun v hv => (h2 v hv).1⟩

theorem key_len {v : Val} (h : rightB v.k v.n v.s = true) : v.key.length ≤ 60 := by
  show (keyL v.k v.n v.s).length ≤ 60
  obtain ⟨k, n, s⟩ := v
  rcases right_cases h with ⟨rfl, rfl, rfl⟩ | ⟨rfl, rfl | rfl, rfl⟩ | ⟨rfl, rfl⟩ | ⟨rfl, rfl, hs⟩
  · decide
  · decide
  · decide
  · show (2 :: beL 8 (bias n)).length ≤ 60
    rw [List.length_cons, beL_length]; decide
  · show (3 :: (each 0 [0, 255] s.data.toList ++ [0, 1])).length ≤ 60
    have := each_length 0 [0, 255] s.data.toList (by decide)
    have h2 : s.data.toList.length = s.size := rfl
    have hs' : s.size ≤ 24 := hs
    simp only [List.length_cons, List.length_append, List.length_nil]
    omega

theorem row_len (l : List Val) (h : ∀ v ∈ l, rightB v.k v.n v.s = true) : (rowK l).length ≤ 60 * l.length := by
  induction l with
  | nil => simp [rowK]
  | cons v l ih =>
    rw [rowK_cons, List.length_append, List.length_cons]
    have := key_len (h v (by simp))
    have := ih (fun u hu => h u (by simp [hu]))
    omega
end Go.Proofs.YtedlohapoafkjaaDoor
