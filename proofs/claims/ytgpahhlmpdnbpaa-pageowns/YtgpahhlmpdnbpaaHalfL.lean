/-
  A list of weights can be parted so that the heavier side is at most half of all and of the heaviest. Of no program.
-/
import Derived.Test.YtgpahhlmpdnbpaaOnly
namespace Go.Proofs.Ytgpahhlmpdnbpaa

theorem sum_parts (l : List Nat) (k : Nat) : (l.take k).sum + (l.drop k).sum = l.sum := by
  rw [← List.sum_append, List.take_append_drop]

theorem half_exists (l : List Nat) (m : Nat) (hm : ∀ x ∈ l, x ≤ m) (h2 : 2 ≤ l.length) : ∃ k, 1 ≤ k ∧ k < l.length ∧ 2 * (l.take k).sum ≤ l.sum + m ∧ 2 * (l.drop k).sum ≤ l.sum + m := by
  have hlast : l.sum ≤ 2 * (l.take (l.length - 1)).sum + m := by
    have h1 := sum_parts l (l.length - 1)
    have hlt : l.length - 1 < l.length := by omega
    have e : l.drop (l.length - 1) = [l[l.length - 1]] := by
      rw [List.drop_eq_getElem_cons hlt, List.drop_eq_nil_of_le (by omega)]
    have h3 := hm l[l.length - 1] (List.getElem_mem hlt)
    rw [e] at h1
    simp at h1
    omega
  have hex : ∃ k, 1 ≤ k ∧ k ≤ l.length - 1 ∧ l.sum ≤ 2 * (l.take k).sum + m ∧ (k = 1 ∨ 2 * (l.take (k - 1)).sum + m < l.sum) := by
    have : ∀ n, n ≤ l.length - 1 → 1 ≤ n → l.sum ≤ 2 * (l.take n).sum + m → ∃ k, 1 ≤ k ∧ k ≤ l.length - 1 ∧ l.sum ≤ 2 * (l.take k).sum + m ∧ (k = 1 ∨ 2 * (l.take (k - 1)).sum + m < l.sum) := by
      intro n
      induction n with
      | zero => intro _ h; omega
      | succ n ih =>
        intro h1 h3 h4
        by_cases h0 : n = 0
        · exact ⟨n + 1, h3, h1, h4, Or.inl (by omega)⟩
        · by_cases h5 : l.sum ≤ 2 * (l.take n).sum + m
          · exact ih (by omega) (by omega) h5
          · exact ⟨n + 1, h3, h1, h4, Or.inr (by rw [Nat.add_sub_cancel]; omega)⟩
    exact this _ (Nat.le_refl _) (by omega) hlast
  obtain ⟨k, h1, h3, h4, h5⟩ := hex
  refine ⟨k, h1, by omega, ?_, ?_⟩
  · obtain ⟨j, rfl⟩ : ∃ j, k = j + 1 := ⟨k - 1, by omega⟩
    have hlt : j < l.length := by omega
    have hx := hm l[j] (List.getElem_mem hlt)
    have e : (l.take (j + 1)).sum = (l.take j).sum + l[j] := by
      rw [List.take_add_one, List.sum_append, List.getElem?_eq_getElem hlt]
      simp
    have hp := sum_parts l (j + 1)
    have e' : (l.take (j + 1)).sum ≤ (l.take j).sum + m := by rw [e]; exact Nat.add_le_add_left hx _
    rcases h5 with h5 | h5
    · have : j = 0 := by omega
      subst this
      have e1 : (l.take (0 + 1)).sum ≤ m := by
        have z : (l.take 0).sum = 0 := rfl
        rw [z] at e'
        omega
      generalize (l.take (0 + 1)).sum = s1 at *
      generalize (l.drop (0 + 1)).sum = s2 at *
      omega
    · rw [Nat.add_sub_cancel] at h5
      omega
  · have hp := sum_parts l k
    omega
end Go.Proofs.Ytgpahhlmpdnbpaa
