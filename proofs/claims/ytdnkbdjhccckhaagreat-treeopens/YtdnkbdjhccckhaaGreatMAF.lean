import Derived.Test.YtdnkbdjhccckhaaGreatMAB
namespace Go.Proofs.YtdnkbdjhccckhaaGreat.L5
theorem sum_parts (l: List Nat) (k: Nat): (l.take k).sum + (l.drop k).sum = l.sum := by
 rw [<- List.sum_append,List.take_append_drop]
theorem half_exists (l: List Nat) (m: Nat) (hm: ∀ x ∈ l,x <= m) (h2: 2 <= l.length): ∃ k,1 <= k /\ k < l.length /\ 2 * (l.take k).sum <= l.sum + m /\ 2 * (l.drop k).sum <= l.sum + m := by
 have hlast: l.sum <= 2 * (l.take (l.length - 1)).sum + m := by
  have h1 := sum_parts l (l.length - 1)
  have hlt: l.length - 1 < l.length := by omega
  have e: l.drop (l.length - 1) = [l[l.length - 1]] := by
   rw [List.drop_eq_getElem_cons hlt,List.drop_eq_nil_of_le (by omega)]
  have h3 := hm l[l.length - 1] (List.getElem_mem hlt)
  rw [e] at h1
  simp at h1
  omega
 have hex: ∃ k,1 <= k /\ k <= l.length - 1 /\ l.sum <= 2 * (l.take k).sum + m /\ (k = 1 \/ 2 * (l.take (k - 1)).sum + m < l.sum) := by
  have: ∀ n,n <= l.length - 1 -> 1 <= n -> l.sum <= 2 * (l.take n).sum + m -> ∃ k,1 <= k /\ k <= l.length - 1 /\ l.sum <= 2 * (l.take k).sum + m /\ (k = 1 \/ 2 * (l.take (k - 1)).sum + m < l.sum) := by
   intro n
   induction n with
   | zero => intro _ h; omega
   | succ n ih =>
    intro h1 h3 h4
    by_cases h0: n = 0
    · exact ⟨n + 1,h3,h1,h4,Or.inl (by omega)⟩
    · by_cases h5: l.sum <= 2 * (l.take n).sum + m
      · exact ih (by omega) (by omega) h5
      · exact ⟨n + 1,h3,h1,h4,Or.inr (by rw [Nat.add_sub_cancel]; omega)⟩
  exact this _ (Nat.le_refl _) (by omega) hlast
 obtain ⟨k,h1,h3,h4,h5⟩ := hex
 refine ⟨k,h1,by omega, ?_, ?_⟩
 · obtain ⟨j,rfl⟩: ∃ j,k = j + 1 := ⟨k - 1,by omega⟩
   have hlt: j < l.length := by omega
   have hx := hm l[j] (List.getElem_mem hlt)
   have e: (l.take (j + 1)).sum = (l.take j).sum + l[j] := by
    rw [List.take_add_one,List.sum_append,List.getElem?_eq_getElem hlt]
    simp
   have hp := sum_parts l (j + 1)
   have e': (l.take (j + 1)).sum <= (l.take j).sum + m := by rw [e]; exact Nat.add_le_add_left hx _
   rcases h5 with h5 | h5
   · have: j = 0 := by omega
     subst this
     have e1: (l.take (0 + 1)).sum <= m := by
      have z: (l.take 0).sum = 0 := rfl
      rw [z] at e'
      omega
     generalize (l.take (0 + 1)).sum = s1 at *
     generalize (l.drop (0 + 1)).sum = s2 at *
     omega
   · rw [Nat.add_sub_cancel] at h5
     omega
 · have hp := sum_parts l k
   omega
def minAt (f: Nat -> Nat): Nat -> Nat
 | 0 => 1
 | i + 1 => if f (i + 2) < f (minAt f i) then i + 2 else minAt f i
theorem minAt_le (f: Nat -> Nat) (i: Nat): 1 <= minAt f i /\ minAt f i <= i + 1 := by
 induction i with
 | zero => exact ⟨Nat.le_refl _,Nat.le_refl _⟩
 | succ i ih =>
  unfold minAt
  split
  · omega
  · omega
theorem minAt_min (f: Nat -> Nat) (i: Nat): ∀ k,1 <= k -> k <= i + 1 -> f (minAt f i) <= f k := by
 induction i with
 | zero => intro k h1 h2; have : k = 1 := by omega
           subst this; exact Nat.le_refl _
 | succ i ih =>
  intro k h1 h2
  unfold minAt
  split
  · rename_i h
    by_cases e: k = i + 2
    · subst e; exact Nat.le_refl _
    · have := ih k h1 (by omega); omega
  · rename_i h
    by_cases e: k = i + 2
    · subst e; omega
    · exact ih k h1 (by omega)
theorem minAt_pos (f: Nat -> Nat) (i: Nat) (h: f (i + 2) < f (minAt f i)): minAt f (i + 1) = i + 2 := by
 show (if f (i + 2) < f (minAt f i) then i + 2 else minAt f i) = _
 rw [if_pos h]
theorem minAt_neg (f: Nat -> Nat) (i: Nat) (h: ¬ f (i + 2) < f (minAt f i)): minAt f (i + 1) = minAt f i := by
 show (if f (i + 2) < f (minAt f i) then i + 2 else minAt f i) = _
 rw [if_neg h]
def wts (m: Nat) (l: List ByteArray): List Nat := l.map fun s => m + s.size
def sumN (m: Nat) (l: List ByteArray) (i: Nat): Nat := ((wts m l).take i).sum
def heavy (m g: Nat) (l: List ByteArray) (k: Nat): Nat := max (sumN m l k) ((wts m l).sum - sumN m l (k + g))
def cutN (m g: Nat) (l: List ByteArray): Nat := minAt (heavy m g l) (l.length - g - 2)
theorem wts_length (m: Nat) (l: List ByteArray): (wts m l).length = l.length := by simp [wts]
theorem sumN_snoc (m: Nat) (l: List ByteArray) (i: Nat) (h: i < l.length): sumN m l (i + 1) = sumN m l i + (m + l[i].size) := by
 unfold sumN
 rw [List.take_succ_eq_append_getElem (by rw [wts_length]; exact h),List.sum_append]
 simp [wts]
theorem sumN_all (m: Nat) (l: List ByteArray): sumN m l l.length = (wts m l).sum := by
 unfold sumN
 rw [List.take_of_length_le (by rw [wts_length]; exact Nat.le_refl _)]
theorem sumN_le (m: Nat) (l: List ByteArray) (i: Nat): sumN m l i <= (wts m l).sum := by
 unfold sumN
 have := sum_parts (wts m l) i
 omega
theorem wts_sum_le (m: Nat) (l: List ByteArray) (h: ∀ s ∈ l,s.size <= 5000) (hm: m <= 8): (wts m l).sum <= 5008 * l.length := by
 induction l with
 | nil => exact Nat.le_refl _
 | cons x l ih =>
  have h1 := ih fun s hs => h s (by simp [hs])
  have h2 := h x (by simp)
  unfold wts at h1 ⊢
  simp only [List.map_cons,List.sum_cons,List.length_cons]
  omega
theorem wts_big (m: Nat) (l: List ByteArray) (h: ∀ s ∈ l,s.size <= 5000) (hm: m <= 8) (hl: l.length <= 1000): (wts m l).sum <= 5008000 := by
 have := wts_sum_le m l h hm
 omega
theorem cutN_le (m g: Nat) (l: List ByteArray) (h: g + 2 <= l.length): 1 <= cutN m g l /\ cutN m g l + g < l.length := by
 have := minAt_le (heavy m g l) (l.length - g - 2)
 unfold cutN
 omega
end Go.Proofs.YtdnkbdjhccckhaaGreat.L5
