/-
  Rising entries, as a list in order: parts of them, one more among them; each half of a leaf that is just too great fits. Of no program's text.
-/
import Derived.Test.YtmelakljiimlgaaNdJ
import Derived.Test.YtmelakljiimlgaaSpG
namespace Go.Proofs.Ytmelakljiimlgaa
open Go.RowKit

def ltP (x y : ByteArray) : Prop := Op.bytesLess x.toList y.toList = true

theorem rises_iff (l : List ByteArray) : risesB l = true ↔ (∀ s ∈ l, 1 ≤ s.size ∧ s.size ≤ 400) ∧ l.Pairwise ltP := by
  constructor
  · intro h
    refine ⟨fun s hs => ?_, List.pairwise_iff_getElem.2 fun i j hi hj hij => rises_lt h j i hij hj⟩
    obtain ⟨i, hi, rfl⟩ := List.getElem_of_mem hs
    have := List.all_eq_true.1 h i (by simpa using hi)
    rcases rec_cases l i hi with ⟨_, no⟩ | ⟨_, no⟩ | ⟨_, h1, h2, _⟩ | ⟨_, _, _, h1, h2, _, _⟩ | ⟨_, _, _, h1, h2, _, _⟩
    · rw [no] at this; cases this
    · rw [no] at this; cases this
    · exact ⟨h1, h2⟩
    · exact ⟨h1, h2⟩
    · exact ⟨h1, h2⟩
  · rintro ⟨h1, h2⟩
    refine rises_of l fun i hi => ?_
    have hs := h1 l[i] (List.getElem_mem hi)
    have e1 : decide (1 ≤ l[i].size) = true := decide_eq_true hs.1
    have e2 : decide (l[i].size ≤ 400) = true := decide_eq_true hs.2
    cases i with
    | zero => rw [recOk_zero l hi, e1, e2]; rfl
    | succ i => rw [recOk_succ l i hi, e1, e2, List.pairwise_iff_getElem.1 h2 i (i + 1) (by omega) hi (by omega)]; rfl

theorem rises_take {l : List ByteArray} (h : risesB l = true) (k : Nat) : risesB (l.take k) = true := by
  rw [rises_iff] at h ⊢
  exact ⟨fun s hs => h.1 s (List.mem_of_mem_take hs), h.2.sublist (List.take_sublist k l)⟩

theorem rises_drop {l : List ByteArray} (h : risesB l = true) (k : Nat) : risesB (l.drop k) = true := by
  rw [rises_iff] at h ⊢
  exact ⟨fun s hs => h.1 s (List.mem_of_mem_drop hs), h.2.sublist (List.drop_sublist k l)⟩

/-- One more entry among others. -/
def insL (l : List ByteArray) (s : ByteArray) : List ByteArray := l.take (firstN l s) ++ [s] ++ l.drop (firstN l s)

theorem rises_ins {l : List ByteArray} (h : risesB l = true) (s : ByteArray) (h1 : 1 ≤ s.size) (h2 : s.size ≤ 400) (hn : isAt l s (firstN l s) = false) : risesB (insL l s) = true := by
  have hk := firstN_le l s
  have hlow : ∀ x ∈ l.take (firstN l s), ltP x s := fun x hx => by
    obtain ⟨i, hi, rfl⟩ := List.getElem_of_mem hx
    simp at hi
    rw [List.getElem_take]
    exact first_lt l s i (by omega) (by omega)
  have hhigh : ∀ x ∈ l.drop (firstN l s), ltP s x := fun x hx => by
    obtain ⟨i, hi, rfl⟩ := List.getElem_of_mem hx
    simp at hi
    rw [List.getElem_drop]
    have hlt : firstN l s < l.length := by omega
    have g := first_ge l s hlt
    unfold isAt at hn
    rw [List.getElem?_eq_getElem hlt] at hn
    have h0 : Op.bytesLess s.toList l[firstN l s].toList = true := by
      have := le_not_lt l[firstN l s].toList s.toList
      unfold ltB at g
      simp only at hn
      rw [g, hn] at this
      simpa using this.symm
    by_cases e : i = 0
    · subst e
      exact h0
    · exact lt_trans_b h0 (rises_lt h (firstN l s + i) (firstN l s) (by omega) (by omega))
  rw [rises_iff] at h ⊢
  unfold insL
  refine ⟨fun x hx => ?_, ?_⟩
  · rcases List.mem_append.1 hx with hx | hx
    · rcases List.mem_append.1 hx with hx | hx
      · exact h.1 x (List.mem_of_mem_take hx)
      · simp at hx; subst hx; exact ⟨h1, h2⟩
    · exact h.1 x (List.mem_of_mem_drop hx)
  · rw [List.append_assoc, List.pairwise_append]
    refine ⟨h.2.sublist (List.take_sublist _ l), ?_, fun x hx y hy => ?_⟩
    · rw [List.pairwise_append]
      refine ⟨by simp, h.2.sublist (List.drop_sublist _ l), fun x hx y hy => ?_⟩
      simp at hx
      subst hx
      exact hhigh y hy
    · rcases List.mem_append.1 hy with hy | hy
      · simp at hy; subst hy; exact hlow x hx
      · exact lt_trans_b (hlow x hx) (hhigh y hy)

theorem leaf_shaped (l : List ByteArray) : (No.mk true l []).shaped = risesB l := by
  rw [shaped_eq]
  simp [numbB]

theorem weigh_append (x y : List ByteArray) : weigh (x ++ y) = weigh x + weigh y := by
  unfold weigh; rw [List.map_append, List.sum_append]

theorem ins_length (l : List ByteArray) (s : ByteArray) : (insL l s).length = l.length + 1 := by
  have := firstN_le l s
  unfold insL
  simp
  omega

theorem ins_weigh (l : List ByteArray) (s : ByteArray) : weigh (insL l s) = weigh l + (4 + s.size) := by
  unfold insL
  rw [weigh_append, weigh_append]
  have h1 : weigh l = weigh (l.take (firstN l s)) + weigh (l.drop (firstN l s)) := by rw [← weigh_append, List.take_append_drop]
  have h2 : weigh [s] = 4 + s.size := by simp [weigh]
  omega

theorem ins_mem (l : List ByteArray) (s x : ByteArray) (h : x ∈ insL l s) : x = s ∨ x ∈ l := by
  unfold insL at h
  rcases List.mem_append.1 h with h | h
  · rcases List.mem_append.1 h with h | h
    · exact Or.inr (List.mem_of_mem_take h)
    · simp at h; exact Or.inl h
  · exact Or.inr (List.mem_of_mem_drop h)

theorem weigh_sum (l : List ByteArray) : weigh l = (wts 4 l).sum := rfl

/-- Each half of a leaf that is too great by one entry fits. -/
theorem halves_fit {l : List ByteArray} (hw : weigh l ≤ 1425) (hs : ∀ s ∈ l, s.size ≤ 400) (h2 : 2 ≤ l.length) : 3 + weigh (l.take (cutN 4 0 l)) ≤ 1024 ∧ 3 + weigh (l.drop (cutN 4 0 l)) ≤ 1024 := by
  obtain ⟨k, k1, k2, k3, k4⟩ := half_exists (wts 4 l) 404 (fun x hx => by
    obtain ⟨s, h, rfl⟩ := List.mem_map.1 hx
    have := hs s h
    omega) (by rw [wts_length]; exact h2)
  rw [wts_length] at k2
  rw [weigh_sum] at hw
  have hp := sum_parts (wts 4 l) k
  have hm : heavy 4 0 l (cutN 4 0 l) ≤ heavy 4 0 l k := minAt_min _ _ k k1 (by omega)
  have hh : heavy 4 0 l k ≤ 914 := by
    unfold heavy sumN
    rw [Nat.add_zero]
    omega
  obtain ⟨c1, c2⟩ := cutN_le 4 0 l (by omega)
  have w1 := weigh_take 0 l (cutN 4 0 l) (by omega)
  have w2 := weigh_drop 0 l (cutN 4 0 l)
  have hd : heavy 4 0 l (cutN 4 0 l) = max (sumN 4 l (cutN 4 0 l)) ((wts 4 l).sum - sumN 4 l (cutN 4 0 l)) := by unfold heavy; rw [Nat.add_zero]
  rw [Nat.zero_mul, Nat.add_zero] at w1 w2
  rw [hd] at hm
  have e4 : (4 + 0) = 4 := rfl
  rw [e4] at w1 w2
  omega
end Go.Proofs.Ytmelakljiimlgaa
