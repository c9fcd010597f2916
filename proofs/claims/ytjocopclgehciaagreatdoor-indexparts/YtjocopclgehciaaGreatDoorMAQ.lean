/-
  The document's Cut.
-/
import Derived.Test.YtjocopclgehciaaGreatDoorMAP
import Derived.Test.YtjocopclgehciaaGreatDoorMAO
namespace Go.Proofs.YtjocopclgehciaaGreatDoor.L5
open Go.RowKit

/-- A world behind the boxing of a node that can be read. -/
structure Nq (w : World) (n : No) (a : Option Addr) (c : Nat) (a' : Option Addr) (c' : Nat) (wr : World) : Prop where
  bx : Bx w n a c a' c' wr
  nr : NR wr n a c a' c'

theorem Nq.on {w : World} {n : No} {a : Option Addr} {c : Nat} {a' : Option Addr} {c' : Nat} {wr wr' : World} (h : Nq w n a c a' c' wr) (hb : Below wr.heap.size wr wr') : Nq w n a c a' c' wr' := ⟨h.bx.on hb, h.nr.below hb⟩

theorem Nq.new {w : World} {n : No} {a : Option Addr} {c : Nat} {a' : Option Addr} {c' : Nat} (hr : NR w n a c a' c') (t : TypeId) : Nq w n a c a' c' (w.alloc (.cells #[.bool n.leaf, .slice a n.recs.length c, .slice a' n.kids.length c'] t)) := ⟨Bx.new w n a c a' c' t, hr.below (below_alloc _ _)⟩

/-- A world in which all that W holds still stands. -/
structure BelowW (W : World) where
  w : World
  below : Below W.heap.size W w

theorem wp_region_below {P : Program} {id : Nat} {Q : Exit → Act → World → Prop} {a : Act} {W : World} {l : List Oper} (hm : P.follows .mixedOrders = true) (hB : Region.lexB .any l.toArray = true)
    (h : Nonempty (BelowW W) → wpQuiet P l.toArray (fun w' => ∃ q : BelowW W, w' = q.w) (fun a' => ∀ w', (∃ q : BelowW W, w' = q.w) → Q .normal a' w') l a) : (Code.region id l.toArray true).wp P Q a W :=
  wp_region_quiet (C := fun w' => ∃ q : BelowW W, w' = q.w) hm hB ⟨⟨{ W with drawn := W.drawn + 1 }, (Below.refl _ _).drew⟩, rfl⟩ (by simpa using h ⟨⟨W, Below.refl _ _⟩⟩)

theorem quiet_of_below {P : Program} {f : FuncId} {args : Array Value} {W : World} {q : BelowW W} {v : Value} (h : Calls P f args q.w fun e w' => e = .returned v ∧ Below q.w.heap.size q.w w') :
    Calls P f args q.w fun e w'' => e = .returned v ∧ ∃ q' : BelowW W, w'' = q'.w :=
  h.mono fun _ w' ⟨he, hb⟩ => ⟨he, ⟨w', below_on q.below hb⟩, rfl⟩

/-- The heaviest side's function and its gap, by the kind. -/
def No.gap (n : No) : Nat := if n.leaf then 0 else 1
def No.hv (n : No) (k : Nat) : Nat := if n.leaf then heavy 4 0 n.recs k else heavy 8 1 n.recs k
def No.cut (n : No) : Nat := minAt n.hv (n.recs.length - n.gap - 2)

theorem cut_leaf {n : No} (h : n.leaf = true) : n.cut = cutN 4 0 n.recs := by
  unfold No.cut cutN No.gap
  rw [if_pos h]
  congr 1
  funext k
  unfold No.hv
  rw [if_pos h]

theorem cut_inner {n : No} (h : n.leaf = false) : n.cut = cutN 8 1 n.recs := by
  unfold No.cut cutN No.gap
  rw [h]
  congr 1
  funext k
  unfold No.hv
  rw [h]
  rfl

theorem side_some {n : No} {k : Nat} (h : k + n.gap < n.recs.length) : sideI n k = (n.hv k : Int) := by
  unfold sideI No.hv
  unfold No.gap at h
  cases hl : n.leaf
  · rw [hl] at h
    simp at h
    rw [if_neg (by decide), if_pos h, if_neg (by decide)]
  · rw [if_pos rfl, if_pos rfl]

theorem side_none {n : No} {k : Nat} (hk : k < n.recs.length) (h : ¬ k + n.gap < n.recs.length) : sideI n k = -1 := by
  unfold sideI
  unfold No.gap at h
  cases hl : n.leaf
  · rw [hl] at h
    simp at h
    rw [if_neg (by decide), if_neg (by omega)]
  · rw [hl] at h
    simp at h
    omega

end Go.Proofs.YtjocopclgehciaaGreatDoor.L5
/-
  Rising entries, as a list in order: parts of them, one more among them; each half of a leaf that is just too great fits. Of no program's text.
-/
namespace Go.Proofs.YtjocopclgehciaaGreatDoor.L5
open Go.RowKit

def ltP (x y : ByteArray) : Prop := Op.bytesLess x.toList y.toList = true

theorem rises_iff (l : List ByteArray) : risesB l = true ↔ (∀ s ∈ l, 1 ≤ s.size ∧ s.size ≤ 400) ∧ l.Pairwise ltP := by
  constructor
  · intro h
    refine ⟨fun s hs => ?_, List.pairwise_iff_getElem.2 fun i j hi hj hij => rises_lt h j i hij hj⟩
    obtain ⟨i, hi, rfl⟩ := List.getElem_of_mem hs
    have := List.all_eq_true.1 h i (by simpa using hi)
    rcases rec_cases l i hi with ⟨_, no⟩ | ⟨_, no⟩ | ⟨_, h1, h2, _⟩ | ⟨_, _, _, h1, h2, _, _⟩ | ⟨_, _, _, h1, h2, _, _⟩
    · rw [no] at this; cases this
    · rw [no] at this; cases this
    · exact ⟨h1, h2⟩
    · exact ⟨h1, h2⟩
    · exact ⟨h1, h2⟩
  · rintro ⟨h1, h2⟩
    refine rises_of l fun i hi => ?_
    have hs := h1 l[i] (List.getElem_mem hi)
    have e1 : decide (1 ≤ l[i].size) = true := decide_eq_true hs.1
    have e2 : decide (l[i].size ≤ 400) = true := decide_eq_true hs.2
    cases i with
    | zero => rw [recOk_zero l hi, e1, e2]; rfl
    | succ i => rw [recOk_succ l i hi, e1, e2, List.pairwise_iff_getElem.1 h2 i (i + 1) (by omega) hi (by omega)]; rfl

theorem rises_take {l : List ByteArray} (h : risesB l = true) (k : Nat) : risesB (l.take k) = true := by
  rw [rises_iff] at h ⊢
  exact ⟨fun s hs => h.1 s (List.mem_of_mem_take hs), h.2.sublist (List.take_sublist k l)⟩

theorem rises_drop {l : List ByteArray} (h : risesB l = true) (k : Nat) : risesB (l.drop k) = true := by
  rw [rises_iff] at h ⊢
  exact ⟨fun s hs => h.1 s (List.mem_of_mem_drop hs), h.2.sublist (List.drop_sublist k l)⟩

/-- One more entry among others. -/
def insL (l : List ByteArray) (s : ByteArray) : List ByteArray := l.take (firstN l s) ++ [s] ++ l.drop (firstN l s)

theorem rises_ins {l : List ByteArray} (h : risesB l = true) (s : ByteArray) (h1 : 1 ≤ s.size) (h2 : s.size ≤ 400) (hn : isAt l s (firstN l s) = false) : risesB (insL l s) = true := by
  have hk := firstN_le l s
  have hlow : ∀ x ∈ l.take (firstN l s), ltP x s := fun x hx => by
    obtain ⟨i, hi, rfl⟩ := List.getElem_of_mem hx
    simp at hi
    rw [List.getElem_take]
    exact first_lt l s i (by omega) (by omega)
  have hhigh : ∀ x ∈ l.drop (firstN l s), ltP s x := fun x hx => by
    obtain ⟨i, hi, rfl⟩ := List.getElem_of_mem hx
    simp at hi
    rw [List.getElem_drop]
    have hlt : firstN l s < l.length := by omega
    have g := first_ge l s hlt
    unfold isAt at hn
    rw [List.getElem?_eq_getElem hlt] at hn
    have h0 : Op.bytesLess s.toList l[firstN l s].toList = true := by
      have := le_not_lt l[firstN l s].toList s.toList
      unfold ltB at g
      simp only at hn
      rw [g, hn] at this
      simpa using this.symm
    by_cases e : i = 0
    · subst e
      exact h0
    · exact lt_trans_b h0 (rises_lt h (firstN l s + i) (firstN l s) (by omega) (by omega))
  rw [rises_iff] at h ⊢
  unfold insL
  refine ⟨fun x hx => ?_, ?_⟩
  · rcases List.mem_append.1 hx with hx | hx
    · rcases List.mem_append.1 hx with hx | hx
      · exact h.1 x (List.mem_of_mem_take hx)
      · simp at hx; subst hx; exact ⟨h1, h2⟩
    · exact h.1 x (List.mem_of_mem_drop hx)
  · rw [List.append_assoc, List.pairwise_append]
    refine ⟨h.2.sublist (List.take_sublist _ l), ?_, fun x hx y hy => ?_⟩
    · rw [List.pairwise_append]
      refine ⟨by simp, h.2.sublist (List.drop_sublist _ l), fun x hx y hy => ?_⟩
      simp at hx
      subst hx
      exact hhigh y hy
    · rcases List.mem_append.1 hy with hy | hy
      · simp at hy; subst hy; exact hlow x hx
      · exact lt_trans_b (hlow x hx) (hhigh y hy)

theorem leaf_shaped (l : List ByteArray) : (No.mk true l []).shaped = risesB l := by
  rw [shaped_eq]
  simp [numbB]

theorem weigh_append (x y : List ByteArray) : weigh (x ++ y) = weigh x + weigh y := by
  unfold weigh; rw [List.map_append, List.sum_append]

theorem ins_length (l : List ByteArray) (s : ByteArray) : (insL l s).length = l.length + 1 := by
  have := firstN_le l s
  unfold insL
  simp
  omega

theorem ins_weigh (l : List ByteArray) (s : ByteArray) : weigh (insL l s) = weigh l + (4 + s.size) := by
  unfold insL
  rw [weigh_append, weigh_append]
  have h1 : weigh l = weigh (l.take (firstN l s)) + weigh (l.drop (firstN l s)) := by rw [← weigh_append, List.take_append_drop]
  have h2 : weigh [s] = 4 + s.size := by simp [weigh]
  omega

theorem ins_mem (l : List ByteArray) (s x : ByteArray) (h : x ∈ insL l s) : x = s ∨ x ∈ l := by
  unfold insL at h
  rcases List.mem_append.1 h with h | h
  · rcases List.mem_append.1 h with h | h
    · exact Or.inr (List.mem_of_mem_take h)
    · simp at h; exact Or.inl h
  · exact Or.inr (List.mem_of_mem_drop h)

theorem weigh_sum (l : List ByteArray) : weigh l = (wts 4 l).sum := rfl

/-- Each half of a leaf that is too great by one entry fits. -/
theorem halves_fit {l : List ByteArray} (hw : weigh l ≤ 1425) (hs : ∀ s ∈ l, s.size ≤ 400) (h2 : 2 ≤ l.length) : 3 + weigh (l.take (cutN 4 0 l)) ≤ 1024 ∧ 3 + weigh (l.drop (cutN 4 0 l)) ≤ 1024 := by
  obtain ⟨k, k1, k2, k3, k4⟩ := half_exists (wts 4 l) 404 (fun x hx => by
    obtain ⟨s, h, rfl⟩ := List.mem_map.1 hx
    have := hs s h
    omega) (by rw [wts_length]; exact h2)
  rw [wts_length] at k2
  rw [weigh_sum] at hw
  have hp := sum_parts (wts 4 l) k
  have hm : heavy 4 0 l (cutN 4 0 l) ≤ heavy 4 0 l k := minAt_min _ _ k k1 (by omega)
  have hh : heavy 4 0 l k ≤ 914 := by
    unfold heavy sumN
    rw [Nat.add_zero]
    omega
  obtain ⟨c1, c2⟩ := cutN_le 4 0 l (by omega)
  have w1 := weigh_take 0 l (cutN 4 0 l) (by omega)
  have w2 := weigh_drop 0 l (cutN 4 0 l)
  have hd : heavy 4 0 l (cutN 4 0 l) = max (sumN 4 l (cutN 4 0 l)) ((wts 4 l).sum - sumN 4 l (cutN 4 0 l)) := by unfold heavy; rw [Nat.add_zero]
  rw [Nat.zero_mul, Nat.add_zero] at w1 w2
  rw [hd] at hm
  have e4 : (4 + 0) = 4 := rfl
  rw [e4] at w1 w2
  omega
end Go.Proofs.YtjocopclgehciaaGreatDoor.L5
