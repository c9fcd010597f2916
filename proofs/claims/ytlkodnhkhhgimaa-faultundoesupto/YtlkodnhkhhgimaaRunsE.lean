/-
  The book: what is written down lies in a row of its own; the walk of note.
-/
import Derived.Test.YtlkodnhkhhgimaaRunsC
import Derived.Deep.RegionLaw
import Derived.Deep.AppendLies
namespace Go.Proofs.Ytlkodnhkhhgimaa
open Go.RowKit

/-- What the book holds: the slice, and the marks that it owns. -/
structure Bk where
  v : Value
  ms : List Mk

theorem ownsRow_keep {w w' : World} {base : Nat} {e : TypeId} {size : Nat} {v : Value} {n : Nat} {xs : List Value} (h : w.ownsRow base e size v n xs) (hk : ∀ k, some k = v.ownBlock → w'.heap[k]? = w.heap[k]?) : w'.ownsRow base e size v n xs := by
  refine ⟨h.1, ?_⟩
  rcases h.2 with hn | ⟨g, cap, cur, rfl, hb, hg, rest⟩
  · exact .inl hn
  · exact .inr ⟨g, cap, cur, rfl, hb, by rw [hk g (by simp [Value.ownBlock])]; exact hg, rest⟩

def bkSt (N0 bk : Nat) : St Bk where
  own := fun s k => k = bk ∨ some k = s.v.ownBlock
  P := fun s w => w.heap[bk]? = some (.cells #[s.v] 28 (0, 0)) ∧ w.ownsRow N0 54 3 s.v s.ms.length (mksCells s.ms)
  keep := fun s w w' h hk => ⟨by rw [hk bk (Or.inl rfl)]; exact h.1, ownsRow_keep h.2 fun k e => hk k (Or.inr e)⟩
  lt := fun s w k h e => by
    rcases e with rfl | e
    · exact lt_of_block h.1
    · exact (h.2.lt k e.symm).2

theorem bk_other {N0 bk : Nat} {s : Bk} {w : World} (h : (bkSt N0 bk).P s w) {b : Nat} {cs : Array Value} {t : TypeId} {f : Nat × Nat} (ht : t ≠ 54) (hb : w.heap[b]? = some (.cells cs t f)) : some b ≠ s.v.ownBlock := by
  intro e
  rcases h.2.2 with ⟨hv, -⟩ | ⟨g, cap, cur, hv, -, hg, -⟩
  · rw [hv] at e; simp [Value.ownBlock] at e
  · rw [hv] at e
    simp [Value.ownBlock] at e
    subst e
    rw [hg] at hb
    simp at hb
    exact ht hb.2.1.symm

/-- What an append onto the book's slice, stored into the book, leaves. -/
theorem bk_next {N0 bk : Nat} {s : Bk} {w W w1 : World} {ns : List Mk} {g cap : Nat} (h : (bkSt N0 bk).P s w) (hW : Below w.heap.size w W) (hown : w1.ownsRow N0 54 3 (.slice (some ⟨g, 0, none⟩) (s.ms.length + ns.length) cap) (s.ms.length + ns.length) (mksCells s.ms ++ mksCells ns))
    (hg : W.grownBy w1 s.v.ownBlock) (hat : s.v.ownBlock = some g ∨ w.heap.size ≤ g) :
    (bkSt N0 bk).P ⟨.slice (some ⟨g, 0, none⟩) (s.ms.length + ns.length) cap, s.ms ++ ns⟩ (w1.setCell ⟨bk, 0, none⟩ (.slice (some ⟨g, 0, none⟩) (s.ms.length + ns.length) cap)) ∧
    Moves (bkSt N0 bk) s ⟨.slice (some ⟨g, 0, none⟩) (s.ms.length + ns.length) cap, s.ms ++ ns⟩ w (w1.setCell ⟨bk, 0, none⟩ (.slice (some ⟨g, 0, none⟩) (s.ms.length + ns.length) cap)) := by
  have hbk := lt_of_block h.1
  have hz := hW.size
  have hne := bk_other h (by decide) h.1
  have h1 : w1.heap[bk]? = some (.cells #[s.v] 28 (0, 0)) := by rw [hg.block bk (by omega) hne, hW.block bk hbk]; exact h.1
  have hgb : g ≠ bk := by
    rintro rfl
    rcases hown.2 with ⟨hv, -⟩ | ⟨g', cap', cur, hv, -, hg', -⟩
    · simp at hv
    · simp only [Value.slice.injEq, Option.some.injEq, Addr.mk.injEq, and_true] at hv
      obtain ⟨rfl, -⟩ := hv
      rw [hg'] at h1
      simp at h1
  refine ⟨⟨one_setCell h1, ?_⟩, ⟨?_, ?_⟩⟩
  · have := ownsRow_setCell_other hown (a := ⟨bk, 0, none⟩) (by simp [Value.ownBlock]; exact hgb) (.slice (some ⟨g, 0, none⟩) (s.ms.length + ns.length) cap)
    simpa [mksCells_append] using this
  · exact Only.setCell (S := (bkSt N0 bk).own s) ((Only.of_below hW).grown hg fun k e => Or.inr (Or.inr e.symm)) (p := ⟨bk, 0, none⟩) (Or.inr (Or.inl rfl)) _
  · intro k hk
    rcases hk with rfl | e
    · exact Or.inl (Or.inl rfl)
    · simp only [Value.ownBlock, Option.some.injEq] at e
      subst e
      rcases hat with x | x
      · exact Or.inl (Or.inr x.symm)
      · exact Or.inr x

theorem bk_far {N0 bk : Nat} {s : Bk} {w W w1 : World} (h : (bkSt N0 bk).P s w) (hW : Below w.heap.size w W) (hg : W.grownBy w1 s.v.ownBlock) :
    w1.cell? ⟨bk, 0, none⟩ = some s.v ∧ w1.frozen? ⟨bk, 0, none⟩ = false ∧ ∀ b o, w.heap.size ≤ b → b < W.heap.size → w1.cell? ⟨b, o, none⟩ = W.cell? ⟨b, o, none⟩ := by
  have hbk := lt_of_block h.1
  have hz := hW.size
  have hne := bk_other h (by decide) h.1
  refine ⟨?_, ?_, fun b o h1 h2 => hg.cell_far _ h2 fun e => ?_⟩
  · rw [hg.cell_far ⟨bk, 0, none⟩ (by simp; omega) hne, hW.cell (p := ⟨bk, 0, none⟩) hbk]; exact cell_of_one h.1
  · rw [hg.frozen_far ⟨bk, 0, none⟩ (by simp; omega) hne, hW.frozen (p := ⟨bk, 0, none⟩) hbk]; exact free_of_one h.1
  · have := (h.2.lt b e.symm).2
    omega

set_option maxHeartbeats 1000000 in
theorem note_any (N0 bk : Nat) (s : Bk) (k c a : Int) (w : World) (hN0 : N0 ≤ w.heap.size) (h : (bkSt N0 bk).P s w) (hlen : s.ms.length ≤ 5000000) :
    Calls Try.prog 27 #[.pointer (some ⟨bk, 0, none⟩), .int .i64 k, faultV c a] w fun e w' => ∃ v', e = .returned (.tuple #[]) ∧ (bkSt N0 bk).P ⟨v', s.ms ++ [(k, c, a)]⟩ w' ∧ Moves (bkSt N0 bk) s ⟨v', s.ms ++ [(k, c, a)]⟩ w w' := by
  obtain ⟨i0, hi, hz0, hz1, hz2⟩ := info_parts Try.infoMark
  have HI := hide (And.intro hi (And.intro hz0 (And.intro hz1 hz2)))
  have cb := cell_of_one h.1
  have fb := free_of_one h.1
  have lb := lt_of_block h.1
  have hne := hide (bk_other h (by decide) h.1)
  have HP := hide h
  clear hi hz0 hz1 hz2 h
  simp only [faultV]
  go_enter Try.func27, Try.ntmps27
  go_wp2
  have hW : ∀ o o' : Obj, Hid (Below w.heap.size w ((w.alloc o).drew.alloc o')) := fun o o' => (((Below.refl _ _).alloc (Nat.le_refl _) _).drew).alloc (by simp) _
  go_region_law
    ((refine step_append_lies _ (by rfl) (.tmp 10) (.tmp 17) 26 (by rfl) N0 54 i0 _ 3 24 Try.underlying26 (unhide HI).1 (unhide HI).2.1 (unhide HI).2.2.1 (unhide HI).2.2.2 rfl (by decide) s.v s.ms.length (mksCells s.ms) (by rfl) (((unhide HP).2.alloc _).alloc _) ⟨w.heap.size + 1, 0, none⟩ 1 1 (mksCells [(k, c, a)]) (by rfl) (by rfl) (news_mark _ _ (by simp) _) (mksCells_one _) (by decide) (by unfold maxLen; omega) (by omega) (by simp; omega) (w.heap.size + 2) (by simp) ?_; intro g cap w1 hown1 hgrow hat hlt; obtain ⟨y1, y2, y3⟩ := bk_far (unhide HP) (unhide (hW _ _)) hgrow; have y4 := y3 w.heap.size 0 (Nat.le_refl _) (by simp; omega); have y5 := y3 w.heap.size 1 (Nat.le_refl _) (by simp; omega); simp [go_sem] at y4 y5; clear y3))
  all_goals
    obtain ⟨x1, x2⟩ := bk_next (ns := [(k, c, a)]) (unhide HP) (unhide (hW _ _)) hown1 hgrow (by rcases hat with x | x; exact Or.inl x; exact Or.inr (by omega))
    clear hown1 hgrow
    go_end0
    exact ⟨_, rfl, x1, x2⟩

end Go.Proofs.Ytlkodnhkhhgimaa
