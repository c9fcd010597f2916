/-
  What Catch, Undo and First make of the functions that the book's run hands in.
-/
import Derived.Test.YtlkodnhkhhgimaaRunsF
namespace Go.Proofs.Ytlkodnhkhhgimaa
open Go.RowKit

theorem not_own {N0 bk : Nat} {s : Bk} {w : World} (h : (bkSt N0 bk).P s w) {b : Nat} {cs : Array Value} {t : TypeId} {f : Nat × Nat} (ht : t ≠ 54) (ht' : t ≠ 28) (hb : w.heap[b]? = some (.cells cs t f)) : ¬ (bkSt N0 bk).own s b := by
  rintro (rfl | e)
  · rw [h.1] at hb
    simp at hb
    exact ht' hb.2.1.symm
  · exact bk_other h ht hb e

theorem keep_block {N0 bk : Nat} {s s' : Bk} {w W : World} (h : (bkSt N0 bk).P s w) (hm : Moves (bkSt N0 bk) s s' w W) {b : Nat} {cs : Array Value} {t : TypeId} {f : Nat × Nat} (ht : t ≠ 54) (ht' : t ≠ 28) (hb : w.heap[b]? = some (.cells cs t f)) : W.heap[b]? = some (.cells cs t f) := by
  rw [hm.only.block b (lt_of_block hb) (not_own h ht ht' hb)]; exact hb


theorem catch_in {w0 : World} {bk N : Nat} (ih : RunSaid w0 bk N) (BB SB : Nat) {k n a : Int} {x1 x2 : Option Addr} {c1 c2 : Nat} {i b : List Stp} (s : Bk) (h1 : szL i < N) (h2 : szL i ≤ 1000000) (h3 : s.ms.length + 2 * szL i ≤ 4000000) (h4 : i.length ≤ c1) (h5 : StepsAt w0 x1 i) (w : World) (hb : Below w0.heap.size w0 w) (hP : (bkSt w0.heap.size bk).P s w)
    (hB : w.heap[BB]? = some (bbox bk)) (hS : w.heap[SB]? = some (stepO k n a x1 i.length c1 x2 b.length c2)) :
    Calls Try.prog 9 #[.func (.func 28) #[] #[.pointer (some ⟨BB, 0, none⟩), .pointer (some ⟨SB, 0, none⟩)]] w fun e w' => ∃ v', e = .returned (faultV (runL i).2.1 (runL i).2.2) ∧
      (bkSt w0.heap.size bk).P ⟨v', s.ms ++ (runL i).1⟩ w' ∧ Moves (bkSt w0.heap.size bk) s ⟨v', s.ms ++ (runL i).1⟩ w w' := by
  have hbw := below_catchW w
  refine (catch_st (bkSt w0.heap.size bk) 28 calls_r1 _ w s hP (fun e s' => s'.ms = s.ms ++ (runL i).1 ∧ Outc (runL i).2.1 (runL i).2.2 e)
    (r1_does ih BB SB (k := k) (n := n) (a := a) (x2 := x2) (c2 := c2) (b := b) s h1 h2 h3 h4 h5 (catchW w) (hb.trans (hbw.mono hb.size)) ((bkSt w0.heap.size bk).below hP hbw) (by rw [hbw.block _ (lt_of_block hB)]; exact hB) (by rw [hbw.block _ (lt_of_block hS)]; exact hS))).mono ?_
  rintro e w' ⟨e1, s', c, a, t, ⟨hms, hout⟩, hc, rfl, hP', hm⟩
  obtain ⟨rfl, rfl, -⟩ := hout.fault (runL_zero i) hc
  cases s' with
  | mk v' ms' =>
    simp only at hms
    subst hms
    exact ⟨v', rfl, hP', hm⟩

theorem undo_in {w0 : World} {bk N : Nat} (hbk : w0.heap.size ≤ bk) (ih : RunSaid w0 bk N) (BB SB : Nat) {k n a : Int} {x1 x2 : Option Addr} {c1 c2 : Nat} {i b : List Stp} (s : Bk) (h1 : szL i < N) (h1' : szL b < N) (h2 : szL i ≤ 1000000) (h2' : szL b ≤ 1000000) (h3 : s.ms.length + 2 * szL i + 2 * szL b ≤ 4000000) (h4 : i.length ≤ c1) (h4' : b.length ≤ c2) (h5 : StepsAt w0 x1 i) (h5' : StepsAt w0 x2 b)
    (w : World) (hb : Below w0.heap.size w0 w) (hP : (bkSt w0.heap.size bk).P s w) (hB : w.heap[BB]? = some (bbox bk)) (hS : w.heap[SB]? = some (stepO k n a x1 i.length c1 x2 b.length c2)) :
    Calls Try.prog 18 #[.func (.func 29) #[] #[.pointer (some ⟨BB, 0, none⟩), .pointer (some ⟨SB, 0, none⟩)], .func (.func 30) #[] #[.pointer (some ⟨BB, 0, none⟩), .pointer (some ⟨SB, 0, none⟩)]] w fun e w' => ∃ v' ms' cc aa, e = .returned (faultV cc aa) ∧
      runS (.mk 3 n a i b) = (ms' ++ [(3, cc, aa)], 0, 0) ∧ (bkSt w0.heap.size bk).P ⟨v', s.ms ++ ms'⟩ w' ∧ Moves (bkSt w0.heap.size bk) s ⟨v', s.ms ++ ms'⟩ w w' := by
  have hbw := below_catchW w
  have hl1 := runL_len i
  refine (undo_st (bkSt w0.heap.size bk) 29 calls_r2 _ 30 calls_r3 _ w s hP (fun e s' => s'.ms = s.ms ++ (runL i).1 ∧ Outc (runL i).2.1 (runL i).2.2 e) (fun s' e s'' => s''.ms = s'.ms ++ (runL b).1 ∧ Outc (runL b).2.1 (runL b).2.2 e)
    (r2_does ih BB SB (k := k) (n := n) (a := a) (x2 := x2) (c2 := c2) (b := b) s h1 h2 (by omega) h4 h5 (undoW w) (hb.trans (hbw.mono hb.size)) ((bkSt w0.heap.size bk).below hP hbw) (by rw [hbw.block _ (lt_of_block hB)]; exact hB) (by rw [hbw.block _ (lt_of_block hS)]; exact hS)) ?_).mono ?_
  · rintro W s' c' a' ⟨hms, -⟩ hP' hm
    exact r3_does ih BB SB (k := k) (n := n) (a := a) (x1 := x1) (c1 := c1) (i := i) s' h1' h2' (by rw [hms]; simp; omega) h4' h5' W (below_moves hbk hb hP hm) hP' (keep_block hP hm (by decide) (by decide) hB) (keep_block hP hm (by decide) (by decide) hS)
  · rintro e w' ⟨s', hP', hm, hT⟩
    cases s' with
    | mk v' ms' =>
      rcases hT with ⟨⟨hms, hout⟩, rfl⟩ | ⟨c, a', s1, e2, c2, a2, t2, ⟨hms1, hout1⟩, ⟨hms2, hout2⟩, hc2, rfl⟩
      · simp only at hms
        subst hms
        have h0 : (runL i).2.1 = 0 := by
          rcases hout with ⟨h, -⟩ | ⟨-, h⟩
          · exact h
          · simp at h
        refine ⟨v', (runL i).1, 0, 0, rfl, ?_, hP', hm⟩
        have hz := runL_zero i h0
        have hp : (runL i).2 = (0, 0) := Prod.ext h0 hz
        simp [runS, hp]
      · simp only at hms2
        obtain ⟨rfl, rfl, ht⟩ := hout2.fault (runL_zero b) hc2
        obtain ⟨e1, e2', e3⟩ := hout1.fault (runL_zero i) (.stop c a')
        subst e1
        subst e2'
        have h0 : (runL i).2.1 ≠ 0 := e3.1 rfl
        rw [hms1, List.append_assoc] at hms2
        subst hms2
        refine ⟨v', (runL i).1 ++ (runL b).1, if t2 then (runL b).2.1 else (runL i).2.1, if t2 then (runL b).2.2 else (runL i).2.2, ?_, ?_, hP', hm⟩
        · cases t2 <;> rfl
        · cases t2 with
          | true =>
            have h1 := ht.1 rfl
            simp [runS, h0, h1]
          | false =>
            have h1 : (runL b).2.1 = 0 := by
              rcases Int.decEq (runL b).2.1 0 with h | h
              · exact absurd (ht.2 h) (by simp)
              · exact h
            simp [runS, h0, h1]

end Go.Proofs.Ytlkodnhkhhgimaa
