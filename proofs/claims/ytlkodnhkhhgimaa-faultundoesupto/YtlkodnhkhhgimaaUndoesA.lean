/-
  FaultUndoes: the functions that it hands in, over the book and its two counters.
-/
import Derived.Test.YtlkodnhkhhgimaaRunsK
namespace Go.Proofs.Ytlkodnhkhhgimaa
open Go.RowKit

theorem calls_u1 (args : Array Value) (w : World) : (callFunc 19 args).run Try.prog w = .ok (.enter 19 args) w := by simp [go_sem]
theorem calls_u2 (args : Array Value) (w : World) : (callFunc 20 args).run Try.prog w = .ok (.enter 20 args) w := by simp [go_sem]

/-- The book, and two variables beside it. -/
def undSt (N0 bk PB PA : Nat) : St (Bk × Int × Int) where
  own := fun s k => (bkSt N0 bk).own s.1 k ∨ k = PB ∨ k = PA
  P := fun s w => (bkSt N0 bk).P s.1 w ∧ w.heap[PB]? = some (box s.2.1) ∧ w.heap[PA]? = some (box s.2.2)
  keep := fun s w w' h hk => ⟨(bkSt N0 bk).keep s.1 w w' h.1 fun k hk' => hk k (Or.inl hk'), by rw [hk PB (Or.inr (Or.inl rfl))]; exact h.2.1, by rw [hk PA (Or.inr (Or.inr rfl))]; exact h.2.2⟩
  lt := fun s w k h e => by
    rcases e with e | rfl | rfl
    · exact (bkSt N0 bk).lt s.1 w k h.1 e
    · exact lt_of_block h.2.1
    · exact lt_of_block h.2.2

theorem und_lift {N0 bk PB PA : Nat} {s s' : Bk} {x y : Int} {w w1 : World} (h : (undSt N0 bk PB PA).P (s, x, y) w) (hP : (bkSt N0 bk).P s' w1) (hm : Moves (bkSt N0 bk) s s' w w1) :
    (undSt N0 bk PB PA).P (s', x, y) w1 ∧ Moves (undSt N0 bk PB PA) (s, x, y) (s', x, y) w w1 := by
  refine ⟨⟨hP, keep_block h.1 hm (by decide) (by decide) h.2.1, keep_block h.1 hm (by decide) (by decide) h.2.2⟩, hm.only.weaken fun k _ hk => Or.inl hk, fun k hk => ?_⟩
  rcases hk with hk | hk
  · rcases hm.own k hk with x | x
    · exact Or.inl (Or.inl x)
    · exact Or.inr x
  · exact Or.inl (Or.inr hk)

theorem u1_does {w0 : World} {bk : Nat} (hbk : w0.heap.size ≤ bk) (BB LB : Nat) {x : Option Addr} {c : Nat} {l : List Stp} (s : Bk) (h2 : szL l ≤ 1000000) (h3 : s.ms.length + 2 * szL l ≤ 4000000) (h4 : l.length ≤ c) (h5 : StepsAt w0 x l) (W : World) (hb : Below w0.heap.size w0 W) (hP : (bkSt w0.heap.size bk).P s W)
    (hB : W.heap[BB]? = some (bbox bk)) (hL : W.heap[LB]? = some (lbox x l.length c)) : Does w0 bk 19 #[.pointer (some ⟨BB, 0, none⟩), .pointer (some ⟨LB, 0, none⟩)] l s W := by
  have C := hide (run_any w0 bk hbk (szL l + 1) l x c W s (by omega) h2 h3 h4 h5 hb hP)
  have e1 := cell_of_one hB
  have e2 := cell_of_one hL
  clear h2 h3 h4 h5 hb hP hB hL
  unfold Does
  go_enter Try.func19, Try.ntmps19
  go_wp2_with fail
  refine (unhide C).mono ?_
  rintro e w1 ⟨v', h1, h2, h3⟩
  rcases h3 with ⟨h0, rfl⟩ | ⟨h0, rfl⟩
  · go_wp2_with fail
    go_end0
    exact does_of ⟨v', h1, h2, Or.inl ⟨h0, rfl⟩⟩
  · exact ⟨rfl, does_of ⟨v', h1, h2, Or.inr ⟨h0, rfl⟩⟩⟩

theorem u2_does {N0 bk PB PA : Nat} (BB : Nat) (s : Bk) (y : Int) (W : World) (hP : (undSt N0 bk PB PA).P (s, 0, y) W) (hB : W.heap[BB]? = some (bbox bk)) (hAB : PB ≠ PA) :
    Calls Try.prog 20 #[.pointer (some ⟨PB, 0, none⟩), .pointer (some ⟨BB, 0, none⟩), .pointer (some ⟨PA, 0, none⟩)] W fun e w1 => e = .returned (.tuple #[]) ∧ (undSt N0 bk PB PA).P (s, 1, s.ms.length) w1 ∧ Moves (undSt N0 bk PB PA) (s, 0, y) (s, 1, s.ms.length) W w1 := by
  obtain ⟨x, cap, hv⟩ := marksAt_len (marksAt_of_own hP.1.2)
  have c1 := cell_of_one hP.2.1
  have f1 := free_of_one hP.2.1
  have c2 := cell_of_one hP.2.2
  have f2 := free_of_one hP.2.2
  have c3 := cell_of_one hB
  have c4 := cell_of_one hP.1.1
  have n1 : BB ≠ PB := by rintro rfl; rw [hP.2.1] at hB; simp at hB
  have n2 : bk ≠ PB := by rintro rfl; have := hP.1.1; rw [hP.2.1] at this; simp at this
  simp only at c4
  rw [hv] at c4
  have e1 : ∀ v, (W.setCell ⟨PB, 0, none⟩ v).cell? ⟨BB, 0, none⟩ = some (.pointer (some ⟨bk, 0, none⟩)) := fun v => by rw [World.cell?_of_block (Below.heap_setCell W _ _ BB n1)]; exact c3
  have e2 : ∀ v, (W.setCell ⟨PB, 0, none⟩ v).cell? ⟨bk, 0, none⟩ = some (.slice x s.ms.length cap) := fun v => by rw [World.cell?_of_block (Below.heap_setCell W _ _ bk n2)]; exact c4
  have e3 : ∀ v, (W.setCell ⟨PB, 0, none⟩ v).cell? ⟨PA, 0, none⟩ = some (.int .i64 y) := fun v => by rw [World.cell?_of_block (Below.heap_setCell W _ _ PA (Ne.symm hAB))]; exact c2
  have e4 : ∀ v, (W.setCell ⟨PB, 0, none⟩ v).frozen? ⟨PA, 0, none⟩ = false := fun v => by rw [World.frozen?_of_block (Below.heap_setCell W _ _ PA (Ne.symm hAB))]; exact f2
  have fin : ∀ w1, w1 = (W.setCell ⟨PB, 0, none⟩ (.int .i64 1)).setCell ⟨PA, 0, none⟩ (.int .i64 s.ms.length) → Hid ((undSt N0 bk PB PA).P (s, 1, s.ms.length) w1 ∧ Moves (undSt N0 bk PB PA) (s, 0, y) (s, 1, s.ms.length) W w1) := by
    rintro w1 rfl
    refine ⟨⟨?_, ?_, ?_⟩, ?_, fun k hk => Or.inl hk⟩
    · refine (bkSt N0 bk).keep s W _ hP.1 fun k hk => ?_
      have k1 : k ≠ PA := by rintro rfl; exact not_own hP.1 (by decide) (by decide) hP.2.2 hk
      have k2 : k ≠ PB := by rintro rfl; exact not_own hP.1 (by decide) (by decide) hP.2.1 hk
      rw [Below.heap_setCell _ _ _ _ k1, Below.heap_setCell _ _ _ _ k2]
    · rw [Below.heap_setCell _ _ _ _ hAB]; exact one_setCell hP.2.1
    · exact one_setCell (by rw [Below.heap_setCell _ _ _ _ (Ne.symm hAB)]; exact hP.2.2)
    · exact Only.setCell (S := (undSt N0 bk PB PA).own (s, 0, y)) (Only.setCell (S := (undSt N0 bk PB PA).own (s, 0, y)) (Only.refl _ _) (p := ⟨PB, 0, none⟩) (Or.inr (Or.inr (Or.inl rfl))) _) (p := ⟨PA, 0, none⟩) (Or.inr (Or.inr (Or.inr rfl))) _
  clear hP hB c2 f2 c3 c4 hv
  go_enter Try.func20, Try.ntmps20
  go_wp2_with fail
  go_end0
  exact ⟨rfl, unhide (fin _ rfl)⟩

theorem below_und {w0 : World} {bk PB PA : Nat} (hbk : w0.heap.size ≤ bk) (hPB : w0.heap.size ≤ PB) (hPA : w0.heap.size ≤ PA) {s s' : Bk × Int × Int} {w w' : World} (hb : Below w0.heap.size w0 w) (hP : (undSt w0.heap.size bk PB PA).P s w) (hm : Moves (undSt w0.heap.size bk PB PA) s s' w w') : Below w0.heap.size w0 w' :=
  hb.trans (hm.only.below hb.size fun k hk ho => by
    rcases ho with (rfl | e) | rfl | rfl
    · omega
    · have := (hP.1.2.lt k e.symm).1; omega
    · omega
    · omega)

theorem keep_und {N0 bk PB PA : Nat} {s s' : Bk × Int × Int} {w W : World} (h : (undSt N0 bk PB PA).P s w) (hm : Moves (undSt N0 bk PB PA) s s' w W) {b : Nat} {cs : Array Value} {t : TypeId} {f : Nat × Nat} (ht : t ≠ 54) (ht' : t ≠ 28) (ht2 : t ≠ 3) (hb : w.heap[b]? = some (.cells cs t f)) : W.heap[b]? = some (.cells cs t f) := by
  rw [hm.only.block b (lt_of_block hb) ?_]
  · exact hb
  · rintro (e | rfl | rfl)
    · exact not_own h.1 ht ht' hb e
    · rw [h.2.1] at hb; simp at hb; exact ht2 hb.2.1.symm
    · rw [h.2.2] at hb; simp at hb; exact ht2 hb.2.1.symm

theorem undo_law {w0 : World} {bk PB PA : Nat} (hbk : w0.heap.size ≤ bk) (hAB : PB ≠ PA) (BB LB : Nat) {x : Option Addr} {c : Nat} {l : List Stp} (s : Bk) (hs : s.ms = []) (h2 : szL l ≤ 1000000) (h4 : l.length ≤ c) (h5 : StepsAt w0 x l)
    (w : World) (hb : Below w0.heap.size w0 w) (hP : (undSt w0.heap.size bk PB PA).P (s, 0, -1) w) (hB : w.heap[BB]? = some (bbox bk)) (hL : w.heap[LB]? = some (lbox x l.length c)) :
    Calls Try.prog 18 #[.func (.func 19) #[] #[.pointer (some ⟨BB, 0, none⟩), .pointer (some ⟨LB, 0, none⟩)], .func (.func 20) #[] #[.pointer (some ⟨PB, 0, none⟩), .pointer (some ⟨BB, 0, none⟩), .pointer (some ⟨PA, 0, none⟩)]] w fun e w' => ∃ v',
      ((runL l).2.1 = 0 ∧ e = .returned (faultV 0 0) ∧ (undSt w0.heap.size bk PB PA).P (⟨v', (runL l).1⟩, 0, -1) w' ∧ Moves (undSt w0.heap.size bk PB PA) (s, 0, -1) (⟨v', (runL l).1⟩, 0, -1) w w') ∨
      ((runL l).2.1 ≠ 0 ∧ e = .returned (faultV (runL l).2.1 (runL l).2.2) ∧ (undSt w0.heap.size bk PB PA).P (⟨v', (runL l).1⟩, 1, (runL l).1.length) w' ∧ Moves (undSt w0.heap.size bk PB PA) (s, 0, -1) (⟨v', (runL l).1⟩, 1, (runL l).1.length) w w') := by
  have hbw := below_catchW w
  have hl := runL_len l
  have hP0 := (undSt w0.heap.size bk PB PA).below hP hbw
  refine (undo_st (undSt w0.heap.size bk PB PA) 19 calls_u1 _ 20 calls_u2 _ w (s, 0, -1) hP (fun e s' => s'.1.ms = (runL l).1 ∧ s'.2 = (0, -1) ∧ Outc (runL l).2.1 (runL l).2.2 e) (fun s' e s'' => e = .returned (.tuple #[]) ∧ s'' = (s'.1, 1, (s'.1.ms.length : Int)))
    ((u1_does hbk BB LB s h2 (by rw [hs]; simp; omega) h4 h5 (undoW w) (hb.trans (hbw.mono hb.size)) hP0.1 (by rw [hbw.block _ (lt_of_block hB)]; exact hB) (by rw [hbw.block _ (lt_of_block hL)]; exact hL)).mono ?_) ?_).mono ?_
  · rintro e w1 ⟨s', ⟨hms, hout⟩, hP', hm, hc⟩
    obtain ⟨x1, x2⟩ := und_lift hP0 hP' hm
    exact ⟨(s', 0, -1), ⟨by rw [hms, hs]; simp, rfl, hout⟩, x1, x2, hc⟩
  · rintro W ⟨s', x', y'⟩ c' a' ⟨hms, hxy, -⟩ hP' hm
    simp only [Prod.mk.injEq] at hxy
    obtain ⟨rfl, rfl⟩ := hxy
    simp only at hms
    refine (u2_does BB s' (-1) W hP' (keep_und hP hm (by decide) (by decide) (by decide) hB) hAB).mono ?_
    rintro e w1 ⟨rfl, p1, p2⟩
    exact ⟨_, ⟨rfl, rfl⟩, p1, p2, _, _, _, .done⟩
  · rintro e w' ⟨⟨⟨v', ms'⟩, x', y'⟩, hP', hm, hT⟩
    rcases hT with ⟨⟨hms, hxy, hout⟩, rfl⟩ | ⟨c1, a1, s1, e2, c2, a2, t2, ⟨hms1, hxy1, hout1⟩, ⟨rfl, hs2⟩, hc2, rfl⟩
    · simp only [Prod.mk.injEq] at hxy hms
      obtain ⟨rfl, rfl⟩ := hxy
      subst hms
      refine ⟨v', Or.inl ⟨?_, rfl, hP', hm⟩⟩
      rcases hout with ⟨h, -⟩ | ⟨-, h⟩
      · exact h
      · simp at h
    · obtain ⟨⟨v1, ms1⟩, x1, y1⟩ := s1
      simp only [Prod.mk.injEq, Bk.mk.injEq] at hs2 hms1
      obtain ⟨⟨rfl, rfl⟩, rfl, rfl⟩ := hs2
      subst hms1
      obtain ⟨e1, e2', e3⟩ := hout1.fault (runL_zero l) (.stop c1 a1)
      subst e1
      subst e2'
      cases hc2
      exact ⟨v', Or.inr ⟨e3.1 rfl, rfl, hP', hm⟩⟩

end Go.Proofs.Ytlkodnhkhhgimaa
