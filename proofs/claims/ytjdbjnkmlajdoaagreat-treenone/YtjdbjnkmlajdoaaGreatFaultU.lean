/-
  Package fault over a state: Undo.
-/
import Derived.Test.YtjdbjnkmlajdoaaGreatFaultE
namespace Go.Proofs.YtjdbjnkmlajdoaaGreat.L1
open Go.RowKit

/-- The world in which Undo calls its first function. -/
abbrev undoW (w : World) : World := caughtW (w.alloc (.cells #[.int .i64 0, .int .i64 0] 96))

theorem below_caughtW (w : World) : Below w.heap.size w (caughtW w) := ((Below.refl _ _).alloc (Nat.le_refl _) _).alloc (by simp) _

set_option maxHeartbeats 1000000 in
theorem undo_st {σ : Type} (A : St σ) (g : FuncId) (hg : ∀ args w, (callFunc g args).run Tryz.prog w = .ok (.enter g args) w) (cap : Array Value)
    (g2 : FuncId) (hg2 : ∀ args w, (callFunc g2 args).run Tryz.prog w = .ok (.enter g2 args) w) (cap2 : Array Value) (w : World) (s : σ) (hP : A.P s w) (T : Ending → σ → Prop) (T2 : σ → Ending → σ → Prop)
    (h : Calls Tryz.prog g cap (undoW w) fun e w1 => ∃ s', T e s' ∧ A.P s' w1 ∧ Moves A s s' (undoW w) w1 ∧ ∃ c a t, Came e c a t)
    (h2 : ∀ W s' c a, T (.panicked (stopped c a)) s' → A.P s' W → Moves A s s' w W → Calls Tryz.prog g2 cap2 W fun e w1 => ∃ s'', T2 s' e s'' ∧ A.P s'' w1 ∧ Moves A s' s'' W w1 ∧ ∃ c a t, Came e c a t) :
    Calls Tryz.prog 71 #[.func (.func g) #[] cap, .func (.func g2) #[] cap2] w fun e w' => ∃ s', A.P s' w' ∧ Moves A s s' w w' ∧
      ((T (.returned (.tuple #[])) s' ∧ e = .returned (faultV 0 0)) ∨
       ∃ c a s1 e2 c2 a2 t2, T (.panicked (stopped c a)) s1 ∧ T2 s1 e2 s' ∧ Came e2 c2 a2 t2 ∧ e = .returned (if t2 then faultV c2 a2 else faultV c a)) := by
  have hb0 : Below w.heap.size w (w.alloc (.cells #[.int .i64 0, .int .i64 0] 96)) := (Below.refl _ _).alloc (Nat.le_refl _) _
  have H := hide (caught_st A g hg cap (w.alloc (.cells #[.int .i64 0, .int .i64 0] 96)) s (A.below hP hb0) T h)
  have H2 := hide h2
  clear h h2 hg
  go_enter Tryz.func71, Tryz.ntmps71
  go_wp2_with fail
  refine (unhide H).mono ?_
  rintro e w2 ⟨e1, s', c, a, t, hT, hc, rfl, hP', hm⟩
  clear H
  have hz := hm.only.size
  simp at hz
  have hl : w.heap.size < w2.heap.size := by omega
  have hno : ¬ A.own s w.heap.size := fun x => by have := A.lt _ _ _ hP x; omega
  have q0 : w2.cell? ⟨w.heap.size, 0, none⟩ = some (.int .i64 0) := by rw [hm.only.cell (by simp) hno]; simp [go_sem]
  have q1 : w2.cell? ⟨w.heap.size, 1, none⟩ = some (.int .i64 0) := by rw [hm.only.cell (by simp) hno]; simp [go_sem]
  have f0 : w2.frozen? ⟨w.heap.size, 0, none⟩ = false := by rw [hm.only.frozen (by simp) hno]; simp [go_sem]
  have f1 : w2.frozen? ⟨w.heap.size, 1, none⟩ = false := by rw [hm.only.frozen (by simp) hno]; simp [go_sem]
  have hno' : ¬ A.own s' w.heap.size := fun x => by
    rcases hm.own _ x with y | y
    · exact hno y
    · simp at y; omega
  have hm2 : Moves A s s' w w2 := (Moves.below hb0).trans hm
  cases hc with
  | done =>
    simp only [faultV]
    go_wp2
    refine bodyPost_ret (v := faultV 0 0) (by simp [results, Tryz.results71, go_sem, q0, q1, hl, faultV]) rfl ?_
    obtain ⟨x, y⟩ := Moves.tail (S := (· = w.heap.size)) hP' hm2 ((((Only.refl (· = w.heap.size) w2).setCell (p := ⟨w.heap.size, 0, none⟩) (Or.inr rfl) (.int .i64 0)).setCell (p := ⟨w.heap.size, 1, none⟩) (Or.inr rfl) (.int .i64 0)).alloc (.cells #[.int .i64 0, .int .i64 0] 96)) (by rintro k rfl; exact ⟨Nat.le_refl _, hno'⟩)
    exact ⟨s', x, y, Or.inl ⟨hT, rfl⟩⟩
  | stop =>
    simp only [faultV]
    go_wp2_with fail
    have hb2 : Below w2.heap.size w2 (w2.alloc (.cells #[.int .i64 c, .int .i64 a] 96)) := (Below.refl _ _).alloc (Nat.le_refl _) _
    have hm3 : Moves A s s' w (w2.alloc (.cells #[.int .i64 c, .int .i64 a] 96)) := hm2.trans (Moves.below hb2)
    have hP3 := A.below hP' hb2
    have hb3 := below_caughtW (w2.alloc (.cells #[.int .i64 c, .int .i64 a] 96))
    refine (caught_st A g2 hg2 cap2 _ s' hP3 (T2 s') (unhide H2 _ s' c a hT (A.below hP3 hb3) (hm3.trans (Moves.below hb3)))).mono ?_
    rintro e w4 ⟨e2, s2, c2, a2, t2, hT2, hc2, rfl, hP4, hm4⟩
    have hz4 := hm4.only.size
    simp at hz4
    have hl4 : w.heap.size < w4.heap.size := by omega
    have hl5 : w2.heap.size < w4.heap.size := by omega
    have hx : ¬ A.own s' w2.heap.size := fun x => by have := A.lt _ _ _ hP' x; omega
    have r0 : w4.cell? ⟨w.heap.size, 0, none⟩ = some (.int .i64 0) := by rw [hm4.only.cell (by simp; omega) hno']; simp [go_sem, hl, q0]
    have r1 : w4.cell? ⟨w.heap.size, 1, none⟩ = some (.int .i64 0) := by rw [hm4.only.cell (by simp; omega) hno']; simp [go_sem, hl, q1]
    have x0 : w4.cell? ⟨w2.heap.size, 0, none⟩ = some (.int .i64 c) := by rw [hm4.only.cell (by simp) hx]; simp [go_sem]
    have x1 : w4.cell? ⟨w2.heap.size, 1, none⟩ = some (.int .i64 a) := by rw [hm4.only.cell (by simp) hx]; simp [go_sem]
    have g0 : w4.frozen? ⟨w.heap.size, 0, none⟩ = false := by rw [hm4.only.frozen (by simp; omega) hno']; simp [go_sem, hl, f0]
    have g1 : w4.frozen? ⟨w.heap.size, 1, none⟩ = false := by rw [hm4.only.frozen (by simp; omega) hno']; simp [go_sem, hl, f1]
    have hno4 : ¬ A.own s2 w.heap.size := fun x => by
      rcases hm4.own _ x with y | y
      · exact hno' y
      · simp at y; omega
    have hm5 := hm3.trans hm4
    clear hm3 hP3 hb3 hb2 hm4 hm2 hm q0 q1 f0 f1 H2 hg2
    cases hc2 with
    | done =>
      simp only [faultV]
      go_wp2
      refine bodyPost_ret (v := faultV c a) (by simp [results, Tryz.results71, go_sem, r0, r1, hl4, faultV]) rfl ?_
      obtain ⟨x, y⟩ := Moves.tail (S := (· = w.heap.size)) hP4 hm5 ((((Only.refl (· = w.heap.size) w4).setCell (p := ⟨w.heap.size, 0, none⟩) (Or.inr rfl) (.int .i64 c)).setCell (p := ⟨w.heap.size, 1, none⟩) (Or.inr rfl) (.int .i64 a)).alloc (.cells #[.int .i64 0, .int .i64 0] 96)) (by rintro k rfl; exact ⟨Nat.le_refl _, hno4⟩)
      exact ⟨s2, x, y, Or.inr ⟨c, a, s', _, 0, 0, false, hT, hT2, .done, rfl⟩⟩
    | stop =>
      simp only [faultV]
      go_wp2
      refine bodyPost_ret (v := faultV c2 a2) (by simp [results, Tryz.results71, go_sem, r0, r1, hl4, faultV]) rfl ?_
      obtain ⟨x, y⟩ := Moves.tail (S := (· = w.heap.size)) hP4 hm5 ((((Only.refl (· = w.heap.size) w4).setCell (p := ⟨w.heap.size, 0, none⟩) (Or.inr rfl) (.int .i64 c2)).setCell (p := ⟨w.heap.size, 1, none⟩) (Or.inr rfl) (.int .i64 a2)).alloc (.cells #[.int .i64 c2, .int .i64 a2] 96)) (by rintro k rfl; exact ⟨Nat.le_refl _, hno4⟩)
      exact ⟨s2, x, y, Or.inr ⟨c, a, s', _, c2, a2, true, hT, hT2, .stop c2 a2, rfl⟩⟩

end Go.Proofs.YtjdbjnkmlajdoaaGreat.L1
