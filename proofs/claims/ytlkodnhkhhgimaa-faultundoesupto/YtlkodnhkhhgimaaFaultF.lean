/-
  Package fault over a state: First.
-/
import Derived.Test.YtlkodnhkhhgimaaFaultU
namespace Go.Proofs.Ytlkodnhkhhgimaa
open Go.RowKit

/-- What is told of the list of functions that First is handed. -/
def FnRow (w : World) (own : Nat → Prop) (sl : Option Addr) (n : Nat) (gOf : Nat → FuncId) (capOf : Nat → Array Value) : Prop :=
  n = 0 ∨ ∃ b o, sl = some ⟨b, o, none⟩ ∧ b < w.heap.size ∧ ¬ own b ∧ ∀ i, i < n → w.cell? ⟨b, o + i, none⟩ = some (.func (.func (gOf i)) #[] (capOf i))

set_option maxHeartbeats 1000000 in
theorem first_st {σ : Type} (A : St σ) (n : Nat) (hn : n ≤ 1000000) (gOf : Nat → FuncId) (capOf : Nat → Array Value) (hg : ∀ i, i < n → ∀ args w, (callFunc (gOf i) args).run Try.prog w = .ok (.enter (gOf i) args) w)
    (sl : Option Addr) (capn : Nat) (w : World) (s : σ) (hP : A.P s w) (hsl : FnRow w (A.own s) sl n gOf capOf) (Q : Nat → σ → Prop) (Z : Nat → Int → Int → σ → Prop) (hQ : Q 0 s)
    (hcall : ∀ j, j < n → ∀ W s', Q j s' → A.P s' W → Moves A s s' w W → Calls Try.prog (gOf j) (capOf j) W fun e w1 => ∃ s'', A.P s'' w1 ∧ Moves A s' s'' W w1 ∧
      ((e = .returned (.tuple #[]) ∧ Q (j + 1) s'') ∨ ∃ c a, e = .panicked (stopped c a) ∧ Z j c a s'')) :
    Calls Try.prog 22 #[.slice sl n capn] w fun e w' => ∃ s', A.P s' w' ∧ Moves A s s' w w' ∧
      ((e = .returned (.tuple #[.int .i64 (-1), faultV 0 0]) ∧ Q n s') ∨ ∃ (j : Nat) (c a : Int), j < n ∧ e = .returned (.tuple #[.int .i64 j, faultV c a]) ∧ Z j c a s') := by
  have hb0 : Below w.heap.size w (w.alloc (.cells #[.int .i64 0, .int .i64 0] 31)) := (Below.refl _ _).alloc (Nat.le_refl _) _
  have hno : ¬ A.own s w.heap.size := fun x => by have := A.lt _ _ _ hP x; omega
  have H := hide hcall
  have HG := hide hg
  have HS := hide hsl
  clear hcall hg hsl
  go_enter Try.func22, Try.ntmps22
  go_wp2
  go_loopw [10] (fun i wr => ∃ (k : Nat) (s' : σ), k ≤ n ∧ i = .int .i64 k ∧ A.P s' wr ∧ Moves A s s' w wr ∧ Q k s' ∧ ¬ A.own s' w.heap.size ∧ w.heap.size < wr.heap.size ∧
      wr.cell? ⟨w.heap.size, 0, none⟩ = some (.int .i64 0) ∧ wr.cell? ⟨w.heap.size, 1, none⟩ = some (.int .i64 0) ∧ wr.frozen? ⟨w.heap.size, 0, none⟩ = false ∧ wr.frozen? ⟨w.heap.size, 1, none⟩ = false)
    (fun i _ => n - (intOf i).toNat)
  case atStart => exact ⟨0, s, Nat.zero_le _, rfl, A.below hP hb0, Moves.below hb0, hQ, hno, by simp, by simp [go_sem], by simp [go_sem], by simp [go_sem], by simp [go_sem]⟩
  case round =>
    obtain ⟨k, s', hk, rfl, hP', hm, hQ', hno', hl, q0, q1, f0, f1⟩ := hrel
    by_cases hlt : k < n
    · rcases unhide HS with h0 | ⟨b, o, rfl, hb, hob, hc⟩
      · omega
      have hob' : wr.cell? ⟨b, o + k, none⟩ = some (.func (.func (gOf k)) #[] (capOf k)) := by rw [hm.only.cell hb hob]; exact hc k hlt
      clear hc
      go_wp2_with fail
      have hbw := below_caughtW wr
      refine (caught_st A (gOf k) (unhide HG k hlt) (capOf k) wr s' hP' (fun e s'' => (e = .returned (.tuple #[]) ∧ Q (k + 1) s'') ∨ ∃ c a, e = .panicked (stopped c a) ∧ Z k c a s'')
        ((unhide H k hlt _ s' hQ' (A.below hP' hbw) (hm.trans (Moves.below hbw))).mono ?_)).mono ?_
      · rintro e w1 ⟨s2, hP2, hm2, hT⟩
        refine ⟨s2, hT, hP2, hm2, ?_⟩
        rcases hT with ⟨rfl, -⟩ | ⟨c, a, rfl, -⟩
        · exact ⟨_, _, _, .done⟩
        · exact ⟨_, _, _, .stop c a⟩
      · rintro e w1 ⟨e1, s2, c, a, t, hT, hc, rfl, hP2, hm2⟩
        have hz2 := hm2.only.size
        have hl2 : w.heap.size < w1.heap.size := by omega
        have r0 : w1.cell? ⟨w.heap.size, 0, none⟩ = some (.int .i64 0) := by rw [hm2.only.cell hl hno']; exact q0
        have r1 : w1.cell? ⟨w.heap.size, 1, none⟩ = some (.int .i64 0) := by rw [hm2.only.cell hl hno']; exact q1
        have g0 : w1.frozen? ⟨w.heap.size, 0, none⟩ = false := by rw [hm2.only.frozen hl hno']; exact f0
        have g1 : w1.frozen? ⟨w.heap.size, 1, none⟩ = false := by rw [hm2.only.frozen hl hno']; exact f1
        have hno2 : ¬ A.own s2 w.heap.size := fun x => by
          rcases hm2.own _ x with y | y
          · exact hno' y
          · omega
        have hm3 := hm.trans hm2
        clear hm2 hm hob' q0 q1 f0 f1 hP' hQ' hbw hno' hz2 hl
        have hbx : Below w1.heap.size w1 (w1.alloc (.cells #[.int .i64 c, .int .i64 a] 31)) := (Below.refl _ _).alloc (Nat.le_refl _) _
        cases hc with
        | done =>
          simp only [faultV]
          go_wp2
          go_roundw
          case rel =>
            rcases hT with ⟨-, hq⟩ | ⟨c, a, hx, -⟩
            · refine ⟨k + 1, s2, by omega, by go_num, A.below hP2 hbx, hm3.trans (Moves.below hbx), hq, hno2, by simp; omega, ?_, ?_, ?_, ?_⟩
              · simp [go_sem, hl2, r0]
              · simp [go_sem, hl2, r1]
              · simp [go_sem, hl2, g0]
              · simp [go_sem, hl2, g1]
            · exact absurd hx (by simp)
          case measure => simp [intOf]; omega
        | stop =>
          simp only [faultV]
          go_wp2
          go_region
          all_goals go_wp2
          all_goals
            refine bodyPost_ret (v := .tuple #[.int .i64 k, faultV c a]) (by simp [results, Try.results22, go_sem, r0, r1, hl2, faultV]) rfl ?_
            obtain ⟨x, y⟩ := Moves.tail (S := (· = w.heap.size)) hP2 hm3 ((((Only.refl (· = w.heap.size) w1).setCell (p := ⟨w.heap.size, 0, none⟩) (Or.inr rfl) (.int .i64 c)).setCell (p := ⟨w.heap.size, 1, none⟩) (Or.inr rfl) (.int .i64 a)).alloc (.cells #[.int .i64 c, .int .i64 a] 31)).drew (by rintro k rfl; exact ⟨Nat.le_refl _, hno2⟩)
            refine ⟨s2, x, y, Or.inr ⟨k, c, a, hlt, rfl, ?_⟩⟩
            rcases hT with ⟨hx, -⟩ | ⟨c', a', hx, hz⟩
            · exact absurd hx (by simp)
            · simp only [Ending.panicked.injEq, stopped, List.cons.injEq, PanicEntry.mk.injEq, Value.iface.injEq, faultV, Value.agg.injEq] at hx
              simp at hx
              obtain ⟨rfl, rfl⟩ := hx
              exact hz
    · have hkn : k = n := by omega
      subst hkn
      clear hlt
      go_wp2
      refine bodyPost_ret (v := .tuple #[.int .i64 (-1), faultV 0 0]) (by simp [results, Try.results22, go_sem, q0, q1, faultV]) rfl ?_
      obtain ⟨x, y⟩ := Moves.tail (S := (· = w.heap.size)) hP' hm (((Only.refl (· = w.heap.size) wr).setCell (p := ⟨w.heap.size, 0, none⟩) (Or.inr rfl) (.int .i64 0)).setCell (p := ⟨w.heap.size, 1, none⟩) (Or.inr rfl) (.int .i64 0)) (by rintro k rfl; exact ⟨Nat.le_refl _, hno'⟩)
      exact ⟨s', x, y, Or.inl ⟨rfl, hQ'⟩⟩

end Go.Proofs.Ytlkodnhkhhgimaa
