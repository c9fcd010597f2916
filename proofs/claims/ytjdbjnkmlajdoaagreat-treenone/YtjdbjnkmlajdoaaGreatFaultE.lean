/-
  Package fault over a state: what the function that is handed in does to the blocks that it owns is what caught, Catch and Undo do to them.
-/
import Derived.Test.YtjdbjnkmlajdoaaGreatFaultC
namespace Go.Proofs.YtjdbjnkmlajdoaaGreat.L1
open Go.RowKit

/-- A state that some blocks hold: it is told by these blocks alone. -/
structure St (σ : Type) where
  own : σ → Nat → Prop
  P : σ → World → Prop
  keep : ∀ s w w', P s w → (∀ k, own s k → w'.heap[k]? = w.heap[k]?) → P s w'
  lt : ∀ s w k, P s w → own s k → k < w.heap.size

/-- From s in w to s' in w': nothing has turned but what s owned; what s' owns was s's or is new. -/
structure Moves {σ : Type} (A : St σ) (s s' : σ) (w w' : World) : Prop where
  only : Only (A.own s) w w'
  own : ∀ k, A.own s' k → A.own s k ∨ w.heap.size ≤ k

theorem Moves.refl {σ : Type} (A : St σ) (s : σ) (w : World) : Moves A s s w w := ⟨Only.refl _ _, fun _ h => Or.inl h⟩

theorem Moves.trans {σ : Type} {A : St σ} {s s' s'' : σ} {w w1 w2 : World} (h : Moves A s s' w w1) (h' : Moves A s' s'' w1 w2) : Moves A s s'' w w2 := by
  have z := h.only.size
  refine ⟨⟨h'.only.os.trans h.only.os, h'.only.tape.trans h.only.tape, h'.only.output.trans h.only.output, Nat.le_trans z h'.only.size, fun k hk hs => ?_⟩, fun k hk => ?_⟩
  · rw [h'.only.block k (by omega) fun x => by rcases h.own k x with y | y; exact hs y; omega]
    exact h.only.block k hk hs
  · rcases h'.own k hk with x | x
    · exact h.own k x
    · exact Or.inr (by omega)

/-- New blocks are no part of a state. -/
theorem St.below {σ : Type} (A : St σ) {s : σ} {w w' : World} (h : A.P s w) (hb : Below w.heap.size w w') : A.P s w' :=
  A.keep s w w' h fun k hk => hb.block k (A.lt s w k h hk)

theorem Moves.below {σ : Type} {A : St σ} {s : σ} {w w' : World} (hb : Below w.heap.size w w') : Moves A s s w w' :=
  ⟨Only.of_below hb, fun _ h => Or.inl h⟩

/-- Behind a call other blocks turn, that are neither old nor the state's. -/
theorem Moves.after {σ : Type} {A : St σ} {s s' : σ} {w W w1 w' : World} {n : Nat} (hP : A.P s w) (hb : Below w.heap.size w W) (hn : w.heap.size + n ≤ W.heap.size) (hP1 : A.P s' w1)
    (hm : Moves A s s' W w1) (hat : OnlyAt w.heap.size n w1 w') : A.P s' w' ∧ Moves A s s' w w' := by
  refine ⟨A.keep s' w1 w' hP1 fun k hk => hat.block k (A.lt _ _ _ hP1 hk) fun x => ?_, Only.through hb hm.only hat, fun k hk => ?_⟩
  · rcases hm.own k hk with y | y
    · have := A.lt _ _ _ hP y; omega
    · omega
  · rcases hm.own k hk with y | y
    · exact Or.inl y
    · exact Or.inr (by omega)

/-- Behind a move blocks turn that are new and not the state's. -/
theorem Moves.tail {σ : Type} {A : St σ} {s s' : σ} {w w1 w' : World} {S : Nat → Prop} (hP : A.P s' w1) (hm : Moves A s s' w w1) (ho : Only S w1 w') (hS : ∀ k, S k → w.heap.size ≤ k ∧ ¬ A.own s' k) : A.P s' w' ∧ Moves A s s' w w' := by
  refine ⟨A.keep s' w1 w' hP fun k hk => ho.block k (A.lt _ _ _ hP hk) fun x => (hS k x).2 hk, ⟨ho.os.trans hm.only.os, ho.tape.trans hm.only.tape, ho.output.trans hm.only.output, Nat.le_trans hm.only.size ho.size, fun k hk hs => ?_⟩, hm.own⟩
  have := hm.only.size
  rw [ho.block k (by omega) fun x => by have := (hS k x).1; omega]
  exact hm.only.block k hk hs

theorem caught_st {σ : Type} (A : St σ) (g : FuncId) (hg : ∀ args w, (callFunc g args).run Tryz.prog w = .ok (.enter g args) w) (cap : Array Value) (w : World) (s : σ) (hP : A.P s w) (T : Ending → σ → Prop)
    (h : Calls Tryz.prog g cap (caughtW w) fun e w1 => ∃ s', T e s' ∧ A.P s' w1 ∧ Moves A s s' (caughtW w) w1 ∧ ∃ c a t, Came e c a t) :
    Calls Tryz.prog 77 #[.func (.func g) #[] cap] w fun e w' => ∃ e1 s' c a t, T e1 s' ∧ Came e1 c a t ∧ e = .returned (.tuple #[faultV c a, .bool t]) ∧ A.P s' w' ∧ Moves A s s' w w' := by
  have hno : ∀ k, w.heap.size ≤ k → ¬ A.own s k := fun k hk ho => by have := A.lt _ _ _ hP ho; omega
  refine (caught_any g hg cap w (A.own s) (hno _ (Nat.le_refl _)) (hno _ (by omega)) (fun e w1 => ∃ s', T e s' ∧ A.P s' w1 ∧ Moves A s s' (caughtW w) w1) (h.mono ?_)).mono ?_
  · rintro e w1 ⟨s', hT, hP', hm, hc⟩
    exact ⟨⟨s', hT, hP', hm⟩, hm.only, hc⟩
  · rintro e w' ⟨e1, w1, c, a, t, ⟨s', hT, hP', hm⟩, hc, he, ho, hsz, hat⟩
    have hb : Below w.heap.size w (caughtW w) := ((Below.refl _ _).alloc (Nat.le_refl _) _).alloc (by simp) _
    obtain ⟨x, y⟩ := Moves.after (n := 2) hP hb (by simp) hP' hm (hat.weaken fun k _ hk => by omega)
    exact ⟨e1, s', c, a, t, hT, hc, he, x, y⟩

theorem catch_st {σ : Type} (A : St σ) (g : FuncId) (hg : ∀ args w, (callFunc g args).run Tryz.prog w = .ok (.enter g args) w) (cap : Array Value) (w : World) (s : σ) (hP : A.P s w) (T : Ending → σ → Prop)
    (h : Calls Tryz.prog g cap (catchW w) fun e w1 => ∃ s', T e s' ∧ A.P s' w1 ∧ Moves A s s' (catchW w) w1 ∧ ∃ c a t, Came e c a t) :
    Calls Tryz.prog 51 #[.func (.func g) #[] cap] w fun e w' => ∃ e1 s' c a t, T e1 s' ∧ Came e1 c a t ∧ e = .returned (faultV c a) ∧ A.P s' w' ∧ Moves A s s' w w' := by
  have hno : ∀ k, w.heap.size ≤ k → ¬ A.own s k := fun k hk ho => by have := A.lt _ _ _ hP ho; omega
  refine (catch_any g hg cap w (A.own s) hno (fun e w1 => ∃ s', T e s' ∧ A.P s' w1 ∧ Moves A s s' (catchW w) w1) (h.mono ?_)).mono ?_
  · rintro e w1 ⟨s', hT, hP', hm, hc⟩
    exact ⟨⟨s', hT, hP', hm⟩, hm.only, hc⟩
  · rintro e w' ⟨e1, w1, c, a, t, ⟨s', hT, hP', hm⟩, hc, he, ho, hat⟩
    obtain ⟨x, y⟩ := Moves.after hP (below_catchW w) (by simp) hP' hm hat
    exact ⟨e1, s', c, a, t, hT, hc, he, x, y⟩

end Go.Proofs.YtjdbjnkmlajdoaaGreat.L1
