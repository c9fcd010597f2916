/-
  States that blocks hold, where pages, once laid, are never written: what a call does to the blocks that a state owns; two states side by side.
-/
import Derived.Test.YtjdbjnkmlajdoaaGreatOnly
namespace Go.Proofs.YtjdbjnkmlajdoaaGreat.L4
open Go.RowKit

/-- Pages that lie stay as they are. -/
def Pk (W W' : World) : Prop := ∀ (k : Nat) (cs : Array Value), W.heap[k]? = some (Obj.cells cs 131 (0, 0)) → W'.heap[k]? = W.heap[k]?

theorem Pk.trans {a b c : World} (h : Pk a b) (h' : Pk b c) : Pk a c := fun k cs hk => (h' k cs ((h k cs hk).trans hk)).trans (h k cs hk)

theorem Pk.of_below {W W' : World} (h : Below W.heap.size W W') : Pk W W' := fun k _ hk => h.block k (Array.getElem?_eq_some_iff.1 hk).1

/-- A state that some blocks hold, and pages: it is told by these alone. -/
structure St (σ : Type) where
  own : σ → Nat → Prop
  P : σ → World → Prop
  keep : ∀ s w w', P s w → (∀ k, own s k → w'.heap[k]? = w.heap[k]?) → Pk w w' → P s w'
  lt : ∀ s w k, P s w → own s k → k < w.heap.size
  tag : ∀ s w k cs, P s w → own s k → w.heap[k]? ≠ some (Obj.cells cs 131 (0, 0))

theorem St.pk {σ : Type} (A : St σ) {s : σ} {w w' : World} (h : A.P s w) (o : Only (A.own s) w w') : Pk w w' := fun k cs hk =>
  o.block k (Array.getElem?_eq_some_iff.1 hk).1 fun x => A.tag s w k cs h x hk

/-- From s in w to s' in w': nothing has turned but what s owned; what s' owns was s's or is new. -/
structure Moves {σ : Type} (A : St σ) (s s' : σ) (w w' : World) : Prop where
  only : Only (A.own s) w w'
  own : ∀ k, A.own s' k → A.own s k ∨ w.heap.size ≤ k

theorem Moves.refl {σ : Type} (A : St σ) (s : σ) (w : World) : Moves A s s w w := ⟨Only.refl _ _, fun _ h => Or.inl h⟩

theorem Moves.trans {σ : Type} {A : St σ} {s s' s'' : σ} {w w1 w2 : World} (h : Moves A s s' w w1) (h' : Moves A s' s'' w1 w2) : Moves A s s'' w w2 := by
  have z := h.only.size
  refine ⟨⟨h'.only.os.trans h.only.os, h'.only.tape.trans h.only.tape, h'.only.output.trans h.only.output, Nat.le_trans z h'.only.size, fun k hk hs => ?_⟩, fun k hk => ?_⟩
  · rw [h'.only.block k (by omega) fun x => by rcases h.own k x with y | y; exact hs y; omega]
    exact h.only.block k hk hs
  · rcases h'.own k hk with x | x
    · exact h.own k x
    · exact Or.inr (by omega)

/-- New blocks are no part of a state. -/
theorem St.below {σ : Type} (A : St σ) {s : σ} {w w' : World} (h : A.P s w) (hb : Below w.heap.size w w') : A.P s w' :=
  A.keep s w w' h (fun k hk => hb.block k (A.lt s w k h hk)) (Pk.of_below hb)

theorem Moves.below {σ : Type} {A : St σ} {s : σ} {w w' : World} (hb : Below w.heap.size w w') : Moves A s s w w' :=
  ⟨Only.of_below hb, fun _ h => Or.inl h⟩

/-- Two states side by side: no block is of both. -/
def St.prod {σ τ : Type} (A : St σ) (B : St τ) : St (σ × τ) where
  own st k := A.own st.1 k ∨ B.own st.2 k
  P st w := A.P st.1 w ∧ B.P st.2 w ∧ ∀ k, A.own st.1 k → ¬ B.own st.2 k
  keep st w w' h hk hp := ⟨A.keep st.1 w w' h.1 (fun k x => hk k (Or.inl x)) hp, B.keep st.2 w w' h.2.1 (fun k x => hk k (Or.inr x)) hp, h.2.2⟩
  lt st w k h x := x.elim (A.lt st.1 w k h.1) (B.lt st.2 w k h.2.1)
  tag st w k cs h x := x.elim (A.tag st.1 w k cs h.1) (B.tag st.2 w k cs h.2.1)

/-- A call that moves the first leaves the second. -/
theorem St.left {σ τ : Type} {A : St σ} {B : St τ} {s s' : σ} {t : τ} {w w' : World} (h : (A.prod B).P (s, t) w) (h' : A.P s' w') (hm : Moves A s s' w w') : (A.prod B).P (s', t) w' ∧ Moves (A.prod B) (s, t) (s', t) w w' := by
  obtain ⟨hA, hB, hd⟩ := h
  have hB' : B.P t w' := B.keep t w w' hB (fun k hk => hm.only.block k (B.lt t w k hB hk) fun x => hd k x hk) (A.pk hA hm.only)
  refine ⟨⟨h', hB', fun k x y => ?_⟩, hm.only.weaken fun k _ x => Or.inl x, fun k x => ?_⟩
  · rcases hm.own k x with z | z
    · exact hd k z y
    · have := B.lt t w k hB y
      omega
  · rcases x with x | x
    · exact (hm.own k x).imp Or.inl id
    · exact Or.inl (Or.inr x)

/-- A call that moves the second leaves the first. -/
theorem St.right {σ τ : Type} {A : St σ} {B : St τ} {s : σ} {t t' : τ} {w w' : World} (h : (A.prod B).P (s, t) w) (h' : B.P t' w') (hm : Moves B t t' w w') : (A.prod B).P (s, t') w' ∧ Moves (A.prod B) (s, t) (s, t') w w' := by
  obtain ⟨hA, hB, hd⟩ := h
  have hA' : A.P s w' := A.keep s w w' hA (fun k hk => hm.only.block k (A.lt s w k hA hk) fun x => hd k hk x) (B.pk hB hm.only)
  refine ⟨⟨hA', h', fun k x y => ?_⟩, hm.only.weaken fun k _ x => Or.inr x, fun k x => ?_⟩
  · rcases hm.own k y with z | z
    · exact hd k x z
    · have := A.lt s w k hA x
      omega
  · rcases x with x | x
    · exact Or.inl (Or.inl x)
    · exact (hm.own k x).imp Or.inr id

/-- What nothing old has turned by: all that the state owned was new. -/
theorem Moves.fresh {σ : Type} {A : St σ} {s s' : σ} {w0 w w' : World} (hb : Below w0.heap.size w0 w) (hm : Moves A s s' w w') (hn : ∀ k, A.own s k → w0.heap.size ≤ k) : Below w0.heap.size w0 w' ∧ ∀ k, A.own s' k → w0.heap.size ≤ k := by
  refine ⟨hb.trans (hm.only.below hb.size fun k hk x => ?_), fun k x => ?_⟩
  · have := hn k x; omega
  · rcases hm.own k x with y | y
    · exact hn k y
    · exact Nat.le_trans hb.size y
end Go.Proofs.YtjdbjnkmlajdoaaGreat.L4
