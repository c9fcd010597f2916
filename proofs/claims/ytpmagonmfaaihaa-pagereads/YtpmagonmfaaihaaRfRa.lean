/-
  The document's Read: what it keeps.
-/
import Derived.Test.YtpmagonmfaaihaaRdJ
import Derived.Test.YtpmagonmfaaihaaStepR
import Derived.Test.YtpmagonmfaaihaaPgDocW
namespace Go.Proofs.Ytpmagonmfaaihaa
open Go.RowKit

/-- The node that is filled, the page. -/
structure Rq (w : World) (b : Nat) (L : List UInt8) (p : Nat) (lf : Bool) (r k : Value) (l : List ByteArray) (ks : List Int) (wr : World) : Prop where
  below : Below w.heap.size w wr
  ge : w.heap.size < p
  blk : Blk wr b L
  n : wr.heap[p]? = some (.cells #[.bool lf, r, k] 28 (0, 0))
  z : wr.heap[w.heap.size]? = some (.cells #[.bool false, .slice none 0 0, .slice none 0 0] 28 (0, 0))
  rr : wr.ownsRow w.heap.size 9 1 r l.length (svs l)
  kk : wr.ownsRow w.heap.size 3 1 k ks.length (ivs ks)

theorem Rq.on {w : World} {b : Nat} {L : List UInt8} {p : Nat} {lf : Bool} {r k : Value} {l : List ByteArray} {ks : List Int} {wr wr' : World} (h : Rq w b L p lf r k l ks wr) (hb : Below wr.heap.size wr wr') : Rq w b L p lf r k l ks wr' :=
  ⟨h.below.trans (hb.mono h.below.size), h.ge, (hb.block b h.blk.lt).trans h.blk, (hb.block _ (Array.getElem?_eq_some_iff.1 h.n).1).trans h.n, (hb.block _ (Array.getElem?_eq_some_iff.1 h.z).1).trans h.z, owns_below h.rr hb, owns_below h.kk hb⟩

theorem Rq.new {w : World} {b : Nat} {L : List UInt8} (h : Blk w b L) (lf : Bool) : Rq w b L (w.heap.size + 1) lf (.slice none 0 0) (.slice none 0 0) [] [] ((w.alloc (.cells #[.bool false, .slice none 0 0, .slice none 0 0] 28)).alloc (.cells #[.bool lf, .slice none 0 0, .slice none 0 0] 28)) := by
  have B1 := below_alloc w (.cells #[.bool false, .slice none 0 0, .slice none 0 0] 28)
  have B2 := below_alloc (w.alloc (.cells #[.bool false, .slice none 0 0, .slice none 0 0] 28)) (.cells #[.bool lf, .slice none 0 0, .slice none 0 0] 28)
  have hs : (w.alloc (.cells #[.bool false, .slice none 0 0, .slice none 0 0] 28)).heap.size = w.heap.size + 1 := by simp
  refine ⟨below_on B1 B2, by omega, ((below_on B1 B2).block b h.lt).trans h, ?_, (B2.block _ (by omega)).trans (heap_alloc_last _ _), ⟨rfl, Or.inl ⟨rfl, rfl⟩⟩, ⟨rfl, Or.inl ⟨rfl, rfl⟩⟩⟩
  rw [← hs]
  exact heap_alloc_last _ _

/-- One entry more. -/
theorem Rq.more {w : World} {b : Nat} {L : List UInt8} {p : Nat} {lf : Bool} {r k r' : Value} {l : List ByteArray} {ks : List Int} {wr w1 w2 : World} {m : Nat} {x : ByteArray} (h : Rq w b L p lf r k l ks wr) (hw : Blk w b L) (hb : Below wr.heap.size wr w1) (hg : w1.grownBy w2 r.ownBlock) (ho : w2.ownsRow w.heap.size 9 1 r' m (svs l ++ svs [x])) (hm : m = l.length + 1) :
    Rq w b L p lf r' k (l ++ [x]) ks (w2.setCell ⟨p, 1, none⟩ r') ∧ w2.heap[p]? = some (.cells #[.bool lf, r, k] 28 (0, 0)) := by
  subst hm
  have h1 := h.on hb
  have hge := h.ge
  have nt : ∀ q, w1.heap[q]? = some (.cells #[.bool lf, r, k] 28 (0, 0)) → some q ≠ r.ownBlock := fun q hq e => by
    rcases h1.rr.2 with ⟨rfl, _⟩ | ⟨g, cap, cur, rfl, _, hc, _⟩
    · simp [Value.ownBlock] at e
    · simp [Value.ownBlock] at e
      subst e
      rw [hq] at hc
      cases hc
  have n2 : w2.heap[p]? = some (.cells #[.bool lf, r, k] 28 (0, 0)) := (hg.block p (Array.getElem?_eq_some_iff.1 h1.n).1 (nt p h1.n)).trans h1.n
  have z2 : w2.heap[w.heap.size]? = some (.cells #[.bool false, .slice none 0 0, .slice none 0 0] 28 (0, 0)) := by
    refine (hg.block _ (Array.getElem?_eq_some_iff.1 h1.z).1 fun e => ?_).trans h1.z
    rcases h1.rr.2 with ⟨rfl, _⟩ | ⟨g, cap, cur, rfl, _, hc, _⟩
    · simp [Value.ownBlock] at e
    · simp [Value.ownBlock] at e
      subst e
      rw [h1.z] at hc
      cases hc
  have k2 : w2.ownsRow w.heap.size 3 1 k ks.length (ivs ks) := owns_of_block h1.kk fun q hq => hg.block q (h1.kk.lt q hq).2 fun e => by
    rcases h1.rr.2 with ⟨rfl, _⟩ | ⟨g, cap, cur, rfl, _, hc, _⟩
    · simp [Value.ownBlock] at e
    · simp [Value.ownBlock] at e
      subst e
      rcases h1.kk.2 with ⟨rfl, _⟩ | ⟨g', cap', cur', rfl, _, hc', _⟩
      · simp [Value.ownBlock] at hq
      · simp [Value.ownBlock] at hq
        subst hq
        rw [hc] at hc'
        cases hc'
  have b2 : Below w.heap.size w w2 := h1.below.grown hg h1.below.size (fun q hq => (h1.rr.lt q hq).1)
  have bs : (w2.setCell ⟨p, 1, none⟩ r').heap.size = w2.heap.size := by simp [World.setCell]
  have oth : ∀ q, q ≠ p → (w2.setCell ⟨p, 1, none⟩ r').heap[q]? = w2.heap[q]? := fun q hq => heap_setCell_other _ _ _ _ hq
  refine ⟨⟨b2.setCell (show w.heap.size ≤ p by omega) r', hge, ?_, heap_setCell_same w2 p 1 _ _ r' n2, (oth _ (by omega)).trans z2, ?_, ?_⟩, n2⟩
  · exact (oth b (by have := hw.lt; omega)).trans ((b2.block b hw.lt).trans hw)
  · have e : svs (l ++ [x]) = svs l ++ svs [x] := by unfold svs; rw [List.map_append]
    rw [e, List.length_append]
    refine owns_of_block ho fun q hq => oth q fun e => ?_
    subst e
    rcases ho.2 with ⟨rfl, _⟩ | ⟨g, cap, cur, rfl, _, hc, _⟩
    · simp [Value.ownBlock] at hq
    · simp [Value.ownBlock] at hq
      subst hq
      rw [n2] at hc
      cases hc
  · refine owns_of_block k2 fun q hq => oth q fun e => ?_
    subst e
    rcases k2.2 with ⟨rfl, _⟩ | ⟨g, cap, cur, rfl, _, hc, _⟩
    · simp [Value.ownBlock] at hq
    · simp [Value.ownBlock] at hq
      subst hq
      rw [n2] at hc
      cases hc

/-- One of the Kids more. -/
theorem Rq.moreK {w : World} {b : Nat} {L : List UInt8} {p : Nat} {lf : Bool} {r k k' : Value} {l : List ByteArray} {ks : List Int} {wr w1 w2 : World} {m : Nat} {x : Int} (h : Rq w b L p lf r k l ks wr) (hw : Blk w b L) (hb : Below wr.heap.size wr w1) (hg : w1.grownBy w2 k.ownBlock) (ho : w2.ownsRow w.heap.size 3 1 k' m (ivs ks ++ ivs [x])) (hm : m = ks.length + 1) :
    Rq w b L p lf r k' l (ks ++ [x]) (w2.setCell ⟨p, 2, none⟩ k') ∧ w2.heap[p]? = some (.cells #[.bool lf, r, k] 28 (0, 0)) := by
  subst hm
  have h1 := h.on hb
  have hge := h.ge
  have nt : ∀ q, w1.heap[q]? = some (.cells #[.bool lf, r, k] 28 (0, 0)) → some q ≠ k.ownBlock := fun q hq e => by
    rcases h1.kk.2 with ⟨rfl, _⟩ | ⟨g, cap, cur, rfl, _, hc, _⟩
    · simp [Value.ownBlock] at e
    · simp [Value.ownBlock] at e
      subst e
      rw [hq] at hc
      cases hc
  have n2 : w2.heap[p]? = some (.cells #[.bool lf, r, k] 28 (0, 0)) := (hg.block p (Array.getElem?_eq_some_iff.1 h1.n).1 (nt p h1.n)).trans h1.n
  have z2 : w2.heap[w.heap.size]? = some (.cells #[.bool false, .slice none 0 0, .slice none 0 0] 28 (0, 0)) := by
    refine (hg.block _ (Array.getElem?_eq_some_iff.1 h1.z).1 fun e => ?_).trans h1.z
    rcases h1.kk.2 with ⟨rfl, _⟩ | ⟨g, cap, cur, rfl, _, hc, _⟩
    · simp [Value.ownBlock] at e
    · simp [Value.ownBlock] at e
      subst e
      rw [h1.z] at hc
      cases hc
  have k2 : w2.ownsRow w.heap.size 9 1 r l.length (svs l) := owns_of_block h1.rr fun q hq => hg.block q (h1.rr.lt q hq).2 fun e => by
    rcases h1.kk.2 with ⟨rfl, _⟩ | ⟨g, cap, cur, rfl, _, hc, _⟩
    · simp [Value.ownBlock] at e
    · simp [Value.ownBlock] at e
      subst e
      rcases h1.rr.2 with ⟨rfl, _⟩ | ⟨g', cap', cur', rfl, _, hc', _⟩
      · simp [Value.ownBlock] at hq
      · simp [Value.ownBlock] at hq
        subst hq
        rw [hc] at hc'
        cases hc'
  have b2 : Below w.heap.size w w2 := h1.below.grown hg h1.below.size (fun q hq => (h1.kk.lt q hq).1)
  have bs : (w2.setCell ⟨p, 2, none⟩ k').heap.size = w2.heap.size := by simp [World.setCell]
  have oth : ∀ q, q ≠ p → (w2.setCell ⟨p, 2, none⟩ k').heap[q]? = w2.heap[q]? := fun q hq => heap_setCell_other _ _ _ _ hq
  refine ⟨⟨b2.setCell (show w.heap.size ≤ p by omega) k', hge, ?_, heap_setCell_same w2 p 2 _ _ k' n2, (oth _ (by omega)).trans z2, ?_, ?_⟩, n2⟩
  · exact (oth b (by have := hw.lt; omega)).trans ((b2.block b hw.lt).trans hw)
  · refine owns_of_block k2 fun q hq => oth q fun e => ?_
    subst e
    rcases k2.2 with ⟨rfl, _⟩ | ⟨g, cap, cur, rfl, _, hc, _⟩
    · simp [Value.ownBlock] at hq
    · simp [Value.ownBlock] at hq
      subst hq
      rw [n2] at hc
      cases hc
  · have e : ivs (ks ++ [x]) = ivs ks ++ ivs [x] := by unfold ivs; rw [List.map_append]
    rw [e, List.length_append]
    refine owns_of_block ho fun q hq => oth q fun e => ?_
    subst e
    rcases ho.2 with ⟨rfl, _⟩ | ⟨g, cap, cur, rfl, _, hc, _⟩
    · simp [Value.ownBlock] at hq
    · simp [Value.ownBlock] at hq
      subst hq
      rw [n2] at hc
      cases hc

theorem rput3_block {W : World} {p : Nat} {u v t : Value} (hp : W.heap[p]? = some (.cells #[u, v, t] 28 (0, 0))) (x y z : Value) : (put3 W p x y z).heap[p]? = some (.cells #[x, y, z] 28 (0, 0)) := by
  unfold put3
  have h1 := heap_setCell_same W p 0 _ _ x hp
  have h2 := heap_setCell_same _ p 1 _ _ y h1
  exact heap_setCell_same _ p 2 _ _ z h2

theorem Rq.fail {w : World} {b : Nat} {L : List UInt8} {p : Nat} {lf : Bool} {r k : Value} {l : List ByteArray} {ks : List Int} {W : World} (h : Rq w b L p lf r k l ks W) (x y z : Value) : ROut w x y z (put3 W w.heap.size x y z) := by
  obtain ⟨c0, c1, c2⟩ := node_cells (rput3_block h.z x y z)
  exact ⟨c0, c1, c2, put3_below h.below (Nat.le_refl _) x y z⟩

theorem Rq.done {w : World} {b : Nat} {L : List UInt8} {p : Nat} {lf : Bool} {r k : Value} {l : List ByteArray} {ks : List Int} {W : World} (h : Rq w b L p lf r k l ks W) (x y z : Value) : RRes w x y z l.length (svs l) ks.length (ivs ks) (put3 W w.heap.size x y z) ∨ ¬ (y = r ∧ z = k) := by
  by_cases e : y = r ∧ z = k
  · obtain ⟨rfl, rfl⟩ := e
    refine Or.inl ⟨h.fail x y z, owns_of_block h.rr fun q hq => put3_other (fun e => ?_) x y z, owns_of_block h.kk fun q hq => put3_other (fun e => ?_) x y z⟩
    · subst e
      rcases h.rr.2 with ⟨rfl, _⟩ | ⟨g, cap, cur, rfl, _, hc, _⟩
      · simp [Value.ownBlock] at hq
      · simp [Value.ownBlock] at hq
        subst hq
        rw [h.z] at hc
        cases hc
    · subst e
      rcases h.kk.2 with ⟨rfl, _⟩ | ⟨g, cap, cur, rfl, _, hc, _⟩
      · simp [Value.ownBlock] at hq
      · simp [Value.ownBlock] at hq
        subst hq
        rw [h.z] at hc
        cases hc
  · exact Or.inr e

theorem Rq.all {w : World} {b : Nat} {L : List UInt8} {p : Nat} {lf : Bool} {r k : Value} {l : List ByteArray} {ks : List Int} {W : World} (h : Rq w b L p lf r k l ks W) (x : Value) : RRes w x r k l.length (svs l) ks.length (ivs ks) (put3 W w.heap.size x r k) := by
  rcases h.done x r k with h | h
  · exact h
  · exact absurd ⟨rfl, rfl⟩ h

end Go.Proofs.Ytpmagonmfaaihaa
