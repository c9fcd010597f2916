import Derived.Test.YtdnkbdjhccckhaaGreatMBA
namespace Go.Proofs.YtdnkbdjhccckhaaGreat.L5
open Go.RowKit
def OneT (W: World) (p: Nat) (s: ByteArray): Prop := W.heap[p]? = some (.cells #[.string s] 9 (0,0))
theorem OneT.rd {W: World} {p: Nat} {s: ByteArray} (h: OneT W p s): Rd W (some ⟨p,0,none⟩) 1 (svs [s]) := by
 refine ⟨by simp [svs],by unfold maxLen; omega,fun j u hj => ⟨p,0,rfl,(Array.getElem?_eq_some_iff.1 h).1, ?_⟩⟩
 have: j = 0 := by
  have := (List.getElem?_eq_some_iff.1 hj).1
  simpa [svs] using this
 subst this
 simp [svs] at hj
 subst hj
 rw [cell_of_row _ _ _ _ _ _ h]
 rfl
theorem blocks2 (w: World) (x y: Obj): ((w.alloc x).alloc y).heap[w.heap.size]? = some x /\ ((w.alloc x).alloc y).heap[w.heap.size + 1]? = some y /\ Below w.heap.size w ((w.alloc x).alloc y) := by
 have B := below_alloc (w.alloc x) y
 refine ⟨?_, ?_,below_on (below_alloc w x) B⟩
 · rw [B.block _ (by simp)]; exact heap_alloc_last _ _
 · have := heap_alloc_last (w.alloc x) y
   rw [show (w.alloc x).heap.size = w.heap.size + 1 by simp] at this
   exact this
theorem blocks3 (w: World) (x y z: Obj): (((w.alloc x).alloc y).alloc z).heap[w.heap.size]? = some x /\ (((w.alloc x).alloc y).alloc z).heap[w.heap.size + 1]? = some y /\ (((w.alloc x).alloc y).alloc z).heap[w.heap.size + 1 + 1]? = some z /\ Below w.heap.size w (((w.alloc x).alloc y).alloc z) := by
 have B := below_alloc ((w.alloc x).alloc y) z
 obtain ⟨h1,h2,h3⟩ := blocks2 w x y
 refine ⟨(B.block _ (Array.getElem?_eq_some_iff.1 h1).1).trans h1,(B.block _ (Array.getElem?_eq_some_iff.1 h2).1).trans h2, ?_,below_on h3 B⟩
 have := heap_alloc_last ((w.alloc x).alloc y) z
 rw [show ((w.alloc x).alloc y).heap.size = w.heap.size + 1 + 1 by simp] at this
 exact this
end Go.Proofs.YtdnkbdjhccckhaaGreat.L5
