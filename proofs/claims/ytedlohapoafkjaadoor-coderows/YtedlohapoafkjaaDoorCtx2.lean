/-
  What a walk over two boxed values keeps from call to call, in one word.
-/
import Derived.Test.YtedlohapoafkjaaDoorCodeC
namespace Go.Proofs.YtedlohapoafkjaaDoor
open Go.RowKit

/-- Two values lie in the blocks p and q; what lay below w0 stands; MaxLen holds m. -/
structure Ctx2 (w0 : World) (p : Nat) (k n : Int) (s : ByteArray) (q : Nat) (k' n' : Int) (s' : ByteArray) (m : Int) (W : World) : Prop where
  A : Boxed W p k n s
  D : Boxed W q k' n' s'
  B : Below w0.heap.size w0 W
  hl : 1 < W.heap.size
  hm : W.cell? ⟨1, 0, none⟩ = some (.int .i64 m)

theorem Ctx2.step {w0 : World} {p : Nat} {k n : Int} {s : ByteArray} {q : Nat} {k' n' : Int} {s' : ByteArray} {m : Int} {W W' : World} (h : Ctx2 w0 p k n s q k' n' s' m W) (hb : Below W.heap.size W W') : Ctx2 w0 p k n s q k' n' s' m W' :=
  ⟨h.A.below hb, h.D.below hb, below_on h.B hb, Nat.lt_of_lt_of_le h.hl hb.size, by rw [hb.cell h.hl]; exact h.hm⟩

theorem Ctx2.cells {w0 : World} {p : Nat} {k n : Int} {s : ByteArray} {q : Nat} {k' n' : Int} {s' : ByteArray} {m : Int} {W : World} (h : Ctx2 w0 p k n s q k' n' s' m W) :
    W.cell? ⟨p, 0, none⟩ = some (.int .i64 k) ∧ W.cell? ⟨p, 1, none⟩ = some (.int .i64 n) ∧ W.cell? ⟨p, 2, none⟩ = some (.string s) ∧
    W.cell? ⟨q, 0, none⟩ = some (.int .i64 k') ∧ W.cell? ⟨q, 1, none⟩ = some (.int .i64 n') ∧ W.cell? ⟨q, 2, none⟩ = some (.string s') :=
  ⟨h.A.2.1, h.A.2.2.1, h.A.2.2.2, h.D.2.1, h.D.2.2.1, h.D.2.2.2⟩

theorem ctx2_start (w : World) (k n : Int) (s : ByteArray) (k' n' : Int) (s' : ByteArray) (m : Int) (hl : 1 < w.heap.size) (hm : w.cell? ⟨1, 0, none⟩ = some (.int .i64 m)) :
    Ctx2 w w.heap.size k n s (w.heap.size + 1) k' n' s' m ((w.alloc (.cells #[.int .i64 k, .int .i64 n, .string s] 23)).alloc (.cells #[.int .i64 k', .int .i64 n', .string s'] 23)) := by
  have A := (boxed_new w k n s 23).below (below_alloc _ (.cells #[.int .i64 k', .int .i64 n', .string s'] 23))
  have D := boxed_new (w.alloc (.cells #[.int .i64 k, .int .i64 n, .string s] 23)) k' n' s' 23
  have B := below_on (below_alloc w (.cells #[.int .i64 k, .int .i64 n, .string s] 23)) (below_alloc _ (.cells #[.int .i64 k', .int .i64 n', .string s'] 23))
  rw [World.size_alloc] at D
  exact ⟨A, D, B, Nat.lt_of_lt_of_le hl B.size, by rw [B.cell hl]; exact hm⟩
end Go.Proofs.YtedlohapoafkjaaDoor
