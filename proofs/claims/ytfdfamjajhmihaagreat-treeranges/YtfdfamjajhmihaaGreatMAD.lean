/-
  The document's Shaped.
-/
import Derived.Test.YtfdfamjajhmihaaGreatMAC
namespace Go.Proofs.YtfdfamjajhmihaaGreat.L5
open Go.RowKit

/-- A world behind the boxing of a node: what the loops read. -/
structure Bx (w : World) (n : No) (a : Option Addr) (c : Nat) (a' : Option Addr) (c' : Nat) (wr : World) : Prop where
  below : Below w.heap.size w wr
  c0 : wr.cell? ⟨w.heap.size, 0, none⟩ = some (.bool n.leaf)
  c1 : wr.cell? ⟨w.heap.size, 1, none⟩ = some (.slice a n.recs.length c)
  c2 : wr.cell? ⟨w.heap.size, 2, none⟩ = some (.slice a' n.kids.length c')
  lt : w.heap.size < wr.heap.size

theorem Bx.new (w : World) (n : No) (a : Option Addr) (c : Nat) (a' : Option Addr) (c' : Nat) (t : TypeId) : Bx w n a c a' c' (w.alloc (.cells #[.bool n.leaf, .slice a n.recs.length c, .slice a' n.kids.length c'] t)) := by
  obtain ⟨b0, b1, b2⟩ := box_cells w (.bool n.leaf) (.slice a n.recs.length c) (.slice a' n.kids.length c') t
  exact ⟨below_alloc _ _, b0, b1, b2, by simp⟩

theorem Bx.on {w : World} {n : No} {a : Option Addr} {c : Nat} {a' : Option Addr} {c' : Nat} {wr wr' : World} (h : Bx w n a c a' c' wr) (hb : Below wr.heap.size wr wr') : Bx w n a c a' c' wr' :=
  ⟨below_on h.below hb, (hb.cell h.lt).trans h.c0, (hb.cell h.lt).trans h.c1, (hb.cell h.lt).trans h.c2, Nat.lt_of_lt_of_le h.lt hb.size⟩

theorem Bx.drewN {w : World} {n : No} {a : Option Addr} {c : Nat} {a' : Option Addr} {c' : Nat} {wr : World} (h : Bx w n a c a' c' wr) (k : Nat) : Bx w n a c a' c' (wr.drewN k) := h.on (below_drewN (Below.refl _ _) k)

end Go.Proofs.YtfdfamjajhmihaaGreat.L5
