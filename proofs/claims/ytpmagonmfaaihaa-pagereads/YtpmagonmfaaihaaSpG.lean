/-
  The document's Cut.
-/
import Derived.Test.YtpmagonmfaaihaaSpF
namespace Go.Proofs.Ytpmagonmfaaihaa
open Go.RowKit

/-- A world behind the boxing of a node that can be read. -/
structure Nq (w : World) (n : No) (a : Option Addr) (c : Nat) (a' : Option Addr) (c' : Nat) (wr : World) : Prop where
  bx : Bx w n a c a' c' wr
  nr : NR wr n a c a' c'

theorem Nq.on {w : World} {n : No} {a : Option Addr} {c : Nat} {a' : Option Addr} {c' : Nat} {wr wr' : World} (h : Nq w n a c a' c' wr) (hb : Below wr.heap.size wr wr') : Nq w n a c a' c' wr' := ⟨h.bx.on hb, h.nr.below hb⟩

theorem Nq.new {w : World} {n : No} {a : Option Addr} {c : Nat} {a' : Option Addr} {c' : Nat} (hr : NR w n a c a' c') (t : TypeId) : Nq w n a c a' c' (w.alloc (.cells #[.bool n.leaf, .slice a n.recs.length c, .slice a' n.kids.length c'] t)) := ⟨Bx.new w n a c a' c' t, hr.below (below_alloc _ _)⟩

/-- A world in which all that W holds still stands. -/
structure BelowW (W : World) where
  w : World
  below : Below W.heap.size W w

theorem wp_region_below {P : Program} {id : Nat} {Q : Exit → Act → World → Prop} {a : Act} {W : World} {l : List Oper} (hm : P.follows .mixedOrders = true) (hB : Region.lexB .any l.toArray = true)
    (h : Nonempty (BelowW W) → wpQuiet P l.toArray (fun w' => ∃ q : BelowW W, w' = q.w) (fun a' => ∀ w', (∃ q : BelowW W, w' = q.w) → Q .normal a' w') l a) : (Code.region id l.toArray true).wp P Q a W :=
  wp_region_quiet (C := fun w' => ∃ q : BelowW W, w' = q.w) hm hB ⟨⟨{ W with drawn := W.drawn + 1 }, (Below.refl _ _).drew⟩, rfl⟩ (by simpa using h ⟨⟨W, Below.refl _ _⟩⟩)

theorem quiet_of_below {P : Program} {f : FuncId} {args : Array Value} {W : World} {q : BelowW W} {v : Value} (h : Calls P f args q.w fun e w' => e = .returned v ∧ Below q.w.heap.size q.w w') :
    Calls P f args q.w fun e w'' => e = .returned v ∧ ∃ q' : BelowW W, w'' = q'.w :=
  h.mono fun _ w' ⟨he, hb⟩ => ⟨he, ⟨w', below_on q.below hb⟩, rfl⟩

/-- The heaviest side's function and its gap, by the kind. -/
def No.gap (n : No) : Nat := if n.leaf then 0 else 1
def No.hv (n : No) (k : Nat) : Nat := if n.leaf then heavy 4 0 n.recs k else heavy 8 1 n.recs k
def No.cut (n : No) : Nat := minAt n.hv (n.recs.length - n.gap - 2)

theorem cut_leaf {n : No} (h : n.leaf = true) : n.cut = cutN 4 0 n.recs := by
  unfold No.cut cutN No.gap
  rw [if_pos h]
  congr 1
  funext k
  unfold No.hv
  rw [if_pos h]

theorem cut_inner {n : No} (h : n.leaf = false) : n.cut = cutN 8 1 n.recs := by
  unfold No.cut cutN No.gap
  rw [h]
  congr 1
  funext k
  unfold No.hv
  rw [h]
  rfl

theorem side_some {n : No} {k : Nat} (h : k + n.gap < n.recs.length) : sideI n k = (n.hv k : Int) := by
  unfold sideI No.hv
  unfold No.gap at h
  cases hl : n.leaf
  · rw [hl] at h
    simp at h
    rw [if_neg (by decide), if_pos h, if_neg (by decide)]
  · rw [if_pos rfl, if_pos rfl]

theorem side_none {n : No} {k : Nat} (hk : k < n.recs.length) (h : ¬ k + n.gap < n.recs.length) : sideI n k = -1 := by
  unfold sideI
  unfold No.gap at h
  cases hl : n.leaf
  · rw [hl] at h
    simp at h
    rw [if_neg (by decide), if_neg (by omega)]
  · rw [hl] at h
    simp at h
    omega

end Go.Proofs.Ytpmagonmfaaihaa
