/-
  Delta: the beginning of the laws that make changes by ops; regions whose callees make new blocks.
-/
import Derived.Test.YtmcbpopeinabcaaDlN
import Derived.Test.YtmcbpopeinabcaaDlI
namespace Go.Proofs.Ytmcbpopeinabcaa
open Go.RowKit

/-- A world in which all that W holds still stands. -/
structure BelowW (W : World) where
  w : World
  below : Below W.heap.size W w

theorem wp_region_below {P : Program} {id : Nat} {Q : Exit → Act → World → Prop} {a : Act} {W : World} {l : List Oper} (hm : P.follows .mixedOrders = true) (hB : Region.lexB .any l.toArray = true)
    (h : Nonempty (BelowW W) → wpQuiet P l.toArray (fun w' => ∃ q : BelowW W, w' = q.w) (fun a' => ∀ w', (∃ q : BelowW W, w' = q.w) → Q .normal a' w') l a) : (Code.region id l.toArray true).wp P Q a W :=
  wp_region_quiet (C := fun w' => ∃ q : BelowW W, w' = q.w) hm hB ⟨⟨{ W with drawn := W.drawn + 1 }, (Below.refl _ _).drew⟩, rfl⟩ (by simpa using h ⟨⟨W, Below.refl _ _⟩⟩)

theorem quiet_of_below {P : Program} {f : FuncId} {args : Array Value} {W : World} {q : BelowW W} {v : Value} (h : Calls P f args q.w fun e w' => e = .returned v ∧ Below q.w.heap.size q.w w') :
    Calls P f args q.w fun e w'' => e = .returned v ∧ ∃ q' : BelowW W, w'' = q'.w :=
  h.mono fun _ w' ⟨he, hb⟩ => ⟨he, ⟨w', below_on q.below hb q.below.size⟩, rfl⟩

/-- The changes that were made. -/
structure MadeC (w : World) (L : List PC) (v : Value) (W : World) : Prop where
  below : Below w.heap.size w W
  own : W.ownsRow w.heap.size 27 4 v L.length (rcs L)
  all : AllM W L

theorem MadeC.on {w W W' : World} {L : List PC} {v : Value} (h : MadeC w L v W) (hb : Below W.heap.size W W') : MadeC w L v W' :=
  ⟨below_on h.below hb h.below.size, owns_below h.own fun q hq => hb.block q (h.own.lt q hq).2, h.all.below hb⟩

theorem map_new (w : World) : MapS (w.alloc (.map #[] 0)) w.heap.size [] := ⟨⟨[], 0, ⟨heap_alloc_new _ _, fun x hx => (by cases hx), .nil, fun x hx => (by cases hx)⟩, rfl⟩, .nil⟩

theorem stok_nil (W : World) : StOk W [] := ⟨fun p hp => (by cases hp), .nil⟩

theorem below_only {w W W' : World} (h : Below w.heap.size w W) {b : Nat} (hb : w.heap.size ≤ b) (ho : Only (fun k => k = b) W W') : Below w.heap.size w W' :=
  h.trans (ho.below h.size fun k hk e => by omega)

theorem made_changes {l : List OpD} {a : Option Addr} {n c : Nat} {w : World} (h : OpsIn w a l) (hl : l.length = n) (hf : FewP l) :
    Calls Try.prog 19 #[.map (some w.heap.size), .slice a n c] (w.alloc (.map #[] 0)) fun e w' => ∃ v, e = .returned v ∧ MadeC w (chgL [] l) v w' := by
  refine (changes_walk (c := c) (h.below (below_alloc w _)) (stok_nil _) (map_new w) hl hf).mono ?_
  rintro e w' ⟨v, rfl, hC⟩
  refine ⟨v, rfl, below_only (below_alloc w _) (Nat.le_refl _) hC.only, owns_mono hC.own fun q hq => ?_, ?_⟩
  · have := (hC.own.lt q hq).1; simp at this; omega
  · exact chgL_means (stok_nil _) fun x hx => ⟨ok_only ((h.below (below_alloc w _)).ok x hx).1 (heap_alloc_new w _) hC.only, hf.2 x hx⟩

theorem MadeC.slc {w W : World} {L : List PC} {a : Option Addr} {n c : Nat} (h : MadeC w L (.slice a n c) W) (hn : L.length = n) : SlC W a L := by
  subst hn; exact (owns_slc h.own).2.1
end Go.Proofs.Ytmcbpopeinabcaa
