/-
  A region that draws its order, whose operations read what lay before and whose callees make new blocks alone: one walk serves every order. Of no program.
-/
import Derived.StillTail
import Derived.Test.YtcgpcigablefhaaGreatDoorRwA
namespace Go.Proofs.YtcgpcigablefhaaGreatDoor
open Go.RowKit

/-- A world in which all that W holds still stands. -/
structure BelowW (W : World) where
  w : World
  below : Below W.heap.size W w

theorem wp_region_below {P : Program} {id : Nat} {Q : Exit → Act → World → Prop} {a : Act} {W : World} {l : List Oper} (hm : P.follows .mixedOrders = true) (hB : Region.lexB .any l.toArray = true)
    (h : Nonempty (BelowW W) → wpQuiet P l.toArray (fun w' => ∃ q : BelowW W, w' = q.w) (fun a' => ∀ w', (∃ q : BelowW W, w' = q.w) → Q .normal a' w') l a) : (Code.region id l.toArray true).wp P Q a W :=
  wp_region_quiet (C := fun w' => ∃ q : BelowW W, w' = q.w) hm hB ⟨⟨{ W with drawn := W.drawn + 1 }, (Below.refl _ _).drew⟩, rfl⟩ (by simpa using h ⟨⟨W, Below.refl _ _⟩⟩)

theorem quiet_of_below {P : Program} {f : FuncId} {args : Array Value} {W : World} {q : BelowW W} {v : Value} (h : Calls P f args q.w fun e w' => e = .returned v ∧ Below q.w.heap.size q.w w') :
    Calls P f args q.w fun e w'' => e = .returned v ∧ ∃ q' : BelowW W, w'' = q'.w :=
  h.mono fun _ w' ⟨he, hb⟩ => ⟨he, ⟨w', q.below.trans (hb.mono q.below.size)⟩, rfl⟩
end Go.Proofs.YtcgpcigablefhaaGreatDoor
