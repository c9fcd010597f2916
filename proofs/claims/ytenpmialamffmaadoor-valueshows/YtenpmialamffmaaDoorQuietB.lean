/-
  A region that draws its order, whose operations read what lay before and whose callees make new blocks alone: one walk serves every order: the class is 'what lay below stands'. Of no program.
-/
import Derived.Test.YtenpmialamffmaaDoorValueD
namespace Go.Proofs.YtenpmialamffmaaDoor
open Go.RowKit

/-- A world in which all that W holds still stands. -/
structure BelowW (W : World) where
  w : World
  below : Below W.heap.size W w

theorem wp_region_below {P : Program} {id : Nat} {Q : Exit → Act → World → Prop} {a : Act} {W : World} {l : List Oper} (hm : P.follows .mixedOrders = true) (hB : Region.lexB .any l.toArray = true)
    (h : Nonempty (BelowW W) → wpQuiet P l.toArray (fun w' => ∃ q : BelowW W, w' = q.w) (fun a' => ∀ w', (∃ q : BelowW W, w' = q.w) → Q .normal a' w') l a) : (Code.region id l.toArray true).wp P Q a W :=
  wp_region_quiet (C := fun w' => ∃ q : BelowW W, w' = q.w) hm hB ⟨⟨{ W with drawn := W.drawn + 1 }, (Below.refl _ _).drew⟩, rfl⟩ (by simpa using h ⟨⟨W, Below.refl _ _⟩⟩)

theorem quiet_of_below {P : Program} {f : FuncId} {args : Array Value} {W : World} {q : BelowW W} {v : Value} (h : Calls P f args q.w fun e w' => e = .returned v ∧ Below q.w.heap.size q.w w') :
    Calls P f args q.w fun e w'' => e = .returned v ∧ ∃ q' : BelowW W, w'' = q'.w :=
  h.mono fun _ w' ⟨he, hb⟩ => ⟨he, ⟨w', below_on q.below hb⟩, rfl⟩

/-- A boxed value's three cells, in every world of the class. -/
theorem Boxed.all {W : World} {p : Nat} {k n : Int} {s : ByteArray} (h : Boxed W p k n s) :
    (∀ q : BelowW W, q.w.cell? ⟨p, 0, none⟩ = some (.int .i64 k)) ∧ (∀ q : BelowW W, q.w.cell? ⟨p, 1, none⟩ = some (.int .i64 n)) ∧ (∀ q : BelowW W, q.w.cell? ⟨p, 2, none⟩ = some (.string s)) :=
  ⟨fun q => (h.below q.below).2.1, fun q => (h.below q.below).2.2.1, fun q => (h.below q.below).2.2.2⟩
end Go.Proofs.YtenpmialamffmaaDoor
