/-
  Rows of anything: slices of structs in memory, whatever the struct: their cells one behind the other (flat), read (SlG), owned (World.ownsRow), appended to, stored into, cut.
-/
import Derived.WalkKit
import Derived.Below
import Derived.BigQuiet
import Derived.Laws.OwnMore
import Derived.Laws.AppendOwnNone
import Derived.Maps.AppendAt
import Derived.Laws.IdiomCopy
import Derived.Deep.RegionLaw
import Derived.Test.YtfdfamjajhmihaaGreatProg
namespace Go.Proofs.YtfdfamjajhmihaaGreat.Rw
open Go.RowKit

theorem to_letter {p F : World → Prop} {W0 : World} (h : F W0) (k : ∀ W, F W → p W) : p W0 := k W0 h
theorem below_alloc (w : World) (o : Obj) : Below w.heap.size w (w.alloc o) := (Below.refl _ _).alloc (Nat.le_refl _) o
theorem below_on {B : Nat} {a w w1 : World} (h : Below B a w) (h1 : Below w.heap.size w w1) (hB : B ≤ w.heap.size := by omega) : Below B a w1 := h.trans (h1.mono hB)
theorem add_none (b o j : Nat) : (⟨b, o, none⟩ : Addr).add j = ⟨b, o + j, none⟩ := by unfold Addr.add; split <;> simp_all
theorem ret_bool {a b : Bool} (h : a = b) : Ending.returned (.bool a) = .returned (.bool b) := by rw [h]
theorem ret_int {a b : Int} (h : a = b) : Ending.returned (.int .i64 a) = .returned (.int .i64 b) := by rw [h]

section
variable {α : Type} {f : α → List Value} {k : Nat}

/-- The elements of a slice whose first lies at a. -/
def SlG (f : α → List Value) (k : Nat) (W : World) (a : Option Addr) (l : List α) : Prop := l = [] ∨ ∃ b o, a = some ⟨b, o, none⟩ ∧ b < W.heap.size ∧ ∀ j x, l[j]? = some x → ∀ i u, (f x)[i]? = some u → W.cell? ⟨b, o + j * k + i, none⟩ = some u

theorem SlG.turn {W W' : World} {a : Option Addr} {l : List α} (h : SlG f k W a l) (hs : W.heap.size ≤ W'.heap.size) (hb : ∀ b o, a = some ⟨b, o, none⟩ → b < W.heap.size → W'.heap[b]? = W.heap[b]?) : SlG f k W' a l := by
  rcases h with h | ⟨b, o, e, hlt, hc⟩
  · exact Or.inl h
  · refine Or.inr ⟨b, o, e, Nat.lt_of_lt_of_le hlt hs, fun j x hj i u hu => ?_⟩
    rw [World.cell?_of_block (w := W) (w' := W') (a := ⟨b, o + j * k + i, none⟩) (hb _ _ e hlt)]
    exact hc j x hj i u hu

theorem SlG.below {W W' : World} {a : Option Addr} {l : List α} (h : SlG f k W a l) (hb : Below W.heap.size W W') : SlG f k W' a l := h.turn hb.size fun b _ _ hlt => hb.block b hlt

theorem SlG.at {W : World} {a : Option Addr} {l : List α} (h : SlG f k W a l) {j : Nat} (hj : j < l.length) : ∃ b o x, a = some ⟨b, o, none⟩ ∧ b < W.heap.size ∧ l[j]? = some x ∧ ∀ i u, (f x)[i]? = some u → W.cell? ⟨b, o + j * k + i, none⟩ = some u := by
  rcases h with rfl | ⟨b, o, e, hlt, hc⟩
  · simp at hj
  · exact ⟨b, o, l[j], e, hlt, List.getElem?_eq_getElem hj, hc j _ (List.getElem?_eq_getElem hj)⟩

theorem SlG.take {W : World} {a : Option Addr} {l : List α} (h : SlG f k W a l) (n : Nat) : SlG f k W a (l.take n) := by
  rcases h with rfl | ⟨b, o, e, hlt, hc⟩
  · exact Or.inl (by simp)
  · refine Or.inr ⟨b, o, e, hlt, fun j c hj => hc j c ?_⟩
    rw [List.getElem?_take] at hj
    split at hj
    · exact hj
    · cases hj

theorem SlG.drop {W : World} {b o : Nat} {l : List α} (h : SlG f k W (some ⟨b, o, none⟩) l) (n : Nat) : SlG f k W (some ⟨b, o + n * k, none⟩) (l.drop n) := by
  rcases h with rfl | ⟨b', o', e, hlt, hc⟩
  · exact Or.inl (by simp)
  · cases e
    refine Or.inr ⟨b, _, rfl, hlt, fun j c hj i u hu => ?_⟩
    rw [List.getElem?_drop] at hj
    have := hc _ _ hj i u hu
    rw [show o + n * k + j * k = o + (n + j) * k by rw [Nat.add_mul]; omega]
    exact this

theorem owns_below {W W' : World} {base : Nat} {e : TypeId} {size : Nat} {v : Value} {n : Nat} {xs : List Value} (h : W.ownsRow base e size v n xs) (hb : ∀ q, v.ownBlock = some q → W'.heap[q]? = W.heap[q]?) : W'.ownsRow base e size v n xs := by
  refine ⟨h.1, ?_⟩
  rcases h.2 with hn | ⟨g, cap, cur, rfl, hbg, hgg, rest⟩
  · exact .inl hn
  · exact .inr ⟨g, cap, cur, rfl, hbg, by rw [hb g rfl]; exact hgg, rest⟩

theorem owns_slice {W : World} {base : Nat} {e : TypeId} {size : Nat} {v : Value} {n : Nat} {xs : List Value} (h : W.ownsRow base e size v n xs) : ∃ a c, v = .slice a n c := by
  rcases h.2 with ⟨rfl, h0⟩ | ⟨g, cap, cur, rfl, _⟩
  · exact ⟨none, 0, by rw [h0]⟩
  · exact ⟨_, _, rfl⟩

theorem own_new {W : World} {base e q size : Nat} (hq : W.heap[q]? = some (.cells #[] e (0, 0))) (hw : base ≤ q) : W.ownsRow base e size (.slice (some ⟨q, 0, none⟩) 0 0) 0 [] :=
  ⟨by simp, Or.inr ⟨q, 0, #[], rfl, hw, hq, Nat.le_refl _, by unfold maxLen; omega, by simp, by simp⟩⟩

end

end Go.Proofs.YtfdfamjajhmihaaGreat.Rw
