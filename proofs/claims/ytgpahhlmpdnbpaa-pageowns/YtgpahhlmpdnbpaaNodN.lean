/-
  A node that came in, opened; a list that isn't there has no room.
-/
import Derived.Test.YtgpahhlmpdnbpaaNodR
namespace Go.Proofs.Ytgpahhlmpdnbpaa
open Go.ChangeShapes Go.WideShapes Go.ChangeAt Go.RowKit Go.Deep

theorem slice_nil {H : Type} {enc : TypeId × Value → H} {W : World} {fuel : Nat} {t e : TypeId} (ht : Try.prog.underlying t = some (.slice e)) {a : Option Addr} {n c : Nat} {x : DataW H × List MemPlace} (h : DataW.trod enc Try.prog W 0 (fun _ => true) true fuel t [.slice a n c] = some x) (ha : a = none) : c = 0 := by
  subst ha
  rcases open_slice ht h with ⟨hcs, _⟩ | ⟨a', len, cap, m, k, D, Pl, hcs, _⟩
  · cases hcs; rfl
  · cases hcs

set_option maxRecDepth 100000 in
theorem open_node_nil {H : Type} {enc : TypeId × Value → H} {W : World} {base : Nat} {v : Value} {d : DataW H} {p : List MemPlace} (hv : Value.okWide Try.prog W .any base 25 v) (h : DataW.Trod enc Try.prog W 0 (fun _ => true) true 25 v d p) :
    ∃ (n : No) (a : Option Addr) (c : Nat) (a' : Option Addr) (c' : Nat), v = nodeV n a c a' c' ∧ NR W n a c a' c' ∧ (a = none → c = 0) ∧ (a' = none → c' = 0) := by
  obtain ⟨v0, v1, v2, y0, y1, y2, m, rfl, _, _, h0, h1, h2⟩ := Go.Joins.open_agg3 Try.underlying25 (by kernel_rfl) (by kernel_rfl) hv h
  obtain ⟨lf, e0, _⟩ := DataW.trod_bool Try.underlying4 h0
  obtain ⟨a, c, l, e1, r1⟩ := open_strs_rd h1
  obtain ⟨a', c', l', e2, r2⟩ := open_ints_rd h2
  cases e0
  subst e1 e2
  exact ⟨⟨lf, l, l'⟩, a, c, a', c', rfl, ⟨r1, r2⟩, slice_nil Try.underlying22 h1, slice_nil Try.underlying23 h2⟩
end Go.Proofs.Ytgpahhlmpdnbpaa
