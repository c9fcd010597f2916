/-
  'great' of layer 3: more than is played? Whatever it answers, it returns, and what lay below stands.
-/
import Derived.Test.YtedlohapoafkjaaDoorCodeC
import Derived.Test.YtedlohapoafkjaaDoorOrdK
namespace Go.Proofs.YtedlohapoafkjaaDoor
open Go.RowKit

/-- n values lie in the block b from o on, one behind the other. -/
def Valued (w : World) (b o n : Nat) (l : List Val) : Prop :=
  b < w.heap.size ∧ l.length = n ∧ ∀ j (v : Val), l[j]? = some v → w.cell? ⟨b, o + j * 3, none⟩ = some (.int .i64 v.k) ∧ w.cell? ⟨b, o + j * 3 + 1, none⟩ = some (.int .i64 v.n) ∧ w.cell? ⟨b, o + j * 3 + 2, none⟩ = some (.string v.s)

theorem Valued.below {w w' : World} {b o n : Nat} {l : List Val} (h : Valued w b o n l) (hb : Below w.heap.size w w') : Valued w' b o n l := by
  obtain ⟨h1, h2, h3⟩ := h
  refine ⟨Nat.lt_of_lt_of_le h1 hb.size, h2, fun j v hv => ?_⟩
  obtain ⟨a, b, c⟩ := h3 j v hv
  exact ⟨by rw [hb.cell h1]; exact a, by rw [hb.cell h1]; exact b, by rw [hb.cell h1]; exact c⟩

set_option maxRecDepth 100000 in
set_option maxHeartbeats 1000000 in
theorem great_walk (b o n cap : Nat) (l : List Val) (hn : n ≤ maxLen) (w : World) (h : Valued w b o n l) :
    Calls Tryd.prog 15 #[.slice (some ⟨b, o, none⟩) n cap] w fun e w' => (∃ x, e = .returned (.bool x)) ∧ Below w.heap.size w w' := by
  obtain ⟨hb, hl, h⟩ := h
  have H : Hid _ := h
  clear h
  unfold maxLen at hn
  go_enter Tryd.func15, Tryd.ntmps15
  by_cases h30 : 30 < n
  · go_wp2
    go_ret
    exact ⟨⟨_, rfl⟩, Below.refl _ _⟩
  have h30' : n ≤ 30 := by omega
  clear h30 hn
  go_wp2
  go_loopw [10] (fun i wr => ∃ j : Nat, j ≤ n ∧ i = .int .i64 j ∧ Below w.heap.size w wr) (fun i _ => n - (intOf i).toNat)
  case atStart => exact ⟨0, Nat.zero_le _, rfl, Below.refl _ _⟩
  case round =>
    obtain ⟨j, hj, rfl, B⟩ := hrel
    by_cases hlt : j < n
    · obtain ⟨v, hv⟩ : ∃ v, l[j]? = some v := ⟨l[j]'(by omega), List.getElem?_eq_getElem _⟩
      obtain ⟨c0, c1, c2⟩ := H.out j v hv
      rw [← B.cell hb] at c0 c1 c2
      have B1 := below_on B (below_alloc wr (.cells #[.int .i64 v.k, .int .i64 v.n, .string v.s] 23))
      clear hv hl
      go_wp2
      · go_ret
        exact ⟨⟨_, rfl⟩, B1⟩
      · exact ⟨⟨j + 1, hlt, rfl, B1⟩, by simp [intOf]; omega⟩
    · have : j = n := by omega
      subst this
      go_wp2
      go_ret
      exact ⟨⟨_, rfl⟩, B⟩

theorem great_nil (w : World) : Calls Tryd.prog 15 #[.slice none 0 0] w fun e w' => e = .returned (.bool false) ∧ Below w.heap.size w w' := by
  go_enter Tryd.func15, Tryd.ntmps15
  go_wp2
  go_loop [10] (fun i => i = .int .i64 0) (fun _ => 0)
  case atStart => rfl
  case round =>
    subst hrel
    go_wp2
    go_ret
    exact ⟨rfl, Below.refl _ _⟩
end Go.Proofs.YtedlohapoafkjaaDoor
