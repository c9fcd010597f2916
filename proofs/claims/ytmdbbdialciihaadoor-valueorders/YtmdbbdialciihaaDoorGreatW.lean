/-
  'great': more than is played? Whatever it answers, it returns, and what lay below stands.
-/
import Derived.Test.YtmdbbdialciihaaDoorValueF
namespace Go.Proofs.YtmdbbdialciihaaDoor
open Go.RowKit

/-- n values lie in the block b, one behind the other. -/
def Valued (w : World) (b n : Nat) : Prop :=
  b < w.heap.size ∧ ∀ j, j < n → ∃ k m s, w.cell? ⟨b, j * 3, none⟩ = some (.int .i64 k) ∧ w.cell? ⟨b, j * 3 + 1, none⟩ = some (.int .i64 m) ∧ w.cell? ⟨b, j * 3 + 2, none⟩ = some (.string s)

theorem great_walk (b n : Nat) (hn : n ≤ 100) (w : World) (h : Valued w b n) :
    Calls Tryd.prog 10 #[.slice (some ⟨b, 0, none⟩) n n] w fun e w' => (∃ x, e = .returned (.bool x)) ∧ Below w.heap.size w w' := by
  obtain ⟨hb, h⟩ := h
  have H : Hid _ := h
  clear h
  go_enter Tryd.func10, Tryd.ntmps10
  go_wp2
  go_loopw [7] (fun i wr => ∃ j : Nat, j ≤ n ∧ i = .int .i64 j ∧ Below w.heap.size w wr) (fun i _ => n - (intOf i).toNat)
  case atStart => exact ⟨0, Nat.zero_le _, rfl, Below.refl _ _⟩
  case round =>
    obtain ⟨j, hj, rfl, B⟩ := hrel
    by_cases hlt : j < n
    · obtain ⟨k, m, s, c0, c1, c2⟩ := H.out j hlt
      rw [← B.cell hb] at c0 c1 c2
      have B1 := below_on B (below_alloc wr (.cells #[.int .i64 k, .int .i64 m, .string s] 23))
      go_wp2
      · go_ret
        exact ⟨⟨_, rfl⟩, B1⟩
      · exact ⟨⟨j + 1, hlt, rfl, B1⟩, by simp [intOf]; omega⟩
    · have : j = n := by omega
      subst this
      go_wp2
      go_ret
      exact ⟨⟨_, rfl⟩, B⟩
end Go.Proofs.YtmdbbdialciihaaDoor
