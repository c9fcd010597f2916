/-
  Ast: the second of two Kids in memory.
-/
import Derived.Test.YtcgpcigablefhaaGreatDoorAsA
namespace Go.Proofs.YtcgpcigablefhaaGreatDoor
open Go.RowKit

/-- The cells of the second Kid. -/
theorem kid1 {w0 : World} {kb ko : Nat} {k k' : XL} {r : List XL} (h : Rw.SlG xC 7 w0 (some ⟨kb, ko, none⟩) (k :: k' :: r)) : w0.cell? ⟨kb, ko + 7, none⟩ = some (.string k'.op) ∧ w0.cell? ⟨kb, ko + 7 + 1, none⟩ = some (.int .i64 k'.vk) ∧ w0.cell? ⟨kb, ko + 7 + 2, none⟩ = some (.int .i64 k'.vn) ∧ w0.cell? ⟨kb, ko + 7 + 3, none⟩ = some (.string k'.vs) ∧ w0.cell? ⟨kb, ko + 7 + 4, none⟩ = some (.string k'.var) ∧ w0.cell? ⟨kb, ko + 7 + 5, none⟩ = some (.string k'.col) ∧ w0.cell? ⟨kb, ko + 7 + 6, none⟩ = some (.slice k'.a k'.kids.length k'.c) := by
  rcases h with h | ⟨kb', ko', e, hlt, hc⟩
  · cases h
  · cases e
    have := hc 1 k' rfl
    simp only [Nat.one_mul] at this
    exact ⟨this 0 _ rfl, this 1 _ rfl, this 2 _ rfl, this 3 _ rfl, this 4 _ rfl, this 5 _ rfl, this 6 _ rfl⟩

end Go.Proofs.YtcgpcigablefhaaGreatDoor
