/-
  The walk of Same, over two rows of marks.
-/
import Derived.Test.YtlkodnhkhhgimaaRunsC
namespace Go.Proofs.Ytlkodnhkhhgimaa
open Go.RowKit

/-- A slice that holds marks. -/
def MarksAt (w : World) (v : Value) (ms : List Mk) : Prop :=
  (v = .slice none 0 0 ∧ ms = []) ∨ ∃ g cap, v = .slice (some ⟨g, 0, none⟩) ms.length cap ∧ ∀ j u, (mksCells ms)[j]? = some u → w.cell? ((⟨g, 0, none⟩ : Addr).add j) = some u

theorem marksAt_of_own {w : World} {B : Nat} {v : Value} {ms : List Mk} (h : w.ownsRow B 54 3 v ms.length (mksCells ms)) : MarksAt w v ms := by
  rcases h.2 with ⟨rfl, e⟩ | ⟨g, cap, cur, rfl, -, -, -⟩
  · exact Or.inl ⟨rfl, List.eq_nil_of_length_eq_zero e⟩
  · exact Or.inr ⟨g, cap, rfl, h.cells rfl⟩

theorem mksCells_at (d r : List Mk) (m : Mk) (j : Nat) (hj : j < 3) : (mksCells (d ++ m :: r))[d.length * 3 + j]? = (mkCells m)[j]? := by
  rw [mksCells_append, List.getElem?_append_right (by rw [mksCells_length]; omega), mksCells_length]
  simp only [mksCells, List.flatMap_cons]
  rw [show d.length * 3 + j - d.length * 3 = j by omega, List.getElem?_append_left (by simp [mkCells]; omega)]

theorem marksAt_cells {w : World} {v : Value} {d r : List Mk} {m : Mk} (h : MarksAt w v (d ++ m :: r)) : ∃ g cap, v = .slice (some ⟨g, 0, none⟩) (d ++ m :: r).length cap ∧ w.cell? ⟨g, d.length * 3, none⟩ = some (.int .i64 m.1) ∧ w.cell? ⟨g, d.length * 3 + 1, none⟩ = some (.int .i64 m.2.1) ∧ w.cell? ⟨g, d.length * 3 + 2, none⟩ = some (.int .i64 m.2.2) := by
  rcases h with ⟨-, h⟩ | ⟨g, cap, rfl, hc⟩
  · simp at h
  · have hadd : ∀ j, (⟨g, 0, none⟩ : Addr).add j = ⟨g, j, none⟩ := fun j => by unfold Addr.add; split <;> simp_all
    refine ⟨g, cap, rfl, ?_, ?_, ?_⟩
    · have := hc (d.length * 3 + 0) (.int .i64 m.1) (by rw [mksCells_at d r m 0 (by decide)]; rfl)
      rwa [hadd] at this
    · have := hc (d.length * 3 + 1) (.int .i64 m.2.1) (by rw [mksCells_at d r m 1 (by decide)]; rfl)
      rwa [hadd] at this
    · have := hc (d.length * 3 + 2) (.int .i64 m.2.2) (by rw [mksCells_at d r m 2 (by decide)]; rfl)
      rwa [hadd] at this

theorem marksAt_len {w : World} {v : Value} {ms : List Mk} (h : MarksAt w v ms) : ∃ x cap, v = .slice x ms.length cap := by
  rcases h with ⟨rfl, rfl⟩ | ⟨g, cap, rfl, -⟩
  · exact ⟨none, 0, rfl⟩
  · exact ⟨_, cap, rfl⟩

set_option maxRecDepth 100000 in
set_option maxHeartbeats 1000000 in
theorem same_any (w : World) (v v' : Value) (ms : List Mk) (hlen : ms.length ≤ 5000000) (h1 : MarksAt w v ms) (h2 : MarksAt w v' ms) :
    Calls Try.prog 13 #[v, v'] w fun e w' => e = .returned (.bool true) ∧ ∃ m, w' = w.drewN m := by
  obtain ⟨x, cap, rfl⟩ := marksAt_len h1
  obtain ⟨x', cap', rfl⟩ := marksAt_len h2
  have H1 := hide h1
  have H2 := hide h2
  clear h1 h2
  go_enter Try.func13, Try.ntmps13
  go_wp2_with fail
  go_loopw [5] (fun i wr => ∃ (d r : List Mk) (m : Nat), ms = d ++ r ∧ i = .int .i64 d.length ∧ wr = w.drewN m) (fun i _ => ms.length - (intOf i).toNat)
  case atStart => exact ⟨[], ms, 0, rfl, rfl, rfl⟩
  case round =>
    obtain ⟨d, r, m, hms, rfl, rfl⟩ := hrel
    cases r with
    | nil =>
      rw [List.append_nil] at hms
      subst hms
      go_wp2_with fail
      go_ret
      exact ⟨rfl, m, rfl⟩
    | cons k r =>
      have hlt : d.length < ms.length := by rw [hms]; simp
      obtain ⟨g, c, e1, a0, a1, a2⟩ := marksAt_cells (hms ▸ unhide H1)
      obtain ⟨g', c', e2, b0, b1, b2⟩ := marksAt_cells (hms ▸ unhide H2)
      simp only [Value.slice.injEq] at e1 e2
      obtain ⟨rfl, -, rfl⟩ := e1
      obtain ⟨rfl, -, rfl⟩ := e2
      have HMS := hide hms
      clear hms
      have s1 : (0 : Int) ≤ d.length := by omega
      have s2 : (d.length : Int) < ms.length := by omega
      generalize hW : w.drewN m = W at *
      have HW := hide hW
      have A0 : W.cell? ⟨g, d.length * 3, none⟩ = some (.int .i64 k.1) := by rw [← hW]; exact a0
      have A1 : W.cell? ⟨g, d.length * 3 + 1, none⟩ = some (.int .i64 k.2.1) := by rw [← hW]; exact a1
      have A2 : W.cell? ⟨g, d.length * 3 + 2, none⟩ = some (.int .i64 k.2.2) := by rw [← hW]; exact a2
      have B0 : W.cell? ⟨g', d.length * 3, none⟩ = some (.int .i64 k.1) := by rw [← hW]; exact b0
      have B1 : W.cell? ⟨g', d.length * 3 + 1, none⟩ = some (.int .i64 k.2.1) := by rw [← hW]; exact b1
      have B2 : W.cell? ⟨g', d.length * 3 + 2, none⟩ = some (.int .i64 k.2.2) := by rw [← hW]; exact b2
      clear a0 a1 a2 b0 b1 b2 hW
      go_wp2_with fail
      go_quiet (fail)
      go_wp2_with fail
      go_roundw
      case rel => exact ⟨d ++ [k], r, m + nq, by rw [unhide HMS]; simp, by simp, by rw [← unhide HW, World.drewN_drewN]⟩
      case measure => simp [intOf]; omega

end Go.Proofs.Ytlkodnhkhhgimaa
