/-
  The walk of ValueTruths.
-/
import Derived.Test.YtenpmialamffmaaDoorValueA
import Derived.Test.YtenpmialamffmaaDoorValueF
namespace Go.Proofs.YtenpmialamffmaaDoor
open Go.RowKit

/-- What Of and Truth make of a number, together. -/
theorem of_shape (a : Int) : ∃ k n, ofV a = valV k n ⟨#[]⟩ ∧ rightB k n ⟨#[]⟩ = true ∧ truthE k n = 0 ∧ truthT k n = tNot (tNot a) := by
  rcases three a with ⟨h0, h1⟩ | ⟨h0, h1⟩ | ⟨h0, h1⟩
  · exact ⟨1, 0, by simp [ofV, h0], rfl, rfl, by simp [tNot, h0]; rfl⟩
  · exact ⟨1, 1, by simp [ofV, h0, h1], rfl, rfl, by simp [tNot, h0, h1]; rfl⟩
  · exact ⟨0, 0, by simp [ofV, h0, h1], rfl, rfl, by simp [tNot, h0, h1]; rfl⟩

set_option maxHeartbeats 1000000 in
theorem truths_walk (a b c : Int) (m : Int) (w : World) (hl : 1 < w.heap.size) (hm : w.cell? ⟨1, 0, none⟩ = some (.int .i64 m)) :
    Calls Tryd.prog 3 #[.int .i64 a, .int .i64 b, .int .i64 c] w fun e w' => e = .returned (.bool true) ∧ Below w.heap.size w w' := by
  have e1 := not_and a b
  have e2 := and_or a b c
  obtain ⟨k, n, ho, hr, he, ht⟩ := of_shape a
  go_enter Tryd.func3, Tryd.ntmps3
  go_wp2_with (first
    | (go_at_call 5; refine (awake_walk m _ hl hm).mono ?_; rintro e w1 ⟨rfl, hb⟩)
    | (go_at_call 6; refine (and_walk _ _ _).mono ?_; rintro e w' ⟨rfl, rfl⟩)
    | (go_at_call 8; refine (or_walk _ _ _).mono ?_; rintro e w' ⟨rfl, rfl⟩)
    | (go_at_call 10; refine (not_walk _ _).mono ?_; rintro e w' ⟨rfl, rfl⟩)
    | (go_at_call 7; refine (rand_walk _ _ _).mono ?_; rintro e w' ⟨rfl, rfl⟩)
    | (go_at_call 9; refine (ror_walk _ _ _).mono ?_; rintro e w' ⟨rfl, rfl⟩)
    | (go_at_call 11; refine (rnot_walk _ _).mono ?_; rintro e w' ⟨rfl, rfl⟩)
    | (go_at_call 13; refine (of_walk _ _).mono ?_; rintro e w2 ⟨rfl, hb2⟩; replace hb := below_on hb hb2; rw [ho]; unfold valV))
  refine (truth_walk k n ⟨#[]⟩ _).mono ?_
  rintro e w3 ⟨rfl, hb3⟩
  replace hb := below_on hb hb3
  go_wp2_with (first
    | (go_at_call 11; refine (rnot_walk _ _).mono ?_; rintro e w' ⟨rfl, rfl⟩)
    | (go_at_call 13; refine (of_walk _ _).mono ?_; rintro e w2 ⟨rfl, hb2⟩; replace hb := below_on hb hb2; rw [ho]; unfold valV)
    | (go_at_call 14; refine (right_walk k n ⟨#[]⟩ _).mono ?_; rintro e w4 ⟨rfl, hb4⟩; replace hb := below_on hb hb4))
  all_goals go_ret
  exact ⟨by simp, hb⟩
end Go.Proofs.YtenpmialamffmaaDoor
