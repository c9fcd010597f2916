/-
  The walk of ValueHolds.
-/
import Derived.Test.YtmdbbdialciihaaDoorGreatW
namespace Go.Proofs.YtmdbbdialciihaaDoor
open Go.RowKit

/-- Two values, one behind the other, in a new block. -/
theorem valued2 (w : World) (k n : Int) (s : ByteArray) (k' n' : Int) (s' : ByteArray) (t : TypeId) : Valued (w.alloc (.cells #[.int .i64 k, .int .i64 n, .string s, .int .i64 k', .int .i64 n', .string s'] t)) w.heap.size 2 := by
  refine ⟨by simp, fun j hj => ?_⟩
  have h : j = 0 ∨ j = 1 := by omega
  rcases h with rfl | rfl
  · exact ⟨k, n, s, by simp [go_sem], by simp [go_sem], by simp [go_sem]⟩
  · exact ⟨k', n', s', by simp [go_sem], by simp [go_sem], by simp [go_sem]⟩

set_option maxHeartbeats 1000000 in
theorem valueHolds_walk (op : ByteArray) (k n : Int) (s : ByteArray) (k' n' : Int) (s' : ByteArray) (m : Int) (w : World) (hl : 1 < w.heap.size) (hm : w.cell? ⟨1, 0, none⟩ = some (.int .i64 m)) :
    Calls Tryd.prog 4 #[.string op, valV k n s, valV k' n' s'] w fun e w' => e = .returned (.bool true) ∧ Below w.heap.size w w' := by
  go_enter Tryd.func4, Tryd.ntmps4
  have B0 := below_box2 w k n s k' n' s'
  unfold valV
  go_wp2_with fail
  refine (awake_walk m _ (Nat.lt_of_lt_of_le hl B0.size) (by rw [← hm]; exact B0.cell hl)).mono ?_
  rintro e w1 ⟨rfl, B1⟩
  have A := (boxed_fst w k n s k' n' s').below B1
  have D := (boxed_snd w k n s k' n' s').below B1
  have B := below_on B0 B1
  clear B0 B1 hl hm
  obtain ⟨_, a0, a1, a2⟩ := id A
  obtain ⟨_, b0, b1, b2⟩ := id D
  go_wp2_with fail
  refine (great_walk _ 2 (by decide) _ (valued2 w1 k n s k' n' s' 23)).mono ?_
  rintro e w2 ⟨⟨x, rfl⟩, B2⟩
  replace B2 := below_on (below_alloc _ _) B2
  replace A := A.below B2
  replace D := D.below B2
  replace B := below_on B B2
  clear a0 a1 a2 b0 b1 b2 B2
  obtain ⟨_, a0, a1, a2⟩ := id A
  obtain ⟨_, b0, b1, b2⟩ := id D
  cases x
  · go_wp2_with fail
    refine (holds_walk op k n s k' n' s' _).mono ?_
    rintro e w3 ⟨rfl, B2⟩
    replace A := A.below B2
    replace D := D.below B2
    replace B := below_on B B2
    clear a0 a1 a2 b0 b1 b2 B2
    obtain ⟨_, a0, a1, a2⟩ := id A
    obtain ⟨_, b0, b1, b2⟩ := id D
    go_wp2_with fail
    refine (rholds_walk op k n s k' n' s' _).mono ?_
    rintro e w4 ⟨rfl, B2⟩
    replace B := below_on B B2
    go_wp2
    go_ret
    exact ⟨by simp, B⟩
  · go_wp2
    go_ret
    exact ⟨rfl, B⟩
end Go.Proofs.YtmdbbdialciihaaDoor
