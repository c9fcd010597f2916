/-
  The walk of ValueReckons.
-/
import Derived.Test.YtmdbbdialciihaaDoorHoldsW
import Derived.Test.YtmdbbdialciihaaDoorBackW
import Derived.Test.YtmdbbdialciihaaDoorValueH
namespace Go.Proofs.YtmdbbdialciihaaDoor
open Go.RowKit

/-- What Reckon makes is a right value. -/
theorem reck_shape (op : ByteArray) (k n : Int) (s : ByteArray) (k' n' : Int) (s' : ByteArray) : ∃ x y z, reckV op k n s k' n' s' = valV x y z ∧ rightB x y z = true := by
  have hz : ∃ x y z, valV 0 0 ⟨#[]⟩ = valV x y z ∧ rightB x y z = true := ⟨0, 0, ⟨#[]⟩, rfl, rfl⟩
  unfold reckV
  split
  · exact hz
  split
  · exact hz
  split
  · unfold catV
    split
    · rename_i h
      exact ⟨3, 0, s ++ s', rfl, by simp [rightB, h]⟩
    · exact hz
  split
  · exact hz
  split
  · exact ⟨2, _, ⟨#[]⟩, rfl, rfl⟩
  · exact hz

set_option maxHeartbeats 1000000 in
theorem valueReckons_walk (op : ByteArray) (k n : Int) (s : ByteArray) (k' n' : Int) (s' : ByteArray) (hn : fits n = true) (hn' : fits n' = true) (m : Int) (w : World) (hl : 1 < w.heap.size) (hm : w.cell? ⟨1, 0, none⟩ = some (.int .i64 m)) :
    Calls Tryd.prog 5 #[.string op, valV k n s, valV k' n' s'] w fun e w' => e = .returned (.bool true) ∧ Below w.heap.size w w' := by
  obtain ⟨x, y, z, hV, hR⟩ := reck_shape op k n s k' n' s'
  go_enter Tryd.func5, Tryd.ntmps5
  have B0 := below_box2 w k n s k' n' s'
  unfold valV
  go_wp2_with fail
  refine (awake_walk m _ (Nat.lt_of_lt_of_le hl B0.size) (by rw [← hm]; exact B0.cell hl)).mono ?_
  rintro e w1 ⟨rfl, B1⟩
  have A := (boxed_fst w k n s k' n' s').below B1
  have D := (boxed_snd w k n s k' n' s').below B1
  have B := below_on B0 B1
  clear B0 B1 hl hm
  obtain ⟨_, a0, a1, a2⟩ := id A
  obtain ⟨_, b0, b1, b2⟩ := id D
  go_wp2_with fail
  refine (great_walk _ 2 (by decide) _ (valued2 w1 k n s k' n' s' 23)).mono ?_
  rintro e w2 ⟨⟨g, rfl⟩, B2⟩
  replace B2 := below_on (below_alloc _ _) B2
  replace A := A.below B2
  replace D := D.below B2
  replace B := below_on B B2
  clear a0 a1 a2 b0 b1 b2 B2
  obtain ⟨_, a0, a1, a2⟩ := id A
  obtain ⟨_, b0, b1, b2⟩ := id D
  cases g
  · go_wp2_with fail
    refine (reckon_walk op k n s k' n' s' hn hn' _).mono ?_
    rintro e w3 ⟨rfl, B2⟩
    replace A := A.below B2
    replace D := D.below B2
    replace B := below_on B B2
    clear a0 a1 a2 b0 b1 b2 B2
    rw [hV]
    unfold valV
    have N := boxed_new w3 x y z 23
    have B2 := below_alloc w3 (.cells #[.int .i64 x, .int .i64 y, .string z] 23)
    replace A := A.below B2
    replace D := D.below B2
    replace B := below_on B B2
    obtain ⟨_, a0, a1, a2⟩ := id A
    obtain ⟨_, b0, b1, b2⟩ := id D
    go_wp2_with fail
    refine (rreckon_walk op k n s k' n' s' hn hn' _).mono ?_
    rintro e w4 ⟨rfl, B3⟩
    replace N := N.below B3
    replace B := below_on B B3
    clear a0 a1 a2 b0 b1 b2 B2 B3 A D
    rw [hV]
    unfold valV
    have B2 := below_alloc w4 (.cells #[.int .i64 x, .int .i64 y, .string z] 23)
    replace N := N.below B2
    replace B := below_on B B2
    obtain ⟨_, n0, n1, n2⟩ := id N
    go_wp2_with fail
    refine (right_walk x y z _).mono ?_
    rintro e w5 ⟨rfl, B3⟩
    replace B := below_on B B3
    go_wp2
    go_ret
    exact ⟨by simp, B⟩
  · go_wp2
    go_ret
    exact ⟨rfl, B⟩
end Go.Proofs.YtmdbbdialciihaaDoor
