/-
  TreeNone: its walk.
-/
import Derived.Test.YtjdbjnkmlajdoaaGreatTrAw
namespace Go.Proofs.YtjdbjnkmlajdoaaGreat
open Go.RowKit

set_option maxRecDepth 100000 in
set_option maxHeartbeats 1000000 in
theorem tnone_walk (s : ByteArray) (w : World) : Calls Tryz.prog 8 #[.string s] w fun e w' => e = .returned (.bool true) ∧ Below w.heap.size w w' := by
  go_enter Tryz.func8, Tryz.ntmps8
  go_wp2_with fail
  refine (awake_walk _).mono ?_
  rintro e w1 ⟨rfl, b1⟩
  have HB := thid b1
  clear b1
  go_wp2_with fail
  refine (new_nil _).mono ?_
  rintro e w2 ⟨rfl, b2⟩
  have HB := thid (tbelow_on HB.out b2)
  clear b2
  go_wp2_with fail
  refine (insert_nil _ _).mono ?_
  rintro e w3 ⟨rfl, b2⟩
  have HB := thid (tbelow_on HB.out b2)
  clear b2
  go_wp2_with fail
  refine (delete_nil _ _).mono ?_
  rintro e w4 ⟨rfl, b2⟩
  have HB := thid (tbelow_on HB.out b2)
  clear b2
  go_wp2_with fail
  refine (has_nil _ _).mono ?_
  rintro e w5 ⟨rfl, b2⟩
  have HB := thid (tbelow_on HB.out b2)
  clear b2
  go_wp2_with fail
  refine (len_nil _).mono ?_
  rintro e w6 ⟨rfl, b2⟩
  have HB := thid (tbelow_on HB.out b2)
  clear b2
  go_wp2_with fail
  refine (height_nil _).mono ?_
  rintro e w7 ⟨rfl, b2⟩
  have HB := thid (tbelow_on HB.out b2)
  clear b2
  go_wp2_with fail
  refine (root_nil _).mono ?_
  rintro e w8 ⟨rfl, b2⟩
  have HB := thid (tbelow_on HB.out b2)
  clear b2
  go_wp2_with fail
  refine (pages_nil _).mono ?_
  rintro e w9 ⟨rfl, b2⟩
  have HB := thid (tbelow_on HB.out b2)
  clear b2
  go_wp2_with fail
  refine (all_nil _).mono ?_
  rintro e w10 ⟨rfl, b2⟩
  have HB := thid (tbelow_on HB.out b2)
  clear b2
  go_wp2_with fail
  refine (drop_nil _).mono ?_
  rintro e w11 ⟨rfl, b2⟩
  have HB := thid (tbelow_on HB.out b2)
  clear b2
  go_wp2
  go_ret
  exact ⟨rfl, HB.out⟩
end Go.Proofs.YtjdbjnkmlajdoaaGreat
