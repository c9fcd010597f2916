/-
  ArenaNone: its walk.
-/
import Derived.Test.YtcoehlnmaehhjaaArF
namespace Go.Proofs.Ytcoehlnmaehhjaa
open Go.RowKit

set_option maxRecDepth 100000 in
set_option maxHeartbeats 1000000 in
theorem none_walk (n : Int) (w : World) : Calls Try.prog 6 #[.int .i64 n] w fun e w' => e = .returned (.bool true) ∧ Below w.heap.size w w' := by
  go_enter Try.func6, Try.ntmps6
  go_wp2_with fail
  refine (awake_walk _).mono ?_
  rintro e w1 ⟨rfl, B⟩
  have HB : Hid (Below w.heap.size w w1) := B
  clear B
  obtain ⟨Z, hZ⟩ : ∃ Z, Hid (Z = madeCells #[.int .u8 0] 1024) := ⟨_, rfl⟩
  have hmk : ∀ w : World, (Instr.makeSlice 40 (.int .i64 1024) (.int .i64 1024)).run Try.prog w = .ok (.slice (some ⟨w.heap.size, 0, none⟩) 1024 1024) (w.alloc (.cells Z 5)) := fun w => by
    rw [hZ.out]
    exact run_make_row' 40 5 (.int .u8 0) 1 Try.underlying40 (by kernel_rfl) rfl .i64 .i64 1024 (by decide) (by decide) w
  go_wp2_with (first
    | (go_at_call 12; refine (alloc_nil _).mono ?_; rintro e w2 ⟨rfl, rfl⟩)
    | (go_at_call 18; refine (load_nil _ _).mono ?_; rintro e w2 ⟨rfl, rfl⟩)
    | (go_at_call 14; refine (free_nil _ _).mono ?_; rintro e w2 ⟨rfl, rfl⟩)
    | (go_at_call 16; refine (store_nil _ _ _).mono ?_; rintro e w2 ⟨rfl, rfl⟩)
    | (go_at_call 19; refine (limit_nil _ _).mono ?_; rintro e w2 ⟨rfl, rfl⟩)
    | (go_at_call 20; refine (used_nil _).mono ?_; rintro e w2 ⟨rfl, rfl⟩)
    | (go_at_call 21; refine (left_nil _).mono ?_; rintro e w2 ⟨rfl, rfl⟩)
    | (go_at_call 23; refine (pages_nil _).mono ?_; rintro e w2 ⟨rfl, rfl⟩))
  go_ret
  exact ⟨rfl, below_on HB.out (below_alloc _ _)⟩
end Go.Proofs.Ytcoehlnmaehhjaa
