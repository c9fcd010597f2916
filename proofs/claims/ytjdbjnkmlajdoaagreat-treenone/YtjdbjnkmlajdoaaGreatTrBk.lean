/-
  Tree: New without an arena.
-/
import Derived.RangeFuncFrom
import Derived.RangeFuncBound
import Derived.RangeFuncCalls
import Derived.RangeFuncLeaves
import Derived.WalkKit
import Derived.OwnWalkIn
import Derived.TacticsInMore
import Derived.Test.YtjdbjnkmlajdoaaGreatTrAll
namespace Go.Proofs.YtjdbjnkmlajdoaaGreat
open Go.RowKit
open L4 (Ar ArP Abs arV nv)
open L1 (stopped faultV Came undoW)

/-- An edit of a tree without an arena, nothing done. -/
structure EdN (w : World) (x t : Nat) : Prop where
  ed : EdC w x t 0 0 0 (.slice none 0 0) (.slice none 0 0) (.slice none 0 0)
  tr : w.heap[t]? = some (.cells #[.pointer none, .int .i64 0, .int .i64 0, .int .i64 0] 83 (0, 0))

theorem EdN.on {w w' : World} {x t : Nat} (k : EdN w x t) (hb : Below w.heap.size w w') : EdN w' x t := ⟨k.ed.on hb, (hb.block _ (Array.getElem?_eq_some_iff.1 k.tr).1).trans k.tr⟩

set_option maxRecDepth 100000 in
set_option maxHeartbeats 1000000 in
theorem take_nil {w : World} {x t : Nat} (k : EdN w x t) : Calls Tryz.prog 45 #[.pointer (some ⟨x, 0, none⟩)] w fun e w' => e = .panicked (stopped 15 0) ∧ Below w.heap.size w w' := by
  obtain ⟨d0, d1, d2, d3, d4, d5, d6, dl, df⟩ := k.ed.cells
  have t0 : w.cell? ⟨t, 0, none⟩ = some (.pointer none) := by rw [cell_of_row _ _ _ _ _ _ k.tr]; rfl
  have tl := (Array.getElem?_eq_some_iff.1 k.tr).1
  clear k
  go_enter Tryz.func45, Tryz.ntmps45
  go_wp2_with fail
  refine (L4.alloc_nil _).mono ?_
  rintro e w1 ⟨rfl, rfl⟩
  go_wp2_with fail
  refine (L1.check_no 15 (by decide) _).mono ?_
  rintro e w2 ⟨rfl, rfl⟩
  exact ⟨rfl, rfl, Below.refl _ _⟩

set_option maxRecDepth 100000 in
set_option maxHeartbeats 1000000 in
theorem new1_nil {w : World} {x t : Nat} (k : EdN w x t) : Calls Tryz.prog 44 #[.pointer (some ⟨x, 0, none⟩)] w fun e w' => e = .panicked (stopped 15 0) ∧ Below w.heap.size w w' := by
  have HT := thid (take_nil k)
  clear k
  go_enter Tryz.func44, Tryz.ntmps44
  go_wp2_with fail
  refine HT.out.mono ?_
  rintro e w2 ⟨rfl, B2⟩
  exact ⟨rfl, rfl, B2⟩

set_option maxRecDepth 100000 in
set_option maxHeartbeats 1000000 in
theorem change1_nil {w : World} {x t b0 b2 : Nat} (k : EdN w x t) (h0 : w.cell? ⟨b0, 0, none⟩ = some (.func (.func 44) #[] #[])) (h2 : w.cell? ⟨b2, 0, none⟩ = some (.pointer (some ⟨x, 0, none⟩))) : Calls Tryz.prog 72 #[.pointer (some ⟨b0, 0, none⟩), .pointer (some ⟨b2, 0, none⟩)] w fun e w' => e = .panicked (stopped 15 0) ∧ Below w.heap.size w w' := by
  have HT := thid (new1_nil k)
  clear k
  go_enter Tryz.func72, Tryz.ntmps72
  go_wp2_with fail
  refine HT.out.mono ?_
  rintro e w2 ⟨rfl, B2⟩
  exact ⟨rfl, rfl, B2⟩

set_option maxRecDepth 100000 in
set_option maxHeartbeats 1000000 in
theorem bwd_nil {w : World} : Calls Tryz.prog 97 #[.slice none 0 0] w fun e w' => e = .returned (.func (.func 116) #[] #[.pointer (some ⟨w.heap.size, 0, none⟩)]) ∧ w'.cell? ⟨w.heap.size, 0, none⟩ = some (.slice none 0 0) ∧ w.heap.size < w'.heap.size ∧ Below w.heap.size w w' := by
  have hmf : ∀ (fn : Fn) (first cap : Array Value) (w : World), (Instr.makeFunc fn first cap).run Tryz.prog w = .ok (.func fn first cap) w := fun _ _ _ _ => rfl
  go_enter Tryz.func97, Tryz.ntmps97
  go_wp2
  go_ret
  exact ⟨rfl, by simp [go_sem], by simp, tbelow _ _⟩

set_option maxRecDepth 100000 in
set_option maxHeartbeats 1000000 in
theorem bwd1_nil {w : World} {b : Nat} {f : Value} (hc : w.cell? ⟨b, 0, none⟩ = some (.slice none 0 0)) (hb : b < w.heap.size) : Calls Tryz.prog 116 #[f, .pointer (some ⟨b, 0, none⟩)] w fun e w' => e = .returned (.tuple #[]) ∧ w' = w := by
  go_enter Tryz.func116, Tryz.ntmps116
  go_wp2_with fail
  go_loopw [3] (fun i w2 => i = .int .i64 (-1) ∧ w2 = w) (fun _ _ => 0)
  case atStart => exact ⟨rfl, rfl⟩
  case round =>
    obtain ⟨rfl, rfl⟩ := hrel
    go_wp2
    go_end0
    exact ⟨rfl, rfl⟩

attribute [local go_sem] Oper.semAt_some in
set_option maxRecDepth 100000 in
set_option maxHeartbeats 1000000 in
theorem back_nil {w : World} {x t : Nat} (k : EdN w x t) : Calls Tryz.prog 74 #[.pointer (some ⟨x, 0, none⟩)] w fun e w' => e = .returned (.tuple #[]) ∧ Below w.heap.size w w' := by
  obtain ⟨d0, d1, d2, d3, d4, d5, d6, dl, df⟩ := k.ed.cells
  clear k
  refine (callsIn_wide (n := 5)).1 ?_
  refine callsIn_of_wp_marks Tryz.func74 rfl trivial ?_ rfl
  simp only [Tryz.ntmps74, List.size_toArray, List.length_cons, List.length_nil, Nat.reduceAdd, Nat.reduceSub, Array.replicate_succ, Array.replicate_zero, List.push_toArray, List.append_toArray, List.nil_append, List.cons_append]
  gi_wp2_with fail
  refine ⟨trivial, (callsIn_wide.2 bwd_nil).mono ?_⟩
  rintro e w2 ⟨rfl, hc2, hl2, B2⟩
  have hz : (w.alloc (.cells #[.pointer (some ⟨x, 0, none⟩)] 85)).heap.size = w.heap.size + 1 := by simp
  have HB2 := thid (tbelow_on (tbelow w _) B2)
  rw [hz] at hc2 hl2 ⊢
  clear B2
  gi_wp2_with fail
  refine wpIn_rangeFunc_ownF (α := Empty) rfl (by omega) (gf := 116) (lb := #[.pointer (some ⟨w.heap.size + 1, 0, none⟩)]) rfl trivial (enters_of Tryz.func116 (by kernel_rfl) rfl)
    (encs := fun x => x.elim) (Kp := fun _ _ => True) (S := fun xs => xs = []) (Sp := fun _ => False) (N := 0) (w0 := w2) (fun l J Jx W hW _ _ _ h0 => ?seq) (fun _ _ => trivial) (fun _ _ _ _ _ _ _ _ => trivial) (Below.refl _ _) (fun x => x.elim)
    (fun _ W => Below w.heap.size w W) (fun _ _ _ => False) (ownFrom_below (Nat.le_refl _) HB2.out.size) (fun _ _ _ _ _ hs _ _ => hs) HB2.out (fun x => x.elim) ?assign ?body ?done ?stop
  case seq =>
    refine (callsIn_wide.2 (bwd1_nil ((hW.cell (p := ⟨w.heap.size + 1, 0, none⟩) hl2).trans hc2) (Nat.lt_of_lt_of_le hl2 hW.size))).mono ?_
    rintro e W' ⟨rfl, rfl⟩
    exact ⟨⟨_, rfl⟩, .inl ⟨[], rfl, h0⟩⟩
  case assign => exact fun _ x => x.elim
  case body => exact fun _ _ x => x.elim
  case done =>
    rintro D ys W hD rfl hB hK
    gi_wp2
    refine ⟨by simp, .inl ⟨_, _, rfl, run_takeDeferred hK, ?_⟩⟩
    exact ⟨_, results_none rfl _ _ _, rfl, hB.trans (belowK_b (w := w) (Nat.le_refl _) W D _ _ (by have := HB2.out.size; omega) hK rfl rfl)⟩
  case stop =>
    rintro D c pre W _ h _ _
    exact h.elim
end Go.Proofs.YtjdbjnkmlajdoaaGreat
