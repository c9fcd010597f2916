/-
  Tree: through, Each, All over a tree of one leaf.
-/
import Derived.Test.YtjocopclgehciaaGreatDoorMAO
import Derived.Laws.EntriesVeiled
import Derived.RangeFuncFrom
import Derived.RangeFuncBound
import Derived.RangeFuncCalls
import Derived.RangeFuncLeaves
import Derived.WalkKit
import Derived.OwnWalkIn
import Derived.TacticsInMore
import Derived.Test.YtjocopclgehciaaGreatDoorMAL
namespace Go.Proofs.YtjocopclgehciaaGreatDoor
open Go.RowKit
open L4 (Ar ArP Abs arV nv)

/-- A variable that is no arena's is set. -/
theorem One.set {s : Ar} {t r l : Nat} {nd : L5.No} {w : World} (h : One s t r l nd w) {q : Nat} {cs : Array Value} (hq : w.heap[q]? = some (.cells cs 3 (0, 0))) (hn : ¬ s.own q) (v : Value) : One s t r l nd (w.setCell ⟨q, 0, none⟩ v) := by
  have oth : ∀ p, p ≠ q → (w.setCell ⟨q, 0, none⟩ v).heap[p]? = w.heap[p]? := fun p hp => heap_setCell_other _ _ _ _ hp
  exact ⟨L4.arSt.keep s w _ h.ar (fun p hp => oth p fun e => hn (e ▸ hp)) (fun p cs hp => oth p (tag_ne hp hq (by decide))), h.ok, ⟨(oth t (tag_ne h.tr.blk hq (by decide))).trans h.tr.blk⟩, h.at_, h.shaped, h.size, h.leaf, h.small, h.pos⟩

end Go.Proofs.YtjocopclgehciaaGreatDoor
/-
  Tree: Each and All over a tree of one leaf.
-/
namespace Go.Proofs.YtjocopclgehciaaGreatDoor
open Go.RowKit
open L4 (Ar ArP Abs arV nv)

theorem eql_func_nil (w : World) (t : TypeId) {a : Array TypeId} {b : Array TypeId} {v : Bool} (fn : Fn) (first cap : Array Value) (h : Tryz.prog.underlying t = some (.func a b v)) : (binOp .eql t (.func fn first cap) .nilFunc).run Tryz.prog w = .ok (.bool false) w := by
  have h1 : ∀ d : Nat, (Op.equalIn (d + 1) t (.func fn first cap) .nilFunc).run Tryz.prog w = .ok false w := fun d => by simp [Op.equalIn, run_underlying h]
  have h2 : (Op.equal t (.func fn first cap) .nilFunc).run Tryz.prog w = .ok false w := h1 9999
  simp [binOp, h2]

end Go.Proofs.YtjocopclgehciaaGreatDoor
/-
  Tree: New without an arena.
-/
namespace Go.Proofs.YtjocopclgehciaaGreatDoor
open Go.RowKit
open L4 (Ar ArP Abs arV nv)
open L1 (stopped faultV Came undoW)

/-- An edit of a tree without an arena, nothing done. -/
structure EdN (w : World) (x t : Nat) : Prop where
  ed : EdC w x t 0 0 0 (.slice none 0 0) (.slice none 0 0) (.slice none 0 0)
  tr : w.heap[t]? = some (.cells #[.pointer none, .int .i64 0, .int .i64 0, .int .i64 0] 85 (0, 0))

theorem EdN.on {w w' : World} {x t : Nat} (k : EdN w x t) (hb : Below w.heap.size w w') : EdN w' x t := ⟨k.ed.on hb, (hb.block _ (Array.getElem?_eq_some_iff.1 k.tr).1).trans k.tr⟩

set_option maxRecDepth 100000 in
set_option maxHeartbeats 1000000 in
theorem take_nil {w : World} {x t : Nat} (k : EdN w x t) : Calls Tryz.prog 47 #[.pointer (some ⟨x, 0, none⟩)] w fun e w' => e = .panicked (stopped 15 0) ∧ Below w.heap.size w w' := by
  obtain ⟨d0, d1, d2, d3, d4, d5, d6, dl, df⟩ := k.ed.cells
  have t0 : w.cell? ⟨t, 0, none⟩ = some (.pointer none) := by rw [cell_of_row _ _ _ _ _ _ k.tr]; rfl
  have tl := (Array.getElem?_eq_some_iff.1 k.tr).1
  clear k
  go_enter Tryz.func47, Tryz.ntmps47
  go_wp2_with fail
  refine (L4.alloc_nil _).mono ?_
  rintro e w1 ⟨rfl, rfl⟩
  go_wp2_with fail
  refine (L1.check_no 15 (by decide) _).mono ?_
  rintro e w2 ⟨rfl, rfl⟩
  exact ⟨rfl, rfl, Below.refl _ _⟩

set_option maxRecDepth 100000 in
set_option maxHeartbeats 1000000 in
theorem new1_nil {w : World} {x t : Nat} (k : EdN w x t) : Calls Tryz.prog 46 #[.pointer (some ⟨x, 0, none⟩)] w fun e w' => e = .panicked (stopped 15 0) ∧ Below w.heap.size w w' := by
  have HT := thid (take_nil k)
  clear k
  go_enter Tryz.func46, Tryz.ntmps46
  go_wp2_with fail
  refine HT.out.mono ?_
  rintro e w2 ⟨rfl, B2⟩
  exact ⟨rfl, rfl, B2⟩

set_option maxRecDepth 100000 in
set_option maxHeartbeats 1000000 in
theorem change1_nil {w : World} {x t b0 b2 : Nat} (k : EdN w x t) (h0 : w.cell? ⟨b0, 0, none⟩ = some (.func (.func 46) #[] #[])) (h2 : w.cell? ⟨b2, 0, none⟩ = some (.pointer (some ⟨x, 0, none⟩))) : Calls Tryz.prog 66 #[.pointer (some ⟨b0, 0, none⟩), .pointer (some ⟨b2, 0, none⟩)] w fun e w' => e = .panicked (stopped 15 0) ∧ Below w.heap.size w w' := by
  have HT := thid (new1_nil k)
  clear k
  go_enter Tryz.func66, Tryz.ntmps66
  go_wp2_with fail
  refine HT.out.mono ?_
  rintro e w2 ⟨rfl, B2⟩
  exact ⟨rfl, rfl, B2⟩

set_option maxRecDepth 100000 in
set_option maxHeartbeats 1000000 in
theorem bwd_nil {w : World} : Calls Tryz.prog 94 #[.slice none 0 0] w fun e w' => e = .returned (.func (.func 117) #[] #[.pointer (some ⟨w.heap.size, 0, none⟩)]) ∧ w'.cell? ⟨w.heap.size, 0, none⟩ = some (.slice none 0 0) ∧ w.heap.size < w'.heap.size ∧ Below w.heap.size w w' := by
  have hmf : ∀ (fn : Fn) (first cap : Array Value) (w : World), (Instr.makeFunc fn first cap).run Tryz.prog w = .ok (.func fn first cap) w := fun _ _ _ _ => rfl
  go_enter Tryz.func94, Tryz.ntmps94
  go_wp2
  go_ret
  exact ⟨rfl, by simp [go_sem], by simp, tbelow _ _⟩

set_option maxRecDepth 100000 in
set_option maxHeartbeats 1000000 in
theorem bwd1_nil {w : World} {b : Nat} {f : Value} (hc : w.cell? ⟨b, 0, none⟩ = some (.slice none 0 0)) (hb : b < w.heap.size) : Calls Tryz.prog 117 #[f, .pointer (some ⟨b, 0, none⟩)] w fun e w' => e = .returned (.tuple #[]) ∧ w' = w := by
  go_enter Tryz.func117, Tryz.ntmps117
  go_wp2_with fail
  go_loopw [3] (fun i w2 => i = .int .i64 (-1) ∧ w2 = w) (fun _ _ => 0)
  case atStart => exact ⟨rfl, rfl⟩
  case round =>
    obtain ⟨rfl, rfl⟩ := hrel
    go_wp2
    go_end0
    exact ⟨rfl, rfl⟩

attribute [local go_sem] Oper.semAt_some in
set_option maxRecDepth 100000 in
set_option maxHeartbeats 1000000 in
theorem back_nil {w : World} {x t : Nat} (k : EdN w x t) : Calls Tryz.prog 68 #[.pointer (some ⟨x, 0, none⟩)] w fun e w' => e = .returned (.tuple #[]) ∧ Below w.heap.size w w' := by
  obtain ⟨d0, d1, d2, d3, d4, d5, d6, dl, df⟩ := k.ed.cells
  clear k
  refine (callsIn_wide (n := 5)).1 ?_
  refine callsIn_of_wp_marks Tryz.func68 rfl trivial ?_ rfl
  simp only [Tryz.ntmps68, List.size_toArray, List.length_cons, List.length_nil, Nat.reduceAdd, Nat.reduceSub, Array.replicate_succ, Array.replicate_zero, List.push_toArray, List.append_toArray, List.nil_append, List.cons_append]
  gi_wp2_with fail
  refine ⟨trivial, (callsIn_wide.2 bwd_nil).mono ?_⟩
  rintro e w2 ⟨rfl, hc2, hl2, B2⟩
  have hz : (w.alloc (.cells #[.pointer (some ⟨x, 0, none⟩)] 87)).heap.size = w.heap.size + 1 := by simp
  have HB2 := thid (tbelow_on (tbelow w _) B2)
  rw [hz] at hc2 hl2 ⊢
  clear B2
  gi_wp2_with fail
  refine wpIn_rangeFunc_ownF (α := Empty) rfl (by omega) (gf := 117) (lb := #[.pointer (some ⟨w.heap.size + 1, 0, none⟩)]) rfl trivial (enters_of Tryz.func117 (by kernel_rfl) rfl)
    (encs := fun x => x.elim) (Kp := fun _ _ => True) (S := fun xs => xs = []) (Sp := fun _ => False) (N := 0) (w0 := w2) (fun l J Jx W hW _ _ _ h0 => ?seq) (fun _ _ => trivial) (fun _ _ _ _ _ _ _ _ => trivial) (Below.refl _ _) (fun x => x.elim)
    (fun _ W => Below w.heap.size w W) (fun _ _ _ => False) (ownFrom_below (Nat.le_refl _) HB2.out.size) (fun _ _ _ _ _ hs _ _ => hs) HB2.out (fun x => x.elim) ?assign ?body ?done ?stop
  case seq =>
    refine (callsIn_wide.2 (bwd1_nil ((hW.cell (p := ⟨w.heap.size + 1, 0, none⟩) hl2).trans hc2) (Nat.lt_of_lt_of_le hl2 hW.size))).mono ?_
    rintro e W' ⟨rfl, rfl⟩
    exact ⟨⟨_, rfl⟩, .inl ⟨[], rfl, h0⟩⟩
  case assign => exact fun _ x => x.elim
  case body => exact fun _ _ x => x.elim
  case done =>
    rintro D ys W hD rfl hB hK
    gi_wp2
    refine ⟨by simp, .inl ⟨_, _, rfl, run_takeDeferred hK, ?_⟩⟩
    exact ⟨_, results_none rfl _ _ _, rfl, hB.trans (belowK_b (w := w) (Nat.le_refl _) W D _ _ (by have := HB2.out.size; omega) hK rfl rfl)⟩
  case stop =>
    rintro D c pre W _ h _ _
    exact h.elim
end Go.Proofs.YtjocopclgehciaaGreatDoor
/-
  Tree: New without an arena.
-/
namespace Go.Proofs.YtjocopclgehciaaGreatDoor
open Go.RowKit
open L4 (Ar ArP Abs arV nv)
open L1 (stopped faultV Came undoW)

/-- A state that owns nothing. -/
def nothing : L4.St Unit where
  own := fun _ _ => False
  P := fun _ _ => True
  keep := fun _ _ _ _ _ _ => trivial
  lt := fun _ _ _ _ h => h.elim
  tag := fun _ _ _ _ _ h => h.elim

theorem nothing_moves {w w' : World} (h : Below w.heap.size w w') : L4.Moves nothing () () w w' := ⟨Only.of_below h, fun _ h => h.elim⟩

theorem nothing_below {w w' : World} (h : L4.Moves nothing () () w w') : Below w.heap.size w w' := h.only.below (Nat.le_refl _) fun _ _ x => x

theorem stopped_inj {c a c' a' : Int} (h : Ending.panicked (stopped c a) = .panicked (stopped c' a')) : c = c' ∧ a = a' := by
  simp only [Ending.panicked.injEq, stopped, List.cons.injEq, PanicEntry.mk.injEq, Value.iface.injEq, faultV, Value.agg.injEq] at h
  simpa using h

set_option maxRecDepth 100000 in
set_option maxHeartbeats 1000000 in
theorem change_nil {t : Nat} {w : World} (ht : w.heap[t]? = some (.cells #[.pointer none, .int .i64 0, .int .i64 0, .int .i64 0] 85 (0, 0))) :
    Calls Tryz.prog 45 #[.pointer (some ⟨t, 0, none⟩), .func (.func 46) #[] #[]] w fun e w' => e = .returned (.int .i64 15) ∧ Below w.heap.size w w' := by
  have c1 : w.cell? ⟨t, 1, none⟩ = some (.int .i64 0) := by rw [cell_of_row _ _ _ _ _ _ ht]; rfl
  have c2 : w.cell? ⟨t, 2, none⟩ = some (.int .i64 0) := by rw [cell_of_row _ _ _ _ _ _ ht]; rfl
  have c3 : w.cell? ⟨t, 3, none⟩ = some (.int .i64 0) := by rw [cell_of_row _ _ _ _ _ _ ht]; rfl
  have ct := (Array.getElem?_eq_some_iff.1 ht).1
  have HT := thid ht
  clear ht
  have hmf : ∀ (fn : Fn) (first cap : Array Value) (w : World), (Instr.makeFunc fn first cap).run Tryz.prog w = .ok (.func fn first cap) w := fun _ _ _ _ => rfl
  go_enter Tryz.func45, Tryz.ntmps45
  go_wp2_with fail
  have B3 : Below w.heap.size w (((w.alloc (.cells #[.func (.func 46) #[] #[]] 95)).alloc (.cells #[.pointer (some ⟨t, 0, none⟩), .int .i64 0, .int .i64 0, .int .i64 0, .slice none 0 0, .slice none 0 0, .slice none 0 0] 90)).alloc (.cells #[.pointer (some ⟨w.heap.size + 1, 0, none⟩)] 87)) := ((tbelow w _).alloc (by simp) _).alloc (by simp; omega) _
  have z3 : (((w.alloc (.cells #[.func (.func 46) #[] #[]] 95)).alloc (.cells #[.pointer (some ⟨t, 0, none⟩), .int .i64 0, .int .i64 0, .int .i64 0, .slice none 0 0, .slice none 0 0, .slice none 0 0] 90)).alloc (.cells #[.pointer (some ⟨w.heap.size + 1, 0, none⟩)] 87)).heap.size = w.heap.size + 3 := by simp
  have k0 : (((w.alloc (.cells #[.func (.func 46) #[] #[]] 95)).alloc (.cells #[.pointer (some ⟨t, 0, none⟩), .int .i64 0, .int .i64 0, .int .i64 0, .slice none 0 0, .slice none 0 0, .slice none 0 0] 90)).alloc (.cells #[.pointer (some ⟨w.heap.size + 1, 0, none⟩)] 87)).cell? ⟨w.heap.size, 0, none⟩ = some (.func (.func 46) #[] #[]) := by simp [go_sem]
  have k1 : EdC (((w.alloc (.cells #[.func (.func 46) #[] #[]] 95)).alloc (.cells #[.pointer (some ⟨t, 0, none⟩), .int .i64 0, .int .i64 0, .int .i64 0, .slice none 0 0, .slice none 0 0, .slice none 0 0] 90)).alloc (.cells #[.pointer (some ⟨w.heap.size + 1, 0, none⟩)] 87)) (w.heap.size + 1) t 0 0 0 (.slice none 0 0) (.slice none 0 0) (.slice none 0 0) := by
    have h1 := heap_alloc_new (w.alloc (.cells #[.func (.func 46) #[] #[]] 95)) (.cells #[.pointer (some ⟨t, 0, none⟩), .int .i64 0, .int .i64 0, .int .i64 0, .slice none 0 0, .slice none 0 0, .slice none 0 0] 90)
    rw [show (w.alloc (.cells #[.func (.func 46) #[] #[]] 95)).heap.size = w.heap.size + 1 by simp] at h1
    exact ((tbelow _ _).block _ (by simp)).trans h1
  have k2 : (((w.alloc (.cells #[.func (.func 46) #[] #[]] 95)).alloc (.cells #[.pointer (some ⟨t, 0, none⟩), .int .i64 0, .int .i64 0, .int .i64 0, .slice none 0 0, .slice none 0 0, .slice none 0 0] 90)).alloc (.cells #[.pointer (some ⟨w.heap.size + 1, 0, none⟩)] 87)).cell? ⟨w.heap.size + 1 + 1, 0, none⟩ = some (.pointer (some ⟨w.heap.size + 1, 0, none⟩)) := by simp [go_sem]
  have HB3 := thid B3
  have HK1 := thid k1
  clear B3 k1 c1 c2 c3 hmf
  generalize ((w.alloc (.cells #[.func (.func 46) #[] #[]] 95)).alloc (.cells #[.pointer (some ⟨t, 0, none⟩), .int .i64 0, .int .i64 0, .int .i64 0, .slice none 0 0, .slice none 0 0, .slice none 0 0] 90)).alloc (.cells #[.pointer (some ⟨w.heap.size + 1, 0, none⟩)] 87) = W at *
  have HE : Hid (EdN W (w.heap.size + 1) t) := ⟨HK1.out, (HB3.out.block t ct).trans HT.out⟩
  have HU := thid (L1.below_catchW W : Below W.heap.size W (undoW W))
  refine (L4.undo_st nothing 66 (fun _ _ => rfl) _ 68 (fun _ _ => rfl) _ W () trivial (fun e _ => e = .panicked (stopped 15 0)) (fun _ e _ => e = .returned (.tuple #[])) ?_ ?_).mono ?_
  · refine (change1_nil (HE.out.on HU.out) ((HU.out.cell (p := ⟨w.heap.size, 0, none⟩) (by show w.heap.size < W.heap.size; omega)).trans k0) ((HU.out.cell (p := ⟨w.heap.size + 1 + 1, 0, none⟩) (by show w.heap.size + 1 + 1 < W.heap.size; omega)).trans k2)).mono ?_
    rintro e w1 ⟨rfl, B⟩
    exact ⟨(), rfl, trivial, nothing_moves B, _, _, _, .stop 15 0⟩
  · intro W2 s' c a _ _ hm
    refine (back_nil (HE.out.on (nothing_below hm))).mono ?_
    rintro e w1 ⟨rfl, B⟩
    exact ⟨(), rfl, trivial, nothing_moves B, _, _, _, .done⟩
  · rintro e w2 ⟨_, _, hm, h⟩
    have HB4 := thid (tbelow_on HB3.out (nothing_below hm))
    have he : e = .returned (faultV 15 0) := by
      rcases h with ⟨h, _⟩ | ⟨c, a, s1, e2, c2, a2, t2, h1, h2, h3, rfl⟩
      · cases h
      · obtain ⟨rfl, rfl⟩ := stopped_inj h1
        subst h2
        cases h3
        rfl
    subst he
    clear h hm HE HU HB3 HK1 k0 k2 HT
    simp only [faultV]
    have ff := fun w => ffield 15 0 w
    go_wp2
    refine bodyPost_ret (v := .int .i64 15) (by simp [results, Tryz.results45, go_sem]) rfl ⟨rfl, HB4.out⟩

set_option maxRecDepth 100000 in
set_option maxHeartbeats 1000000 in
theorem new_nil (w : World) : Calls Tryz.prog 27 #[.pointer none] w fun e w' => e = .returned (.tuple #[.pointer none, .int .i64 15]) ∧ Below w.heap.size w w' := by
  have HB := thid (tbelow w (.cells #[.pointer none, .int .i64 0, .int .i64 0, .int .i64 0] 85))
  have HC := thid (change_nil (w := w.alloc (.cells #[.pointer none, .int .i64 0, .int .i64 0, .int .i64 0] 85)) (heap_alloc_new _ _))
  have hmf : ∀ (fn : Fn) (first cap : Array Value) (w : World), (Instr.makeFunc fn first cap).run Tryz.prog w = .ok (.func fn first cap) w := fun _ _ _ _ => rfl
  go_enter Tryz.func27, Tryz.ntmps27
  go_wp2_with fail
  refine HC.out.mono ?_
  rintro e w1 ⟨rfl, B1⟩
  have HF := thid (tbelow_on HB.out B1)
  clear HC HB hmf B1
  go_wp2
  refine bodyPost_ret (v := .tuple #[.pointer none, .int .i64 15]) (by simp [results, Tryz.results27, go_sem]) rfl ⟨rfl, HF.out⟩
end Go.Proofs.YtjocopclgehciaaGreatDoor
/-
  Tree: calls that stop, nothing taken.
-/
namespace Go.Proofs.YtjocopclgehciaaGreatDoor
open Go.RowKit
open L4 (Ar ArP Abs arV nv)
open L1 (stopped faultV Came undoW)

attribute [local go_sem] Oper.semAt_some in
set_option maxRecDepth 100000 in
set_option maxHeartbeats 1000000 in
theorem back_none {w : World} {x t xr xh xl : Nat} {ld gn : Value} (k : EdC w x t xr xh xl (.slice none 0 0) ld gn) : Calls Tryz.prog 68 #[.pointer (some ⟨x, 0, none⟩)] w fun e w' => e = .returned (.tuple #[]) ∧ Below w.heap.size w w' := by
  obtain ⟨d0, d1, d2, d3, d4, d5, d6, dl, df⟩ := k.cells
  clear k
  refine (callsIn_wide (n := 5)).1 ?_
  refine callsIn_of_wp_marks Tryz.func68 rfl trivial ?_ rfl
  simp only [Tryz.ntmps68, List.size_toArray, List.length_cons, List.length_nil, Nat.reduceAdd, Nat.reduceSub, Array.replicate_succ, Array.replicate_zero, List.push_toArray, List.append_toArray, List.nil_append, List.cons_append]
  gi_wp2_with fail
  refine ⟨trivial, (callsIn_wide.2 bwd_nil).mono ?_⟩
  rintro e w2 ⟨rfl, hc2, hl2, B2⟩
  have hz : (w.alloc (.cells #[.pointer (some ⟨x, 0, none⟩)] 87)).heap.size = w.heap.size + 1 := by simp
  have HB2 := thid (tbelow_on (tbelow w _) B2)
  rw [hz] at hc2 hl2 ⊢
  clear B2
  gi_wp2_with fail
  refine wpIn_rangeFunc_ownF (α := Empty) rfl (by omega) (gf := 117) (lb := #[.pointer (some ⟨w.heap.size + 1, 0, none⟩)]) rfl trivial (enters_of Tryz.func117 (by kernel_rfl) rfl)
    (encs := fun x => x.elim) (Kp := fun _ _ => True) (S := fun xs => xs = []) (Sp := fun _ => False) (N := 0) (w0 := w2) (fun l J Jx W hW _ _ _ h0 => ?seq) (fun _ _ => trivial) (fun _ _ _ _ _ _ _ _ => trivial) (Below.refl _ _) (fun x => x.elim)
    (fun _ W => Below w.heap.size w W) (fun _ _ _ => False) (ownFrom_below (Nat.le_refl _) HB2.out.size) (fun _ _ _ _ _ hs _ _ => hs) HB2.out (fun x => x.elim) ?assign ?body ?done ?stop
  case seq =>
    refine (callsIn_wide.2 (bwd1_nil ((hW.cell (p := ⟨w.heap.size + 1, 0, none⟩) hl2).trans hc2) (Nat.lt_of_lt_of_le hl2 hW.size))).mono ?_
    rintro e W' ⟨rfl, rfl⟩
    exact ⟨⟨_, rfl⟩, .inl ⟨[], rfl, h0⟩⟩
  case assign => exact fun _ x => x.elim
  case body => exact fun _ _ x => x.elim
  case done =>
    rintro D ys W hD rfl hB hK
    gi_wp2
    refine ⟨by simp, .inl ⟨_, _, rfl, run_takeDeferred hK, ?_⟩⟩
    exact ⟨_, results_none rfl _ _ _, rfl, hB.trans (belowK_b (w := w) (Nat.le_refl _) W D _ _ (by have := HB2.out.size; omega) hK rfl rfl)⟩
  case stop =>
    rintro D c pre W _ h _ _
    exact h.elim

set_option maxRecDepth 100000 in
set_option maxHeartbeats 1000000 in
theorem change1_stop {w : World} {x b0 b2 : Nat} {c : Int} {g : FuncId} {cap : Array Value} (hg : ∀ args w, (callFunc g args).run Tryz.prog w = .ok (.enter g args) w) (h0 : w.cell? ⟨b0, 0, none⟩ = some (.func (.func g) #[] cap)) (h2 : w.cell? ⟨b2, 0, none⟩ = some (.pointer (some ⟨x, 0, none⟩))) (H : Calls Tryz.prog g (#[.pointer (some ⟨x, 0, none⟩)] ++ cap) w fun e w1 => e = .panicked (stopped c 0) ∧ Below w.heap.size w w1) : Calls Tryz.prog 66 #[.pointer (some ⟨b0, 0, none⟩), .pointer (some ⟨b2, 0, none⟩)] w fun e w' => e = .panicked (stopped c 0) ∧ Below w.heap.size w w' := by
  have HT := thid H
  clear H
  go_enter Tryz.func66, Tryz.ntmps66
  go_wp2_with fail
  refine HT.out.mono ?_
  rintro e w2 ⟨rfl, B2⟩
  exact ⟨rfl, rfl, B2⟩

set_option maxRecDepth 100000 in
set_option maxHeartbeats 1000000 in
theorem change_stop {s : Ar} {t r h l : Nat} {c : Int} {w : World} (hA : ArP s w) (ht : TrC w t s.p r h l) (g : FuncId) (hg : ∀ args w, (callFunc g args).run Tryz.prog w = .ok (.enter g args) w) (cap : Array Value)
    (H : ∀ (x : Nat) (W : World), w.heap.size ≤ x → Below w.heap.size w W → Es W.heap.size s t x r h l r h l (.slice none 0 0) (.slice none 0 0) (.slice none 0 0) [] [] [] W → Calls Tryz.prog g (#[.pointer (some ⟨x, 0, none⟩)] ++ cap) W fun e w1 => e = .panicked (stopped c 0) ∧ Below W.heap.size W w1) :
    Calls Tryz.prog 45 #[.pointer (some ⟨t, 0, none⟩), .func (.func g) #[] cap] w fun e w' => e = .returned (.int .i64 c) ∧ Below w.heap.size w w' := by
  obtain ⟨c0, c1, c2, c3, ct, cf⟩ := ht.cells
  have HA := thid hA
  have HT := thid ht
  have HH := thid H
  clear hA ht H
  have hmf : ∀ (fn : Fn) (first cap : Array Value) (w : World), (Instr.makeFunc fn first cap).run Tryz.prog w = .ok (.func fn first cap) w := fun _ _ _ _ => rfl
  go_enter Tryz.func45, Tryz.ntmps45
  go_wp2_with fail
  have B3 : Below w.heap.size w (((w.alloc (.cells #[.func (.func g) #[] cap] 95)).alloc (.cells #[.pointer (some ⟨t, 0, none⟩), .int .i64 (r : Int), .int .i64 (h : Int), .int .i64 (l : Int), .slice none 0 0, .slice none 0 0, .slice none 0 0] 90)).alloc (.cells #[.pointer (some ⟨w.heap.size + 1, 0, none⟩)] 87)) := ((tbelow w _).alloc (by simp) _).alloc (by simp; omega) _
  have z3 : (((w.alloc (.cells #[.func (.func g) #[] cap] 95)).alloc (.cells #[.pointer (some ⟨t, 0, none⟩), .int .i64 (r : Int), .int .i64 (h : Int), .int .i64 (l : Int), .slice none 0 0, .slice none 0 0, .slice none 0 0] 90)).alloc (.cells #[.pointer (some ⟨w.heap.size + 1, 0, none⟩)] 87)).heap.size = w.heap.size + 3 := by simp
  have k0 : (((w.alloc (.cells #[.func (.func g) #[] cap] 95)).alloc (.cells #[.pointer (some ⟨t, 0, none⟩), .int .i64 (r : Int), .int .i64 (h : Int), .int .i64 (l : Int), .slice none 0 0, .slice none 0 0, .slice none 0 0] 90)).alloc (.cells #[.pointer (some ⟨w.heap.size + 1, 0, none⟩)] 87)).cell? ⟨w.heap.size, 0, none⟩ = some (.func (.func g) #[] cap) := by simp [go_sem]
  have k1 : EdC (((w.alloc (.cells #[.func (.func g) #[] cap] 95)).alloc (.cells #[.pointer (some ⟨t, 0, none⟩), .int .i64 (r : Int), .int .i64 (h : Int), .int .i64 (l : Int), .slice none 0 0, .slice none 0 0, .slice none 0 0] 90)).alloc (.cells #[.pointer (some ⟨w.heap.size + 1, 0, none⟩)] 87)) (w.heap.size + 1) t r h l (.slice none 0 0) (.slice none 0 0) (.slice none 0 0) := by
    have h1 := heap_alloc_new (w.alloc (.cells #[.func (.func g) #[] cap] 95)) (.cells #[.pointer (some ⟨t, 0, none⟩), .int .i64 (r : Int), .int .i64 (h : Int), .int .i64 (l : Int), .slice none 0 0, .slice none 0 0, .slice none 0 0] 90)
    rw [show (w.alloc (.cells #[.func (.func g) #[] cap] 95)).heap.size = w.heap.size + 1 by simp] at h1
    exact ((tbelow _ _).block _ (by simp)).trans h1
  have k2 : (((w.alloc (.cells #[.func (.func g) #[] cap] 95)).alloc (.cells #[.pointer (some ⟨t, 0, none⟩), .int .i64 (r : Int), .int .i64 (h : Int), .int .i64 (l : Int), .slice none 0 0, .slice none 0 0, .slice none 0 0] 90)).alloc (.cells #[.pointer (some ⟨w.heap.size + 1, 0, none⟩)] 87)).cell? ⟨w.heap.size + 1 + 1, 0, none⟩ = some (.pointer (some ⟨w.heap.size + 1, 0, none⟩)) := by simp [go_sem]
  have HB3 := thid B3
  have HK1 := thid k1
  clear B3 k1 c0 c1 c2 c3 cf hmf
  generalize ((w.alloc (.cells #[.func (.func g) #[] cap] 95)).alloc (.cells #[.pointer (some ⟨t, 0, none⟩), .int .i64 (r : Int), .int .i64 (h : Int), .int .i64 (l : Int), .slice none 0 0, .slice none 0 0, .slice none 0 0] 90)).alloc (.cells #[.pointer (some ⟨w.heap.size + 1, 0, none⟩)] 87) = W at *
  have HU := thid (L1.below_catchW W : Below W.heap.size W (undoW W))
  have HBU := thid (HB3.out.trans (HU.out.mono HB3.out.size))
  have HE : Hid (Es (undoW W).heap.size s t (w.heap.size + 1) r h l r h l (.slice none 0 0) (.slice none 0 0) (.slice none 0 0) [] [] [] (undoW W)) :=
    ⟨L4.arSt.below HA.out HBU.out, HT.out.on HBU.out, HK1.out.on HU.out, Nat.le_refl _, ⟨rfl, Or.inl ⟨rfl, rfl⟩⟩, ⟨rfl, Or.inl ⟨rfl, rfl⟩⟩, ⟨rfl, Or.inl ⟨rfl, rfl⟩⟩, fun y hy => by simp at hy, fun y hy => by simp at hy, fun k _ => ⟨by simp [Value.ownBlock], by simp [Value.ownBlock], fun y hy => by simp at hy⟩, fun k hk => by simp [Value.ownBlock] at hk, fun k hk => by simp [Value.ownBlock] at hk⟩
  have HG := thid (HH.out (w.heap.size + 1) (undoW W) (by omega) HBU.out HE.out)
  refine (L4.undo_st nothing 66 (fun _ _ => rfl) _ 68 (fun _ _ => rfl) _ W () trivial (fun e _ => e = .panicked (stopped c 0)) (fun _ e _ => e = .returned (.tuple #[])) ?_ ?_).mono ?_
  · refine (change1_stop hg ((HU.out.cell (p := ⟨w.heap.size, 0, none⟩) (by show w.heap.size < W.heap.size; omega)).trans k0) ((HU.out.cell (p := ⟨w.heap.size + 1 + 1, 0, none⟩) (by show w.heap.size + 1 + 1 < W.heap.size; omega)).trans k2) HG.out).mono ?_
    rintro e w1 ⟨rfl, B⟩
    exact ⟨(), rfl, trivial, nothing_moves B, _, _, _, .stop c 0⟩
  · intro W2 s' c' a _ _ hm
    refine (back_none (HK1.out.on (nothing_below hm))).mono ?_
    rintro e w1 ⟨rfl, B⟩
    exact ⟨(), rfl, trivial, nothing_moves B, _, _, _, .done⟩
  · rintro e w2 ⟨_, _, hm, hh⟩
    have HB4 := thid (tbelow_on HB3.out (nothing_below hm))
    have he : e = .returned (faultV c 0) := by
      rcases hh with ⟨h, _⟩ | ⟨c', a, s1, e2, c2, a2, t2, h1, h2, h3, rfl⟩
      · cases h
      · obtain ⟨rfl, rfl⟩ := stopped_inj h1
        subst h2
        cases h3
        rfl
    subst he
    clear hh hm HE HU HB3 HK1 k0 k2 HT HA HH HG HBU
    simp only [faultV]
    have ff := fun w => ffield c 0 w
    go_wp2
    refine bodyPost_ret (v := .int .i64 c) (by simp [results, Tryz.results45, go_sem]) rfl ⟨rfl, HB4.out⟩

end Go.Proofs.YtjocopclgehciaaGreatDoor
/-
  Tree: calls on a tree of one leaf that stop.
-/
namespace Go.Proofs.YtjocopclgehciaaGreatDoor
open Go.RowKit
open L4 (Ar ArP Abs arV nv)
open L1 (stopped)

set_option maxRecDepth 100000 in
set_option maxHeartbeats 1000000 in
theorem insert_there {N : Nat} {s : Ar} {t x r l : Nat} {nd : L5.No} {k : ByteArray} {w : World} (hE : Es N s t x r 1 l r 1 l (.slice none 0 0) (.slice none 0 0) (.slice none 0 0) [] [] [] w) (ho : s.abs.Ok) (hn : s.abs.at (r : Int) = some (L5.pageL nd.toNd)) (hs : nd.shaped = true) (hz : nd.size ≤ 1024) (hlf : nd.leaf = true) (hsm : nd.small) (hno : L5.isAt nd.recs k (nd.recs.countP (L5.ltB k)) = true) :
    Calls Tryz.prog 53 #[.pointer (some ⟨x, 0, none⟩), .string k] w fun e w1 => e = .panicked (stopped 3 0) ∧ Below w.heap.size w w1 := by
  have HE := thid hE
  obtain ⟨d0, d1, d2, d3, d4, d5, d6, dl, df⟩ := hE.ed.cells
  have HWY := thid (way_ok (k := k) hE.ar ho hE.tr hn hs hz hlf)
  clear hE
  go_enter Tryz.func53, Tryz.ntmps53
  go_wp2_with fail
  refine HWY.out.mono ?_
  rintro e w1 ⟨a, c, a', c', b, cp, rfl, o0, o1, o2, B1⟩
  have HO0 := thid o0
  have HO1 := thid o1
  have HO2 := thid o2
  have HB1 := thid B1
  have HE1 := thid (HE.out.below B1)
  clear HWY o0 o1 o2 B1 d0 d1 d2 d3 d4 d5 d6 dl df
  obtain ⟨d0, d1, d2, d3, d4, d5, d6, dl, df⟩ := HE1.out.ed.cells
  rw [show (Value.bool true) = .bool nd.leaf by rw [hlf]] at HO0
  obtain ⟨hW1, _, _⟩ := way1_of HO0.out
  have HW1 := thid hW1
  obtain ⟨lb, hcp, q0, q1, q2, q3, q4⟩ := hW1
  have HFN := thid (L5.find_walk (n := nd) (L5.NR.mk (L5.owns_rd_slice HO1.out) (L5.owns_rd_slice HO2.out)) hsm.recs k)
  rw [hno] at HFN
  clear HO0
  have HLE := thid hlf
  clear hlf
  unfold L5.nodeV at HFN
  go_wp2_with fail
  refine HFN.out.mono ?_
  rintro e w2 ⟨rfl, B2⟩
  have HB2 := thid B2
  have HE2 := thid (HE1.out.below B2)
  have HW2 := thid (HW1.out.on B2)
  have HP1 := thid (L5.owns_below HO1.out B2)
  have HP2 := thid (L5.owns_below HO2.out B2)
  have HBB := thid (tbelow_on HB1.out HB2.out)
  clear HFN HO1 HO2 HW1 HE1 B2 lb hcp q0 q1 q2 q3 q4 d0 d1 d2 d3 d4 d5 d6 dl df HE2 HW2 HP1 HP2 HB1 HB2
  go_wp2_with fail
  refine (L1.check_no 3 (by decide) _).mono ?_
  rintro e w3 ⟨rfl, rfl⟩
  exact ⟨rfl, rfl, HBB.out⟩

set_option maxRecDepth 100000 in
set_option maxHeartbeats 1000000 in
theorem delete_absent {N : Nat} {s : Ar} {t x r l : Nat} {nd : L5.No} {k : ByteArray} {w : World} (hE : Es N s t x r 1 l r 1 l (.slice none 0 0) (.slice none 0 0) (.slice none 0 0) [] [] [] w) (ho : s.abs.Ok) (hn : s.abs.at (r : Int) = some (L5.pageL nd.toNd)) (hs : nd.shaped = true) (hz : nd.size ≤ 1024) (hlf : nd.leaf = true) (hsm : nd.small) (hno : L5.isAt nd.recs k (nd.recs.countP (L5.ltB k)) = false) :
    Calls Tryz.prog 56 #[.pointer (some ⟨x, 0, none⟩), .string k] w fun e w1 => e = .panicked (stopped 2 0) ∧ Below w.heap.size w w1 := by
  have HE := thid hE
  obtain ⟨d0, d1, d2, d3, d4, d5, d6, dl, df⟩ := hE.ed.cells
  have HWY := thid (way_ok (k := k) hE.ar ho hE.tr hn hs hz hlf)
  clear hE
  go_enter Tryz.func56, Tryz.ntmps56
  go_wp2_with fail
  refine HWY.out.mono ?_
  rintro e w1 ⟨a, c, a', c', b, cp, rfl, o0, o1, o2, B1⟩
  have HO0 := thid o0
  have HO1 := thid o1
  have HO2 := thid o2
  have HB1 := thid B1
  have HE1 := thid (HE.out.below B1)
  clear HWY o0 o1 o2 B1 d0 d1 d2 d3 d4 d5 d6 dl df
  obtain ⟨d0, d1, d2, d3, d4, d5, d6, dl, df⟩ := HE1.out.ed.cells
  rw [show (Value.bool true) = .bool nd.leaf by rw [hlf]] at HO0
  obtain ⟨hW1, _, _⟩ := way1_of HO0.out
  have HW1 := thid hW1
  obtain ⟨lb, hcp, q0, q1, q2, q3, q4⟩ := hW1
  have HFN := thid (L5.find_walk (n := nd) (L5.NR.mk (L5.owns_rd_slice HO1.out) (L5.owns_rd_slice HO2.out)) hsm.recs k)
  rw [hno] at HFN
  clear HO0
  have HLE := thid hlf
  clear hlf
  unfold L5.nodeV at HFN
  go_wp2_with fail
  refine HFN.out.mono ?_
  rintro e w2 ⟨rfl, B2⟩
  have HB2 := thid B2
  have HE2 := thid (HE1.out.below B2)
  have HW2 := thid (HW1.out.on B2)
  have HP1 := thid (L5.owns_below HO1.out B2)
  have HP2 := thid (L5.owns_below HO2.out B2)
  have HBB := thid (tbelow_on HB1.out HB2.out)
  clear HFN HO1 HO2 HW1 HE1 B2 lb hcp q0 q1 q2 q3 q4 d0 d1 d2 d3 d4 d5 d6 dl df HE2 HW2 HP1 HP2 HB1 HB2
  go_wp2_with fail
  refine (L1.check_no 2 (by decide) _).mono ?_
  rintro e w3 ⟨rfl, rfl⟩
  exact ⟨rfl, rfl, HBB.out⟩

set_option maxRecDepth 100000 in
set_option maxHeartbeats 1000000 in
theorem insert_quota {N : Nat} {s : Ar} {t x r l : Nat} {nd : L5.No} {k : ByteArray} {w : World} (hE : Es N s t x r 1 l r 1 l (.slice none 0 0) (.slice none 0 0) (.slice none 0 0) [] [] [] w) (ho : s.abs.Ok) (hn : s.abs.at (r : Int) = some (L5.pageL nd.toNd)) (hs : nd.shaped = true) (hz : nd.size ≤ 1024) (hlf : nd.leaf = true) (hsm : nd.small) (hno : L5.isAt nd.recs k (nd.recs.countP (L5.ltB k)) = false) (hl : s.abs.left < 2) :
    Calls Tryz.prog 53 #[.pointer (some ⟨x, 0, none⟩), .string k] w fun e w1 => e = .panicked (stopped 9 0) ∧ Below w.heap.size w w1 := by
  have HE := thid hE
  obtain ⟨d0, d1, d2, d3, d4, d5, d6, dl, df⟩ := hE.ed.cells
  have HWY := thid (way_ok (k := k) hE.ar ho hE.tr hn hs hz hlf)
  clear hE
  go_enter Tryz.func53, Tryz.ntmps53
  go_wp2_with fail
  refine HWY.out.mono ?_
  rintro e w1 ⟨a, c, a', c', b, cp, rfl, o0, o1, o2, B1⟩
  have HO0 := thid o0
  have HO1 := thid o1
  have HO2 := thid o2
  have HB1 := thid B1
  have HE1 := thid (HE.out.below B1)
  clear HWY o0 o1 o2 B1 d0 d1 d2 d3 d4 d5 d6 dl df
  obtain ⟨d0, d1, d2, d3, d4, d5, d6, dl, df⟩ := HE1.out.ed.cells
  rw [show (Value.bool true) = .bool nd.leaf by rw [hlf]] at HO0
  obtain ⟨hW1, _, _⟩ := way1_of HO0.out
  have HW1 := thid hW1
  obtain ⟨lb, hcp, q0, q1, q2, q3, q4⟩ := hW1
  have HFN := thid (L5.find_walk (n := nd) (L5.NR.mk (L5.owns_rd_slice HO1.out) (L5.owns_rd_slice HO2.out)) hsm.recs k)
  rw [hno] at HFN
  clear HO0
  have HLE := thid hlf
  clear hlf
  unfold L5.nodeV at HFN
  go_wp2_with fail
  refine HFN.out.mono ?_
  rintro e w2 ⟨rfl, B2⟩
  have HB2 := thid B2
  have HE2 := thid (HE1.out.below B2)
  have HW2 := thid (HW1.out.on B2)
  have HP1 := thid (L5.owns_below HO1.out B2)
  have HP2 := thid (L5.owns_below HO2.out B2)
  clear HFN HO1 HO2 HW1 HE1 B2 lb hcp q0 q1 q2 q3 q4 d0 d1 d2 d3 d4 d5 d6 dl df
  have x0 : ∀ q : L4.BelowW w2, q.w.cell? ⟨x, 0, none⟩ = some (.pointer (some ⟨t, 0, none⟩)) := fun q => (HE2.out.below q.below).ed.cells.1
  have x2 : ∀ q : L4.BelowW w2, q.w.cell? ⟨x, 2, none⟩ = some (.int .i64 1) := fun q => (HE2.out.below q.below).ed.cells.2.2.1
  have y0 : ∀ q : L4.BelowW w2, q.w.cell? ⟨t, 0, none⟩ = some (.pointer (some ⟨s.p, 0, none⟩)) := fun q => (HE2.out.below q.below).tr.cells.1
  have HL : ∀ q : L4.BelowW w2, Calls Tryz.prog 76 #[.pointer (some ⟨s.p, 0, none⟩)] q.w fun e w' => e = .returned (.int .i64 (s.abs.left : Int)) ∧ Below q.w.heap.size q.w w' := fun q => L4.left_walk (HE2.out.below q.below).ar ho
  have hl2 : decide ((s.abs.left : Int) < 2) = true := by simp; omega
  obtain ⟨i, hi⟩ : ∃ i, Hid (nd.recs.countP (L5.ltB k) = i) := ⟨_, rfl⟩
  rw [hi.out]
  go_wp2_with fail
  refine L4.wp_region_below (by kernel_rfl) (by kernel_rfl) (fun _ => ?_)
  repeat (go_big_quiet_step (first | (go_at_call 76; exact L4.quiet_of_below (HL _))))
  refine wpQuiet_nil ?_
  rintro _ ⟨q, rfl⟩
  have HBB := thid (tbelow_on (tbelow_on HB1.out HB2.out) q.below)
  generalize q.w = w3 at *
  clear x0 x2 y0 HL HE2 HW2 HP1 HP2 HB2 HB1 q
  go_wp2_with fail
  refine (L1.check_no 9 (by decide) _).mono ?_
  rintro e w4 ⟨rfl, rfl⟩
  exact ⟨rfl, rfl, HBB.out⟩

end Go.Proofs.YtjocopclgehciaaGreatDoor
/-
  Tree: Insert and Delete that stop.
-/
namespace Go.Proofs.YtjocopclgehciaaGreatDoor
open Go.RowKit
open L4 (Ar ArP Abs arV nv)
open L1 (stopped)

set_option maxRecDepth 100000 in
set_option maxHeartbeats 1000000 in
theorem tinsert1_stop {x b : Nat} {k : ByteArray} {c : Int} {w : World} (hc : w.cell? ⟨b, 0, none⟩ = some (.string k)) (H : Calls Tryz.prog 53 #[.pointer (some ⟨x, 0, none⟩), .string k] w fun e w1 => e = .panicked (stopped c 0) ∧ Below w.heap.size w w1) :
    Calls Tryz.prog 52 #[.pointer (some ⟨x, 0, none⟩), .pointer (some ⟨b, 0, none⟩)] w fun e w1 => e = .panicked (stopped c 0) ∧ Below w.heap.size w w1 := by
  have HH := thid H
  clear H
  go_enter Tryz.func52, Tryz.ntmps52
  go_wp2_with fail
  refine HH.out.mono ?_
  rintro e w1 ⟨rfl, hR⟩
  exact ⟨rfl, rfl, hR⟩

set_option maxRecDepth 100000 in
set_option maxHeartbeats 1000000 in
/-- A call that stops, nothing taken: its code is answered, nothing turns. -/
theorem tinsert_stop {s : Ar} {t r h l : Nat} {k : ByteArray} {c : Int} {w : World} (hA : ArP s w) (ht : TrC w t s.p r h l) (hr : r ≠ 0) (hk1 : 1 ≤ k.size) (hk2 : k.size ≤ 400)
    (H : ∀ (x : Nat) (W : World), Es W.heap.size s t x r h l r h l (.slice none 0 0) (.slice none 0 0) (.slice none 0 0) [] [] [] W → Calls Tryz.prog 53 #[.pointer (some ⟨x, 0, none⟩), .string k] W fun e w1 => e = .panicked (stopped c 0) ∧ Below W.heap.size W w1) :
    Calls Tryz.prog 30 #[.pointer (some ⟨t, 0, none⟩), .string k] w fun e w' => e = .returned (.int .i64 c) ∧ Below w.heap.size w w' := by
  have HB1 := thid (tbelow w (.cells #[.string k] 9))
  have HA1 := thid (L4.arSt.below hA HB1.out)
  have HT1 := thid (ht.on HB1.out)
  have hc1 : (w.alloc (.cells #[.string k] 9)).cell? ⟨w.heap.size, 0, none⟩ = some (.string k) := by simp [go_sem]
  have HOV := thid (over_ok HT1.out hr)
  have HH := thid H
  clear hA ht H
  have hmf : ∀ (fn : Fn) (first cap : Array Value) (w : World), (Instr.makeFunc fn first cap).run Tryz.prog w = .ok (.func fn first cap) w := fun _ _ _ _ => rfl
  go_enter Tryz.func30, Tryz.ntmps30
  go_wp2_with fail
  refine HOV.out.mono ?_
  rintro e w2 ⟨rfl, B2⟩
  have hl2 : w.heap.size < (w.alloc (.cells #[.string k] 9)).heap.size := by simp
  have hc2 := (B2.cell (p := ⟨w.heap.size, 0, none⟩) hl2).trans hc1
  have HB2 := thid (tbelow_on HB1.out B2)
  have HA2 := thid (L4.arSt.below HA1.out B2)
  have HT2 := thid (HT1.out.on B2)
  have hl3 : w.heap.size < w2.heap.size := Nat.lt_of_lt_of_le hl2 B2.size
  clear HOV B2 HA1 HT1 HB1 hc1 hl2
  have he : k.toList.isEmpty = false := by rw [L5.isEmpty_size]; exact decide_eq_false (by omega)
  have hk4 : decide (400 < (k.size : Int)) = false := by simp; omega
  have HC := thid (change_stop HA2.out HT2.out 52 (fun _ _ => rfl) #[.pointer (some ⟨w.heap.size, 0, none⟩)] (fun x W _ hb hE => by
    have hcW := (hb.cell (p := ⟨w.heap.size, 0, none⟩) hl3).trans hc2
    simpa using tinsert1_stop hcW (HH.out x W hE)))
  clear HA2 HT2 HH
  go_wp2_with fail
  refine HC.out.mono ?_
  rintro e w3 ⟨rfl, B3⟩
  have HF := thid (tbelow_on HB2.out B3)
  clear HC HB2 hmf B3
  go_wp2
  go_ret
  exact ⟨rfl, HF.out⟩

set_option maxRecDepth 100000 in
set_option maxHeartbeats 1000000 in
theorem tdelete1_stop {x b : Nat} {k : ByteArray} {c : Int} {w : World} (hc : w.cell? ⟨b, 0, none⟩ = some (.string k)) (H : Calls Tryz.prog 56 #[.pointer (some ⟨x, 0, none⟩), .string k] w fun e w1 => e = .panicked (stopped c 0) ∧ Below w.heap.size w w1) :
    Calls Tryz.prog 55 #[.pointer (some ⟨x, 0, none⟩), .pointer (some ⟨b, 0, none⟩)] w fun e w1 => e = .panicked (stopped c 0) ∧ Below w.heap.size w w1 := by
  have HH := thid H
  clear H
  go_enter Tryz.func55, Tryz.ntmps55
  go_wp2_with fail
  refine HH.out.mono ?_
  rintro e w1 ⟨rfl, hR⟩
  exact ⟨rfl, rfl, hR⟩

set_option maxRecDepth 100000 in
set_option maxHeartbeats 1000000 in
/-- A call that stops, nothing taken: its code is answered, nothing turns. -/
theorem tdelete_stop {s : Ar} {t r h l : Nat} {k : ByteArray} {c : Int} {w : World} (hA : ArP s w) (ht : TrC w t s.p r h l) (hr : r ≠ 0)
    (H : ∀ (x : Nat) (W : World), Es W.heap.size s t x r h l r h l (.slice none 0 0) (.slice none 0 0) (.slice none 0 0) [] [] [] W → Calls Tryz.prog 56 #[.pointer (some ⟨x, 0, none⟩), .string k] W fun e w1 => e = .panicked (stopped c 0) ∧ Below W.heap.size W w1) :
    Calls Tryz.prog 33 #[.pointer (some ⟨t, 0, none⟩), .string k] w fun e w' => e = .returned (.int .i64 c) ∧ Below w.heap.size w w' := by
  have HB1 := thid (tbelow w (.cells #[.string k] 9))
  have HA1 := thid (L4.arSt.below hA HB1.out)
  have HT1 := thid (ht.on HB1.out)
  have hc1 : (w.alloc (.cells #[.string k] 9)).cell? ⟨w.heap.size, 0, none⟩ = some (.string k) := by simp [go_sem]
  have HOV := thid (over_ok HT1.out hr)
  have HH := thid H
  clear hA ht H
  have hmf : ∀ (fn : Fn) (first cap : Array Value) (w : World), (Instr.makeFunc fn first cap).run Tryz.prog w = .ok (.func fn first cap) w := fun _ _ _ _ => rfl
  go_enter Tryz.func33, Tryz.ntmps33
  go_wp2_with fail
  refine HOV.out.mono ?_
  rintro e w2 ⟨rfl, B2⟩
  have hl2 : w.heap.size < (w.alloc (.cells #[.string k] 9)).heap.size := by simp
  have hc2 := (B2.cell (p := ⟨w.heap.size, 0, none⟩) hl2).trans hc1
  have HB2 := thid (tbelow_on HB1.out B2)
  have HA2 := thid (L4.arSt.below HA1.out B2)
  have HT2 := thid (HT1.out.on B2)
  have hl3 : w.heap.size < w2.heap.size := Nat.lt_of_lt_of_le hl2 B2.size
  clear HOV B2 HA1 HT1 HB1 hc1 hl2
  have HC := thid (change_stop HA2.out HT2.out 55 (fun _ _ => rfl) #[.pointer (some ⟨w.heap.size, 0, none⟩)] (fun x W _ hb hE => by
    have hcW := (hb.cell (p := ⟨w.heap.size, 0, none⟩) hl3).trans hc2
    simpa using tdelete1_stop hcW (HH.out x W hE)))
  clear HA2 HT2 HH
  go_wp2_with fail
  refine HC.out.mono ?_
  rintro e w3 ⟨rfl, B3⟩
  have HF := thid (tbelow_on HB2.out B3)
  clear HC HB2 hmf B3
  go_wp2
  go_ret
  exact ⟨rfl, HF.out⟩

set_option maxRecDepth 100000 in
set_option maxHeartbeats 1000000 in
/-- Insert of no entry, or of one that is too long. -/
theorem tinsert_arg {s : Ar} {t r h l : Nat} {k : ByteArray} {w : World} (ht : TrC w t s.p r h l) (hr : r ≠ 0) (hk : k.size = 0 ∨ 400 < k.size) :
    Calls Tryz.prog 30 #[.pointer (some ⟨t, 0, none⟩), .string k] w fun e w' => e = .returned (.int .i64 15) ∧ Below w.heap.size w w' := by
  have HB1 := thid (tbelow w (.cells #[.string k] 9))
  have HT1 := thid (ht.on HB1.out)
  have hc1 : (w.alloc (.cells #[.string k] 9)).cell? ⟨w.heap.size, 0, none⟩ = some (.string k) := by simp [go_sem]
  have HOV := thid (over_ok HT1.out hr)
  clear ht
  go_enter Tryz.func30, Tryz.ntmps30
  go_wp2_with fail
  refine HOV.out.mono ?_
  rintro e w2 ⟨rfl, B2⟩
  have hl2 : w.heap.size < (w.alloc (.cells #[.string k] 9)).heap.size := by simp
  have hc2 := (B2.cell (p := ⟨w.heap.size, 0, none⟩) hl2).trans hc1
  have HB2 := thid (tbelow_on HB1.out B2)
  have hl3 : w.heap.size < w2.heap.size := Nat.lt_of_lt_of_le hl2 B2.size
  clear HOV B2 HT1 HB1 hc1 hl2
  rcases hk with h | h
  · have h1 : k.toList.isEmpty = true := by rw [L5.isEmpty_size]; exact decide_eq_true h
    clear h
    go_wp2
    go_ret
    exact ⟨rfl, HB2.out⟩
  · have h1 : k.toList.isEmpty = false := by rw [L5.isEmpty_size]; exact decide_eq_false (by omega)
    have h2 : decide (400 < (k.size : Int)) = true := by simp; omega
    go_wp2
    go_ret
    exact ⟨rfl, HB2.out⟩
end Go.Proofs.YtjocopclgehciaaGreatDoor
/-
  The document's side and Cut.
-/
namespace Go.Proofs.YtjocopclgehciaaGreatDoor.L5
open Go.RowKit

theorem weigh_wts (m : Nat) (l : List ByteArray) : weigh l + m * l.length = (wts (4 + m) l).sum := by
  induction l with
  | nil => simp [weigh, wts]
  | cons s l ih =>
    unfold weigh wts at ih ⊢
    simp only [List.map_cons, List.sum_cons, List.length_cons]
    rw [Nat.mul_add]
    omega

theorem weigh_take (m : Nat) (l : List ByteArray) (k : Nat) (hk : k ≤ l.length) : weigh (l.take k) + m * k = sumN (4 + m) l k := by
  have := weigh_wts m (l.take k)
  rw [List.length_take, Nat.min_eq_left hk] at this
  rw [this]
  unfold sumN wts
  rw [List.map_take]

theorem weigh_drop (m : Nat) (l : List ByteArray) (k : Nat) : weigh (l.drop k) + m * (l.length - k) = (wts (4 + m) l).sum - sumN (4 + m) l k := by
  have := weigh_wts m (l.drop k)
  rw [List.length_drop] at this
  rw [this]
  have h := sum_parts (wts (4 + m) l) k
  unfold sumN
  have e : wts (4 + m) (l.drop k) = (wts (4 + m) l).drop k := by unfold wts; rw [List.map_drop]
  rw [e]
  omega

/-- How heavy the heavier side is; -1: one of them has nothing. -/
def sideI (n : No) (k : Nat) : Int := if n.leaf then (heavy 4 0 n.recs k : Int) else if k + 1 < n.recs.length then (heavy 8 1 n.recs k : Int) else -1

end Go.Proofs.YtjocopclgehciaaGreatDoor.L5
