/-
  Tree: New without an arena.
-/
import Derived.Test.YtjdbjnkmlajdoaaGreatTrBk
namespace Go.Proofs.YtjdbjnkmlajdoaaGreat
open Go.RowKit
open L4 (Ar ArP Abs arV nv)
open L1 (stopped faultV Came undoW)

/-- A state that owns nothing. -/
def nothing : L4.St Unit where
  own := fun _ _ => False
  P := fun _ _ => True
  keep := fun _ _ _ _ _ _ => trivial
  lt := fun _ _ _ _ h => h.elim
  tag := fun _ _ _ _ _ h => h.elim

theorem nothing_moves {w w' : World} (h : Below w.heap.size w w') : L4.Moves nothing () () w w' := ⟨Only.of_below h, fun _ h => h.elim⟩

theorem nothing_below {w w' : World} (h : L4.Moves nothing () () w w') : Below w.heap.size w w' := h.only.below (Nat.le_refl _) fun _ _ x => x

theorem stopped_inj {c a c' a' : Int} (h : Ending.panicked (stopped c a) = .panicked (stopped c' a')) : c = c' ∧ a = a' := by
  simp only [Ending.panicked.injEq, stopped, List.cons.injEq, PanicEntry.mk.injEq, Value.iface.injEq, faultV, Value.agg.injEq] at h
  simpa using h

set_option maxRecDepth 100000 in
set_option maxHeartbeats 1000000 in
theorem change_nil {t : Nat} {w : World} (ht : w.heap[t]? = some (.cells #[.pointer none, .int .i64 0, .int .i64 0, .int .i64 0] 83 (0, 0))) :
    Calls Tryz.prog 43 #[.pointer (some ⟨t, 0, none⟩), .func (.func 44) #[] #[]] w fun e w' => e = .returned (.int .i64 15) ∧ Below w.heap.size w w' := by
  have c1 : w.cell? ⟨t, 1, none⟩ = some (.int .i64 0) := by rw [cell_of_row _ _ _ _ _ _ ht]; rfl
  have c2 : w.cell? ⟨t, 2, none⟩ = some (.int .i64 0) := by rw [cell_of_row _ _ _ _ _ _ ht]; rfl
  have c3 : w.cell? ⟨t, 3, none⟩ = some (.int .i64 0) := by rw [cell_of_row _ _ _ _ _ _ ht]; rfl
  have ct := (Array.getElem?_eq_some_iff.1 ht).1
  have HT := thid ht
  clear ht
  have hmf : ∀ (fn : Fn) (first cap : Array Value) (w : World), (Instr.makeFunc fn first cap).run Tryz.prog w = .ok (.func fn first cap) w := fun _ _ _ _ => rfl
  go_enter Tryz.func43, Tryz.ntmps43
  go_wp2_with fail
  have B3 : Below w.heap.size w (((w.alloc (.cells #[.func (.func 44) #[] #[]] 92)).alloc (.cells #[.pointer (some ⟨t, 0, none⟩), .int .i64 0, .int .i64 0, .int .i64 0, .slice none 0 0, .slice none 0 0, .slice none 0 0] 88)).alloc (.cells #[.pointer (some ⟨w.heap.size + 1, 0, none⟩)] 85)) := ((tbelow w _).alloc (by simp) _).alloc (by simp; omega) _
  have z3 : (((w.alloc (.cells #[.func (.func 44) #[] #[]] 92)).alloc (.cells #[.pointer (some ⟨t, 0, none⟩), .int .i64 0, .int .i64 0, .int .i64 0, .slice none 0 0, .slice none 0 0, .slice none 0 0] 88)).alloc (.cells #[.pointer (some ⟨w.heap.size + 1, 0, none⟩)] 85)).heap.size = w.heap.size + 3 := by simp
  have k0 : (((w.alloc (.cells #[.func (.func 44) #[] #[]] 92)).alloc (.cells #[.pointer (some ⟨t, 0, none⟩), .int .i64 0, .int .i64 0, .int .i64 0, .slice none 0 0, .slice none 0 0, .slice none 0 0] 88)).alloc (.cells #[.pointer (some ⟨w.heap.size + 1, 0, none⟩)] 85)).cell? ⟨w.heap.size, 0, none⟩ = some (.func (.func 44) #[] #[]) := by simp [go_sem]
  have k1 : EdC (((w.alloc (.cells #[.func (.func 44) #[] #[]] 92)).alloc (.cells #[.pointer (some ⟨t, 0, none⟩), .int .i64 0, .int .i64 0, .int .i64 0, .slice none 0 0, .slice none 0 0, .slice none 0 0] 88)).alloc (.cells #[.pointer (some ⟨w.heap.size + 1, 0, none⟩)] 85)) (w.heap.size + 1) t 0 0 0 (.slice none 0 0) (.slice none 0 0) (.slice none 0 0) := by
    have h1 := heap_alloc_new (w.alloc (.cells #[.func (.func 44) #[] #[]] 92)) (.cells #[.pointer (some ⟨t, 0, none⟩), .int .i64 0, .int .i64 0, .int .i64 0, .slice none 0 0, .slice none 0 0, .slice none 0 0] 88)
    rw [show (w.alloc (.cells #[.func (.func 44) #[] #[]] 92)).heap.size = w.heap.size + 1 by simp] at h1
    exact ((tbelow _ _).block _ (by simp)).trans h1
  have k2 : (((w.alloc (.cells #[.func (.func 44) #[] #[]] 92)).alloc (.cells #[.pointer (some ⟨t, 0, none⟩), .int .i64 0, .int .i64 0, .int .i64 0, .slice none 0 0, .slice none 0 0, .slice none 0 0] 88)).alloc (.cells #[.pointer (some ⟨w.heap.size + 1, 0, none⟩)] 85)).cell? ⟨w.heap.size + 1 + 1, 0, none⟩ = some (.pointer (some ⟨w.heap.size + 1, 0, none⟩)) := by simp [go_sem]
  have HB3 := thid B3
  have HK1 := thid k1
  clear B3 k1 c1 c2 c3 hmf
  generalize ((w.alloc (.cells #[.func (.func 44) #[] #[]] 92)).alloc (.cells #[.pointer (some ⟨t, 0, none⟩), .int .i64 0, .int .i64 0, .int .i64 0, .slice none 0 0, .slice none 0 0, .slice none 0 0] 88)).alloc (.cells #[.pointer (some ⟨w.heap.size + 1, 0, none⟩)] 85) = W at *
  have HE : Hid (EdN W (w.heap.size + 1) t) := ⟨HK1.out, (HB3.out.block t ct).trans HT.out⟩
  have HU := thid (L1.below_catchW W : Below W.heap.size W (undoW W))
  refine (L4.undo_st nothing 72 (fun _ _ => rfl) _ 74 (fun _ _ => rfl) _ W () trivial (fun e _ => e = .panicked (stopped 15 0)) (fun _ e _ => e = .returned (.tuple #[])) ?_ ?_).mono ?_
  · refine (change1_nil (HE.out.on HU.out) ((HU.out.cell (p := ⟨w.heap.size, 0, none⟩) (by show w.heap.size < W.heap.size; omega)).trans k0) ((HU.out.cell (p := ⟨w.heap.size + 1 + 1, 0, none⟩) (by show w.heap.size + 1 + 1 < W.heap.size; omega)).trans k2)).mono ?_
    rintro e w1 ⟨rfl, B⟩
    exact ⟨(), rfl, trivial, nothing_moves B, _, _, _, .stop 15 0⟩
  · intro W2 s' c a _ _ hm
    refine (back_nil (HE.out.on (nothing_below hm))).mono ?_
    rintro e w1 ⟨rfl, B⟩
    exact ⟨(), rfl, trivial, nothing_moves B, _, _, _, .done⟩
  · rintro e w2 ⟨_, _, hm, h⟩
    have HB4 := thid (tbelow_on HB3.out (nothing_below hm))
    have he : e = .returned (faultV 15 0) := by
      rcases h with ⟨h, _⟩ | ⟨c, a, s1, e2, c2, a2, t2, h1, h2, h3, rfl⟩
      · cases h
      · obtain ⟨rfl, rfl⟩ := stopped_inj h1
        subst h2
        cases h3
        rfl
    subst he
    clear h hm HE HU HB3 HK1 k0 k2 HT
    simp only [faultV]
    have ff := fun w => ffield 15 0 w
    go_wp2
    refine bodyPost_ret (v := .int .i64 15) (by simp [results, Tryz.results43, go_sem]) rfl ⟨rfl, HB4.out⟩

set_option maxRecDepth 100000 in
set_option maxHeartbeats 1000000 in
theorem new_nil (w : World) : Calls Tryz.prog 14 #[.pointer none] w fun e w' => e = .returned (.tuple #[.pointer none, .int .i64 15]) ∧ Below w.heap.size w w' := by
  have HB := thid (tbelow w (.cells #[.pointer none, .int .i64 0, .int .i64 0, .int .i64 0] 83))
  have HC := thid (change_nil (w := w.alloc (.cells #[.pointer none, .int .i64 0, .int .i64 0, .int .i64 0] 83)) (heap_alloc_new _ _))
  have hmf : ∀ (fn : Fn) (first cap : Array Value) (w : World), (Instr.makeFunc fn first cap).run Tryz.prog w = .ok (.func fn first cap) w := fun _ _ _ _ => rfl
  go_enter Tryz.func14, Tryz.ntmps14
  go_wp2_with fail
  refine HC.out.mono ?_
  rintro e w1 ⟨rfl, B1⟩
  have HF := thid (tbelow_on HB.out B1)
  clear HC HB hmf B1
  go_wp2
  refine bodyPost_ret (v := .tuple #[.pointer none, .int .i64 15]) (by simp [results, Tryz.results14, go_sem]) rfl ⟨rfl, HF.out⟩
end Go.Proofs.YtjdbjnkmlajdoaaGreat
