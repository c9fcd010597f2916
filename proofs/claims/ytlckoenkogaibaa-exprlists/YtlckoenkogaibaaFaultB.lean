/-
  The walks of package fault: caught, over any function value that returns or stops.
-/
import Derived.Test.YtlckoenkogaibaaFaultA
import Derived.Test.YtlckoenkogaibaaOnly
namespace Go.Proofs.Ytlckoenkogaibaa
open Go.RowKit

/-- The world in which caught calls its function. -/
abbrev caughtW (w : World) : World := (w.alloc (.cells #[.int .i64 0, .int .i64 0] 55)).alloc (.cells #[.bool false] 4)

/-- What became of a call of a function value without parameters, results: it came to its end, or it stopped. -/
inductive Came : Ending → Int → Int → Bool → Prop
  | done : Came (.returned (.tuple #[])) 0 0 false
  | stop (c a : Int) : Came (.panicked (stopped c a)) c a true

theorem hide {p : Prop} (h : p) : Hid p := h
theorem unhide {p : Prop} (h : Hid p) : p := h

theorem caughtW_cells {w w1 : World} {S : Nat → Prop} (ho : Only S (caughtW w) w1) (hS : ¬ S w.heap.size) (hS' : ¬ S (w.heap.size + 1)) :
    w1.cell? ⟨w.heap.size, 0, none⟩ = some (.int .i64 0) ∧ w1.cell? ⟨w.heap.size, 1, none⟩ = some (.int .i64 0) ∧ w1.cell? ⟨w.heap.size + 1, 0, none⟩ = some (.bool false) ∧
    w1.frozen? ⟨w.heap.size, 0, none⟩ = false ∧ w1.frozen? ⟨w.heap.size, 1, none⟩ = false ∧ w1.frozen? ⟨w.heap.size + 1, 0, none⟩ = false ∧ w.heap.size + 1 < w1.heap.size := by
  have hz := ho.size
  simp at hz
  refine ⟨?_, ?_, ?_, ?_, ?_, ?_, by omega⟩
  · rw [ho.cell (by simp; omega) hS]; simp [go_sem]
  · rw [ho.cell (by simp; omega) hS]; simp [go_sem]
  · rw [ho.cell (by simp) hS']; simp [go_sem]
  · rw [ho.frozen (by simp; omega) hS]; simp [go_sem]
  · rw [ho.frozen (by simp; omega) hS]; simp [go_sem]
  · rw [ho.frozen (by simp) hS']; simp [go_sem]

set_option maxHeartbeats 400000 in
theorem caught_any (g : FuncId) (hg : ∀ args w, (callFunc g args).run Try.prog w = .ok (.enter g args) w) (cap : Array Value) (w : World) (S : Nat → Prop) (hS : ¬ S w.heap.size) (hS' : ¬ S (w.heap.size + 1)) (R : Ending → World → Prop)
    (h : Calls Try.prog g cap (caughtW w) fun e w1 => R e w1 ∧ Only S (caughtW w) w1 ∧ ∃ c a t, Came e c a t) :
    Calls Try.prog 37 #[.func (.func g) #[] cap] w fun e w' => ∃ e1 w1 c a t, R e1 w1 ∧ Came e1 c a t ∧ e = .returned (.tuple #[faultV c a, .bool t]) ∧ Only S (caughtW w) w1 ∧
      w'.heap.size = w1.heap.size ∧ Only (fun k => k = w.heap.size ∨ k = w.heap.size + 1) w1 w' := by
  have hmf : ∀ (fn : Fn) (first cap : Array Value) (w : World), (Instr.makeFunc fn first cap).run Try.prog w = .ok (.func fn first cap) w := fun _ _ _ _ => rfl
  go_enter_defers Try.func37, Try.ntmps37
  have H := hide h
  clear h
  go_wp2_with fail
  refine (unhide H).mono ?_
  rintro e w1 ⟨hR, ho, c, a, t, hc⟩
  obtain ⟨z0, z1, z2, y0, y1, y2, hz⟩ := caughtW_cells ho hS hS'
  cases hc with
  | done =>
    go_wp2
    refine leaves_cons (f := 55) (args := #[.pointer (some ⟨w.heap.size, 0, none⟩), .pointer (some ⟨w.heap.size + 1, 0, none⟩)]) (by simp) (by simp [go_sem]) ?_
    refine (met_idle _ _ _).mono ?_
    rintro e u' w'' ⟨rfl, rfl, rfl⟩
    refine ⟨.tuple #[faultV 0 0, .bool false], ?_, _, w1, 0, 0, false, hR, .done, rfl, ho, by simp, ?_⟩
    · simp [results, Try.results37, go_sem, z0, z1, z2, faultV]
    · exact (((Only.refl _ _).setCell (Or.inr (Or.inl rfl)) _).setCell (Or.inr (Or.inl rfl)) _).setCell (Or.inr (Or.inr rfl)) _
  | stop =>
    refine leaves_cons (f := 55) (args := #[.pointer (some ⟨w.heap.size, 0, none⟩), .pointer (some ⟨w.heap.size + 1, 0, none⟩)]) (by simp) (by simp [go_sem]) ?_
    refine (met_stop _ _ c a _ _ _ [] _ z0 z1 z2 y0 y1 y2 (by omega)).mono ?_
    rintro e u' w'' ⟨rfl, rfl, rfl⟩
    refine ⟨.tuple #[faultV c a, .bool true], ?_, _, w1, c, a, true, hR, .stop c a, rfl, ho, by simp, ?_⟩
    · simp [results, Try.results37, go_sem, z0, z1, z2, faultV]
    · exact (((Only.refl _ _).setCell (Or.inr (Or.inl rfl)) _).setCell (Or.inr (Or.inl rfl)) _).setCell (Or.inr (Or.inr rfl)) _

end Go.Proofs.Ytlckoenkogaibaa
