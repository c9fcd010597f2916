/-
  caught, over a method that is bound to its receiver.
-/
import Derived.Test.YtjdbjnkmlajdoaaGreatFaultB
namespace Go.Proofs.YtjdbjnkmlajdoaaGreat.L1
open Go.RowKit

set_option maxHeartbeats 400000 in
theorem caught_bound (g : FuncId) (hg : ∀ args w, (callFunc g args).run Tryz.prog w = .ok (.enter g args) w) (r : Value) (w : World) (S : Nat → Prop) (hS : ¬ S w.heap.size) (hS' : ¬ S (w.heap.size + 1)) (R : Ending → World → Prop)
    (h : Calls Tryz.prog g #[r] (caughtW w) fun e w1 => R e w1 ∧ Only S (caughtW w) w1 ∧ ∃ c a t, Came e c a t) :
    Calls Tryz.prog 77 #[.func (.func g) #[r] #[]] w fun e w' => ∃ e1 w1 c a t, R e1 w1 ∧ Came e1 c a t ∧ e = .returned (.tuple #[faultV c a, .bool t]) ∧ Only S (caughtW w) w1 ∧
      w'.heap.size = w1.heap.size ∧ Only (fun k => k = w.heap.size ∨ k = w.heap.size + 1) w1 w' := by
  have hmf : ∀ (fn : Fn) (first cap : Array Value) (w : World), (Instr.makeFunc fn first cap).run Tryz.prog w = .ok (.func fn first cap) w := fun _ _ _ _ => rfl
  go_enter_defers Tryz.func77, Tryz.ntmps77
  have H := hide h
  clear h
  go_wp2_with fail
  refine (unhide H).mono ?_
  rintro e w1 ⟨hR, ho, c, a, t, hc⟩
  obtain ⟨z0, z1, z2, y0, y1, y2, hz⟩ := caughtW_cells ho hS hS'
  cases hc with
  | done =>
    go_wp2
    refine leaves_cons (f := 100) (args := #[.pointer (some ⟨w.heap.size, 0, none⟩), .pointer (some ⟨w.heap.size + 1, 0, none⟩)]) (by simp) (by simp [go_sem]) ?_
    refine (met_idle _ _ _).mono ?_
    rintro e u' w'' ⟨rfl, rfl, rfl⟩
    refine ⟨.tuple #[faultV 0 0, .bool false], ?_, _, w1, 0, 0, false, hR, .done, rfl, ho, by simp, ?_⟩
    · simp [results, Tryz.results77, go_sem, z0, z1, z2, faultV]
    · exact (((Only.refl _ _).setCell (Or.inr (Or.inl rfl)) _).setCell (Or.inr (Or.inl rfl)) _).setCell (Or.inr (Or.inr rfl)) _
  | stop =>
    refine leaves_cons (f := 100) (args := #[.pointer (some ⟨w.heap.size, 0, none⟩), .pointer (some ⟨w.heap.size + 1, 0, none⟩)]) (by simp) (by simp [go_sem]) ?_
    refine (met_stop _ _ c a _ _ _ [] _ z0 z1 z2 y0 y1 y2 (by omega)).mono ?_
    rintro e u' w'' ⟨rfl, rfl, rfl⟩
    refine ⟨.tuple #[faultV c a, .bool true], ?_, _, w1, c, a, true, hR, .stop c a, rfl, ho, by simp, ?_⟩
    · simp [results, Tryz.results77, go_sem, z0, z1, z2, faultV]
    · exact (((Only.refl _ _).setCell (Or.inr (Or.inl rfl)) _).setCell (Or.inr (Or.inl rfl)) _).setCell (Or.inr (Or.inr rfl)) _

end Go.Proofs.YtjdbjnkmlajdoaaGreat.L1
