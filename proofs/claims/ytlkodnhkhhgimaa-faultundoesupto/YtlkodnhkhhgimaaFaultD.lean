/-
  The walk of the statements' own example (awake).
-/
import Derived.Test.YtlkodnhkhhgimaaFaultC
namespace Go.Proofs.Ytlkodnhkhhgimaa
open Go.RowKit

theorem awake_inner (p : Addr) (w : World) : Calls Try.prog 23 #[.pointer (some p)] w fun e w' => e = .panicked (stopped 4 3) ∧ w' = w := by
  go_enter Try.func23, Try.ntmps23
  go_wp2_with (go_at_call 17; refine (stop_no _ _ rfl _).mono ?_; rintro e w' ⟨rfl, rfl⟩)
  exact ⟨rfl, rfl, rfl⟩

theorem calls_awake1 (args : Array Value) (w : World) : (callFunc 23 args).run Try.prog w = .ok (.enter 23 args) w := by
  simp [go_sem]

set_option maxHeartbeats 400000 in
theorem awake_any (w : World) : Calls Try.prog 7 #[] w fun e w' => e = .returned (.bool true) ∧ Below w.heap.size w w' := by
  have H := hide (catch_any 23 calls_awake1 #[.pointer (some ⟨w.heap.size, 0, none⟩)] (w.alloc (.cells #[.bool false] 4)) (fun _ => False) (fun _ _ x => x) (fun e w1 => e = .panicked (stopped 4 3) ∧ w1 = catchW (w.alloc (.cells #[.bool false] 4)))
    ((awake_inner _ _).mono (by rintro e w' ⟨rfl, rfl⟩; exact ⟨⟨rfl, rfl⟩, Only.refl _ _, _, _, _, .stop 4 3⟩)))
  have hmf : ∀ (fn : Fn) (first cap : Array Value) (w : World), (Instr.makeFunc fn first cap).run Try.prog w = .ok (.func fn first cap) w := fun _ _ _ _ => rfl
  go_enter Try.func7, Try.ntmps7
  go_wp2_with fail
  refine (unhide H).mono ?_
  rintro e w2 ⟨e1, w1, c, a, t, ⟨rfl, rfl⟩, hc, rfl, -, ho2⟩
  cases hc
  clear H
  have hw2 := ho2.size
  simp at hw2
  have hlt : w.heap.size < w2.heap.size := by omega
  have hd := ho2.cell (p := ⟨w.heap.size, 0, none⟩) (by simp; omega) (by simp; omega)
  simp [go_sem] at hd
  have hb : Below w.heap.size w w2 :=
    (((Below.refl _ _).alloc (Nat.le_refl _) _).trans ((below_catchW _).mono (by simp))).trans (ho2.below (by simp; omega) fun k hk => by simp; omega)
  clear ho2 hw2
  simp only [faultV]
  go_wp2
  go_ret
  exact ⟨rfl, hb.alloc (by omega) _⟩

end Go.Proofs.Ytlkodnhkhhgimaa
