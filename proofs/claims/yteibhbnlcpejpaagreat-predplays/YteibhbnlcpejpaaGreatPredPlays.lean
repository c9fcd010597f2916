/-
  P17.1: PredPlays: whatever is added, cut and matched, in any order, an index answers just the conditions that are there and met, rising, and says how many there are; up to the statement's own bounds (60 operations): for every script.
-/
import Derived.Test.YteibhbnlcpejpaaGreatMBP
import Derived.Test.YteibhbnlcpejpaaGreatMBW
import Derived.Test.YteibhbnlcpejpaaGreatMCA
namespace Go.Proofs.YteibhbnlcpejpaaGreat
open Go.ChangeShapes Go.WideShapes Go.ChangeAt Go.RowKit

theorem predPlays_own : ownKnob Tryz.prog.godebug = none := by kernel_rfl
theorem predPlays_laidOut : laidOutB Tryz.prog = true := by kernel_rfl

set_option maxRecDepth 100000 in
theorem predPlays_lifted (os : Os) (started : os.Started) (H : Type) (enc : TypeId × Value → H) :
    ReturnsInHanded {} Tryz.checked os 4 .any (Rows.predPlaysSpec.pre6 enc Tryz.prog Tryz.f4 Rows.predPlaysRow.domain false) (Rows.predPlaysSpec.post enc Tryz.prog Tryz.f4 false true false false) := by
  refine returns_sized (C := Tryz.checked) predPlays_own started (by kernel_rfl) Tryz.func4
    (ChangeSpec.witness6 (enc := enc) (C := Tryz.checked) false ⟨#[], #[.slice none 0 0], []⟩ 8 (by kernel_rfl) (by kernel_rfl) (by kernel_rfl) (by kernel_rfl)) ?_
  intro W base args ds gs before hval0 hW hwt
  have hval : ∀ (j : Nat) t v, Tryz.f4.params[j]? = some t → args[j]? = some v → Value.okWide Tryz.prog W .any base t v := hval0
  have hW' := hW
  obtain ⟨p, q, hA0, hV, rfl, hfz, hnd⟩ := hW
  have hA : DataW.TrodAll enc Tryz.prog W 0 (fun _ => true) true Tryz.f4.params.toList args.toList ds p := hA0
  rw [Tryz.params4] at hA hval
  obtain ⟨v0, vs0, d0, ds0, p0, q0, hargs, rfl, rfl, h0, r0⟩ := trodAll_cons hA
  obtain ⟨rfl, rfl, rfl⟩ := trodAll_nil r0
  obtain rfl : args = #[v0] := by cases args; simp_all
  obtain ⟨rfl, rfl⟩ := trodVars_none hV
  have wts : ∀ (j : Nat) t d, [72][j]? = some t → [d0][j]? = some d → (DataW.weights Tryz.prog t d).all (fun x => decide (x ≤ reachBytes)) = true := nweights_at (by rw [List.append_nil] at hwt; exact hwt)
  have k0 := h0
  have lt0 : ∀ x ∈ p0, x.block < W.heap.size := by obtain ⟨m, hm⟩ := k0; exact DataW.trod_lt m _ _ _ hm
  obtain ⟨a, c, l, rfl, hl, hO, hS⟩ := open_ops (hval 0 72 v0 rfl rfl) h0 (wts 0 72 d0 rfl rfl)
  clear hA0 hval0
  simp only [List.append_nil] at hW'
  refine (predPlays_walk a c l W hS hO pawake_walk).mono fun e W' ⟨he, bel⟩ => ?_
  subst he
  exact ⟨_, rfl, _, _, _, [], _, [], hW', trodAll_mk1 (shut_bool Tryz.underlying4 _), (trodAll_cons_mk (Below.trod predPlays_laidOut (by kernel_rfl) (of_decide_eq_true (by kernel_rfl)) k0 bel lt0) trodAll_mk0), rfl, bel.frame _, fun h => by cases h⟩

theorem predPlays_over : Rows.predPlaysRow.holds Tryz.pinned (OpenSpec.ofChange Rows.predPlaysSpec) :=
  OpenClaim.holds_of_wide 4 Tryz.f4 rfl rfl rfl rfl rfl rfl rfl ⟨rfl, rfl, rfl, rfl, rfl⟩ rfl rfl rfl rfl rfl (by kernel_rfl) Tryz.func4 (by kernel_rfl)
    (of_decide_eq_true (by kernel_rfl)) (by unfold Func.isWrapper; first | (rw [if_pos (by decide +kernel)]; kernel_rfl) | (rw [if_neg (by decide +kernel)]; exact ⟨rfl, rfl⟩))
    (fun os started H enc _ => predPlays_lifted os started H enc)

theorem predPlays_holds : Rows.PredPlaysSaid := predPlays_over
#print axioms predPlays_holds
end Go.Proofs.YteibhbnlcpejpaaGreat
