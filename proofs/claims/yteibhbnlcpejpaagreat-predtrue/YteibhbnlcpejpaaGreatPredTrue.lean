/-
  P17.2: PredTrue: of safe nodes that were checked, a row that fits meets their condition just if they are all true of it, and none of them has an error; up to the statement's own bounds: for every table, condition and row.
-/
import Derived.Test.YteibhbnlcpejpaaGreatMBB
import Derived.Test.YteibhbnlcpejpaaGreatMBZ
import Derived.Test.YteibhbnlcpejpaaGreatMCA
namespace Go.Proofs.YteibhbnlcpejpaaGreat
open Go.ChangeShapes Go.WideShapes Go.ChangeAt Go.RowKit

theorem predTrue_own : ownKnob Tryz.prog.godebug = none := by kernel_rfl
theorem predTrue_laidOut : laidOutB Tryz.prog = true := by kernel_rfl

set_option maxRecDepth 100000 in
theorem predTrue_lifted (os : Os) (started : os.Started) (H : Type) (enc : TypeId × Value → H) :
    ReturnsInHanded {} Tryz.checked os 5 .any (Rows.predTrueSpec.pre6 enc Tryz.prog Tryz.f5 Rows.predTrueRow.domain false) (Rows.predTrueSpec.post enc Tryz.prog Tryz.f5 false true false false) := by
  refine returns_sized (C := Tryz.checked) predTrue_own started (by kernel_rfl) Tryz.func5
    (ChangeSpec.witness6 (enc := enc) (C := Tryz.checked) false ⟨#[], #[.agg #[.string ⟨#[]⟩, .slice none 0 0], .slice none 0 0, .slice none 0 0], []⟩ 8 (by kernel_rfl) (by kernel_rfl) (by kernel_rfl) (by kernel_rfl)) ?_
  intro W base args ds gs before hval0 hW hwt
  have hval : ∀ (j : Nat) t v, Tryz.f5.params[j]? = some t → args[j]? = some v → Value.okWide Tryz.prog W .any base t v := hval0
  have hW' := hW
  obtain ⟨p, q, hA0, hV, rfl, hfz, hnd⟩ := hW
  have hA : DataW.TrodAll enc Tryz.prog W 0 (fun _ => true) true Tryz.f5.params.toList args.toList ds p := hA0
  rw [Tryz.params5] at hA hval
  obtain ⟨v0, vs0, d0, ds0, p0, q0, hargs, rfl, rfl, h0, r0⟩ := trodAll_cons hA
  obtain ⟨v1, vs1, d1, ds1, p1, q1, rfl, rfl, rfl, h1, r1⟩ := trodAll_cons r0
  obtain ⟨v2, vs2, d2, ds2, p2, q2, rfl, rfl, rfl, h2, r2⟩ := trodAll_cons r1
  obtain ⟨rfl, rfl, rfl⟩ := trodAll_nil r2
  obtain rfl : args = #[v0, v1, v2] := by cases args; simp_all
  obtain ⟨rfl, rfl⟩ := trodVars_none hV
  have wts : ∀ (j : Nat) t d, [96, 28, 79][j]? = some t → [d0, d1, d2][j]? = some d → (DataW.weights Tryz.prog t d).all (fun x => decide (x ≤ reachBytes)) = true := nweights_at (by rw [List.append_nil] at hwt; exact hwt)
  have k0 := h0
  have k1 := h1
  have k2 := h2
  have lt0 : ∀ x ∈ p0, x.block < W.heap.size := by obtain ⟨m, hm⟩ := k0; exact DataW.trod_lt m _ _ _ hm
  have lt1 : ∀ x ∈ p1, x.block < W.heap.size := by obtain ⟨m, hm⟩ := k1; exact DataW.trod_lt m _ _ _ hm
  have lt2 : ∀ x ∈ p2, x.block < W.heap.size := by obtain ⟨m, hm⟩ := k2; exact DataW.trod_lt m _ _ _ hm
  obtain ⟨t, rfl, g1, g2, g3, g4⟩ := open_tab (hval 0 96 v0 rfl rfl) h0 (wts 0 96 d0 rfl rfl)
  obtain ⟨xa, xc, xs, rfl, gS, gX⟩ := open_xs (hval 1 28 v1 rfl rfl) h1 (wts 1 28 d1 rfl rfl)
  obtain ⟨a1, c1, l1, rfl, hF1, hR1⟩ := open_vs (hval 2 79 v2 rfl rfl) h2 (wts 2 79 d2 rfl rfl)
  clear hA0 hval0
  simp only [List.append_nil] at hW'
  refine (predTrue_walk t xs ⟨a1, c1, l1⟩ g1 g2 g3 g4 gS gX hR1 hF1 pawake_walk).mono fun e W' ⟨he, bel⟩ => ?_
  subst he
  exact ⟨_, rfl, _, _, _, [], _, [], hW', trodAll_mk1 (shut_bool Tryz.underlying4 _), (trodAll_cons_mk (Below.trod predTrue_laidOut (by kernel_rfl) (of_decide_eq_true (by kernel_rfl)) k0 bel lt0) (trodAll_cons_mk (Below.trod predTrue_laidOut (by kernel_rfl) (of_decide_eq_true (by kernel_rfl)) k1 bel lt1) (trodAll_cons_mk (Below.trod predTrue_laidOut (by kernel_rfl) (of_decide_eq_true (by kernel_rfl)) k2 bel lt2) trodAll_mk0))), rfl, bel.frame _, fun h => by cases h⟩

theorem predTrue_over : Rows.predTrueRow.holds Tryz.pinned (OpenSpec.ofChange Rows.predTrueSpec) :=
  OpenClaim.holds_of_wide 5 Tryz.f5 rfl rfl rfl rfl rfl rfl rfl ⟨rfl, rfl, rfl, rfl, rfl⟩ rfl rfl rfl rfl rfl (by kernel_rfl) Tryz.func5 (by kernel_rfl)
    (of_decide_eq_true (by kernel_rfl)) (by unfold Func.isWrapper; first | (rw [if_pos (by decide +kernel)]; kernel_rfl) | (rw [if_neg (by decide +kernel)]; exact ⟨rfl, rfl⟩))
    (fun os started H enc _ => predTrue_lifted os started H enc)

theorem predTrue_holds : Rows.PredTrueSaid := predTrue_over
#print axioms predTrue_holds
end Go.Proofs.YteibhbnlcpejpaaGreat
