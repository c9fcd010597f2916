/-
  P17.1: PredMeets: whether a row meets a condition is what the document's own Meets says of it, up to the statement's own bounds: for every condition (also one that Of didn't make) and every row.
-/
import Derived.Test.YtdaikppppkbfoaaMAL
import Derived.Test.YtdaikppppkbfoaaMCA
namespace Go.Proofs.Ytdaikppppkbfoaa
open Go.ChangeShapes Go.WideShapes Go.ChangeAt Go.RowKit

theorem predMeets_own : ownKnob Try.prog.godebug = none := by kernel_rfl
theorem predMeets_laidOut : laidOutB Try.prog = true := by kernel_rfl

set_option maxRecDepth 100000 in
theorem predMeets_lifted (os : Os) (started : os.Started) (H : Type) (enc : TypeId × Value → H) :
    ReturnsInHanded {} Try.checked os 5 .any (Rows.predMeetsSpec.pre6 enc Try.prog Try.f5 Rows.predMeetsRow.domain false) (Rows.predMeetsSpec.post enc Try.prog Try.f5 false true false false) := by
  refine returns_sized (C := Try.checked) predMeets_own started (by kernel_rfl) Try.func5
    (ChangeSpec.witness6 (enc := enc) (C := Try.checked) false ⟨#[], #[.agg #[.slice none 0 0, .slice none 0 0], .slice none 0 0], []⟩ 8 (by kernel_rfl) (by kernel_rfl) (by kernel_rfl) (by kernel_rfl)) ?_
  intro W base args ds gs before hval0 hW hwt
  have hval : ∀ (j : Nat) t v, Try.f5.params[j]? = some t → args[j]? = some v → Value.okWide Try.prog W .any base t v := hval0
  have hW' := hW
  obtain ⟨p, q, hA0, hV, rfl, hfz, hnd⟩ := hW
  have hA : DataW.TrodAll enc Try.prog W 0 (fun _ => true) true Try.f5.params.toList args.toList ds p := hA0
  rw [Try.params5] at hA hval
  obtain ⟨v0, vs0, d0, ds0, p0, q0, hargs, rfl, rfl, h0, r0⟩ := trodAll_cons hA
  obtain ⟨v1, vs1, d1, ds1, p1, q1, rfl, rfl, rfl, h1, r1⟩ := trodAll_cons r0
  obtain ⟨rfl, rfl, rfl⟩ := trodAll_nil r1
  obtain rfl : args = #[v0, v1] := by cases args; simp_all
  obtain ⟨rfl, rfl⟩ := trodVars_none hV
  have wts : ∀ (j : Nat) t d, [78, 65][j]? = some t → [d0, d1][j]? = some d → (DataW.weights Try.prog t d).all (fun x => decide (x ≤ reachBytes)) = true := nweights_at (by rw [List.append_nil] at hwt; exact hwt)
  have k0 := h0
  have k1 := h1
  have lt0 : ∀ x ∈ p0, x.block < W.heap.size := by obtain ⟨m, hm⟩ := k0; exact DataW.trod_lt m _ _ _ hm
  have lt1 : ∀ x ∈ p1, x.block < W.heap.size := by obtain ⟨m, hm⟩ := k1; exact DataW.trod_lt m _ _ _ hm
  obtain ⟨k, rfl, hI⟩ := open_cd (hval 0 78 v0 rfl rfl) h0 (wts 0 78 d0 rfl rfl)
  obtain ⟨a1, c1, l1, rfl, hF1, hR1⟩ := open_vs (hval 1 65 v1 rfl rfl) h1 (wts 1 65 d1 rfl rfl)
  clear hA0 hval0
  simp only [List.append_nil] at hW'
  refine (predMeets_walk k ⟨a1, c1, l1⟩ W hI hR1 hF1 pawake_walk).mono fun e W' ⟨he, bel⟩ => ?_
  subst he
  exact ⟨_, rfl, _, _, _, [], _, [], hW', trodAll_mk1 (shut_bool Try.underlying4 _), (trodAll_cons_mk (Below.trod predMeets_laidOut (by kernel_rfl) (of_decide_eq_true (by kernel_rfl)) k0 bel lt0) (trodAll_cons_mk (Below.trod predMeets_laidOut (by kernel_rfl) (of_decide_eq_true (by kernel_rfl)) k1 bel lt1) trodAll_mk0)), rfl, bel.frame _, fun h => by cases h⟩

theorem predMeets_over : Rows.predMeetsRow.holds Try.pinned (OpenSpec.ofChange Rows.predMeetsSpec) :=
  OpenClaim.holds_of_wide 5 Try.f5 rfl rfl rfl rfl rfl rfl rfl ⟨rfl, rfl, rfl, rfl, rfl⟩ rfl rfl rfl rfl rfl (by kernel_rfl) Try.func5 (by kernel_rfl)
    (of_decide_eq_true (by kernel_rfl)) (by unfold Func.isWrapper; first | (rw [if_pos (by decide +kernel)]; kernel_rfl) | (rw [if_neg (by decide +kernel)]; exact ⟨rfl, rfl⟩))
    (fun os started H enc _ => predMeets_lifted os started H enc)

theorem predMeets_holds : Rows.PredMeetsSaid := predMeets_over
#print axioms predMeets_holds
end Go.Proofs.Ytdaikppppkbfoaa
