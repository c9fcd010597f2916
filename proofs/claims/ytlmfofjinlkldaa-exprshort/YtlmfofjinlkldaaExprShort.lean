/-
  P16.1: ExprShort: what stands behind an and whose first part is false, or behind an or whose first part is true, isn't looked at: for every two nodes and rows.
-/
import Derived.Test.YtlmfofjinlkldaaEvT
import Derived.Test.YtlmfofjinlkldaaEvS
import Derived.Test.YtlmfofjinlkldaaEvN
namespace Go.Proofs.Ytlmfofjinlkldaa
open Go.ChangeShapes Go.WideShapes Go.ChangeAt Go.RowKit

theorem exprShort_own : ownKnob Try.prog.godebug = none := by kernel_rfl
theorem exprShort_laidOut : laidOutB Try.prog = true := by kernel_rfl

set_option maxRecDepth 100000 in
theorem exprShort_lifted (os : Os) (started : os.Started) (H : Type) (enc : TypeId × Value → H) :
    ReturnsInHanded {} Try.checked os 5 .any (Rows.exprShortSpec.pre6 enc Try.prog Try.f5 Rows.exprShortRow.domain false) (Rows.exprShortSpec.post enc Try.prog Try.f5 false true false false) := by
  refine returns_sized (C := Try.checked) exprShort_own started (by kernel_rfl) Try.func5
    (ChangeSpec.witness6 (enc := enc) (C := Try.checked) false ⟨#[], #[.agg #[.string ⟨#[]⟩, .int .i64 0, .int .i64 0, .string ⟨#[]⟩, .int .i64 0, .int .i64 0, .slice none 0 0], .agg #[.string ⟨#[]⟩, .int .i64 0, .int .i64 0, .string ⟨#[]⟩, .int .i64 0, .int .i64 0, .slice none 0 0], .slice none 0 0], []⟩ 8 (by kernel_rfl) (by kernel_rfl) (by kernel_rfl) (by kernel_rfl)) ?_
  intro W base args ds gs before hval0 hW hwt
  have hval : ∀ (j : Nat) t v, Try.f5.params[j]? = some t → args[j]? = some v → Value.okWide Try.prog W .any base t v := hval0
  have hW' := hW
  obtain ⟨p, q, hA0, hV, rfl, hfz, hnd⟩ := hW
  have hA : DataW.TrodAll enc Try.prog W 0 (fun _ => true) true Try.f5.params.toList args.toList ds p := hA0
  rw [Try.params5] at hA hval
  obtain ⟨v0, vs0, d0, ds0, p0, q0, hargs, rfl, rfl, h0, r0⟩ := trodAll_cons hA
  obtain ⟨v1, vs1, d1, ds1, p1, q1, rfl, rfl, rfl, h1, r1⟩ := trodAll_cons r0
  obtain ⟨v2, vs2, d2, ds2, p2, q2, rfl, rfl, rfl, h2, r2⟩ := trodAll_cons r1
  obtain ⟨rfl, rfl, rfl⟩ := trodAll_nil r2
  obtain rfl : args = #[v0, v1, v2] := by cases args; simp_all
  obtain ⟨rfl, rfl⟩ := trodVars_none hV
  have wts : ∀ (j : Nat) t d, [67, 67, 57][j]? = some t → [d0, d1, d2][j]? = some d → (DataW.weights Try.prog t d).all (fun x => decide (x ≤ reachBytes)) = true := nweights_at (by rw [List.append_nil] at hwt; exact hwt)
  have k0 := h0
  have k1 := h1
  have k2 := h2
  have lt0 : ∀ x ∈ p0, x.block < W.heap.size := by obtain ⟨m, hm⟩ := k0; exact DataW.trod_lt m _ _ _ hm
  have lt1 : ∀ x ∈ p1, x.block < W.heap.size := by obtain ⟨m, hm⟩ := k1; exact DataW.trod_lt m _ _ _ hm
  have lt2 : ∀ x ∈ p2, x.block < W.heap.size := by obtain ⟨m, hm⟩ := k2; exact DataW.trod_lt m _ _ _ hm
  obtain ⟨x0, rfl, hx0⟩ := open_n (hval 0 67 v0 rfl rfl) h0 (wts 0 67 d0 rfl rfl)
  obtain ⟨x1, rfl, hx1⟩ := open_n (hval 1 67 v1 rfl rfl) h1 (wts 1 67 d1 rfl rfl)
  obtain ⟨a2, c2, rs2, rfl, hR2, hF2⟩ := open_rowsN (hval 2 57 v2 rfl rfl) h2 (wts 2 57 d2 rfl rfl)
  clear hA0 hval0
  simp only [List.append_nil] at hW'
  refine (exprShort_walk x0 x1 W hx0 hx1 hR2 hF2 nawake_walk).mono fun e W' ⟨he, bel⟩ => ?_
  subst he
  exact ⟨_, rfl, _, _, _, [], _, [], hW', trodAll_mk1 (shut_bool Try.underlying4 _), (trodAll_cons_mk (Below.trod exprShort_laidOut (by kernel_rfl) (of_decide_eq_true (by kernel_rfl)) k0 bel lt0) (trodAll_cons_mk (Below.trod exprShort_laidOut (by kernel_rfl) (of_decide_eq_true (by kernel_rfl)) k1 bel lt1) (trodAll_cons_mk (Below.trod exprShort_laidOut (by kernel_rfl) (of_decide_eq_true (by kernel_rfl)) k2 bel lt2) trodAll_mk0))), rfl, bel.frame _, fun h => by cases h⟩

theorem exprShort_over : Rows.exprShortRow.holds Try.pinned (OpenSpec.ofChange Rows.exprShortSpec) :=
  OpenClaim.holds_of_wide 5 Try.f5 rfl rfl rfl rfl rfl rfl rfl ⟨rfl, rfl, rfl, rfl, rfl⟩ rfl rfl rfl rfl rfl (by kernel_rfl) Try.func5 (by kernel_rfl)
    (of_decide_eq_true (by kernel_rfl)) (by unfold Func.isWrapper; first | (rw [if_pos (by decide +kernel)]; kernel_rfl) | (rw [if_neg (by decide +kernel)]; exact ⟨rfl, rfl⟩))
    (fun os started H enc _ => exprShort_lifted os started H enc)

theorem exprShort_holds : Rows.ExprShortSaid := exprShort_over
#print axioms exprShort_holds
end Go.Proofs.Ytlmfofjinlkldaa
