/-
  P16.1: ExprLists: whether all nodes of a list are true, from the left, and the row that they make, or the first error, are what the document's own All and Row say, up to the statement's own bounds: for every list of nodes and rows.
-/
import Derived.Test.YtlckoenkogaibaaEvT
import Derived.Test.YtlckoenkogaibaaErI
import Derived.Test.YtlckoenkogaibaaEvN
namespace Go.Proofs.Ytlckoenkogaibaa
open Go.ChangeShapes Go.WideShapes Go.ChangeAt Go.RowKit

theorem exprLists_own : ownKnob Try.prog.godebug = none := by kernel_rfl
theorem exprLists_laidOut : laidOutB Try.prog = true := by kernel_rfl

set_option maxRecDepth 100000 in
theorem exprLists_lifted (os : Os) (started : os.Started) (H : Type) (enc : TypeId × Value → H) :
    ReturnsInHanded {} Try.checked os 4 .any (Rows.exprListsSpec.pre6 enc Try.prog Try.f4 Rows.exprListsRow.domain false) (Rows.exprListsSpec.post enc Try.prog Try.f4 false true false false) := by
  refine returns_sized (C := Try.checked) exprLists_own started (by kernel_rfl) Try.func4
    (ChangeSpec.witness6 (enc := enc) (C := Try.checked) false ⟨#[], #[.slice none 0 0, .slice none 0 0], []⟩ 8 (by kernel_rfl) (by kernel_rfl) (by kernel_rfl) (by kernel_rfl)) ?_
  intro W base args ds gs before hval0 hW hwt
  have hval : ∀ (j : Nat) t v, Try.f4.params[j]? = some t → args[j]? = some v → Value.okWide Try.prog W .any base t v := hval0
  have hW' := hW
  obtain ⟨p, q, hA0, hV, rfl, hfz, hnd⟩ := hW
  have hA : DataW.TrodAll enc Try.prog W 0 (fun _ => true) true Try.f4.params.toList args.toList ds p := hA0
  rw [Try.params4] at hA hval
  obtain ⟨v0, vs0, d0, ds0, p0, q0, hargs, rfl, rfl, h0, r0⟩ := trodAll_cons hA
  obtain ⟨v1, vs1, d1, ds1, p1, q1, rfl, rfl, rfl, h1, r1⟩ := trodAll_cons r0
  obtain ⟨rfl, rfl, rfl⟩ := trodAll_nil r1
  obtain rfl : args = #[v0, v1] := by cases args; simp_all
  obtain ⟨rfl, rfl⟩ := trodVars_none hV
  have wts : ∀ (j : Nat) t d, [24, 27][j]? = some t → [d0, d1][j]? = some d → (DataW.weights Try.prog t d).all (fun x => decide (x ≤ reachBytes)) = true := nweights_at (by rw [List.append_nil] at hwt; exact hwt)
  have k0 := h0
  have k1 := h1
  have lt0 : ∀ x ∈ p0, x.block < W.heap.size := by obtain ⟨m, hm⟩ := k0; exact DataW.trod_lt m _ _ _ hm
  have lt1 : ∀ x ∈ p1, x.block < W.heap.size := by obtain ⟨m, hm⟩ := k1; exact DataW.trod_lt m _ _ _ hm
  obtain ⟨a0, c0, l0, rfl, hl0, hS0, hI0⟩ := open_ns (hval 0 24 v0 rfl rfl) h0 (wts 0 24 d0 rfl rfl)
  obtain ⟨a1, c1, rs1, rfl, hR1, hF1⟩ := open_rowsN (hval 1 27 v1 rfl rfl) h1 (wts 1 27 d1 rfl rfl)
  clear hA0 hval0
  simp only [List.append_nil] at hW'
  refine (exprLists_walk W hS0 hI0 hl0 hR1 hF1 nawake_walk).mono fun e W' ⟨he, bel⟩ => ?_
  subst he
  exact ⟨_, rfl, _, _, _, [], _, [], hW', trodAll_mk1 (shut_bool Try.underlying4 _), (trodAll_cons_mk (Below.trod exprLists_laidOut (by kernel_rfl) (of_decide_eq_true (by kernel_rfl)) k0 bel lt0) (trodAll_cons_mk (Below.trod exprLists_laidOut (by kernel_rfl) (of_decide_eq_true (by kernel_rfl)) k1 bel lt1) trodAll_mk0)), rfl, bel.frame _, fun h => by cases h⟩

theorem exprLists_over : Rows.exprListsRow.holds Try.pinned (OpenSpec.ofChange Rows.exprListsSpec) :=
  OpenClaim.holds_of_wide 4 Try.f4 rfl rfl rfl rfl rfl rfl rfl ⟨rfl, rfl, rfl, rfl, rfl⟩ rfl rfl rfl rfl rfl (by kernel_rfl) Try.func4 (by kernel_rfl)
    (of_decide_eq_true (by kernel_rfl)) (by unfold Func.isWrapper; first | (rw [if_pos (by decide +kernel)]; kernel_rfl) | (rw [if_neg (by decide +kernel)]; exact ⟨rfl, rfl⟩))
    (fun os started H enc _ => exprLists_lifted os started H enc)

theorem exprLists_holds : Rows.ExprListsSaid := exprLists_over
#print axioms exprLists_holds
end Go.Proofs.Ytlckoenkogaibaa
