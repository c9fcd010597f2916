/-
  P17.5: PredOwns: what was handed to Add may be overwritten afterwards, and Match answers as before: for every value and every row, up to the statement's own bounds.
-/
import Derived.Test.YtdaikppppkbfoabMAK
import Derived.Test.YtdaikppppkbfoabMAM
import Derived.Test.YtdaikppppkbfoabMCA
namespace Go.Proofs.Ytdaikppppkbfoab
open Go.ChangeShapes Go.WideShapes Go.ChangeAt Go.RowKit

theorem predOwns_own : ownKnob Try.prog.godebug = none := by kernel_rfl
theorem predOwns_laidOut : laidOutB Try.prog = true := by kernel_rfl

set_option maxRecDepth 100000 in
theorem open_v {H : Type} {enc : TypeId × Value → H} {w : World} {base : Nat} {v : Value} {d : DataW H} {p : List MemPlace} (hv : Value.okWide Try.prog w .any base 23 v) (h : DataW.Trod enc Try.prog w 0 (fun _ => true) true 23 v d p) (hW : ReachN 23 d) : ∃ x : Vv, v = vvV x ∧ VFit x := by
  obtain ⟨cs, rfl, hsz⟩ := Go.WideShapes.okWide_struct Try.underlying23 hv
  obtain ⟨fuel, hf⟩ := h
  obtain ⟨x, hc, hI⟩ := read_vv hf hW
  refine ⟨x, ?_, hI⟩
  have e : cs = #[.int .i64 x.k, .int .i64 x.n, .string x.s] := by
    have := congrArg List.toArray hc
    simpa [Value.cells, vvC] using this
  rw [e]
  rfl

set_option maxRecDepth 100000 in
theorem predOwns_lifted (os : Os) (started : os.Started) (H : Type) (enc : TypeId × Value → H) :
    ReturnsInHanded {} Try.checked os 3 .any (Rows.predOwnsSpec.pre6 enc Try.prog Try.f3 Rows.predOwnsRow.domain false) (Rows.predOwnsSpec.post enc Try.prog Try.f3 false true false false) := by
  refine returns_sized (C := Try.checked) predOwns_own started (by kernel_rfl) Try.func3
    (ChangeSpec.witness6 (enc := enc) (C := Try.checked) false ⟨#[], #[.agg #[.int .i64 0, .int .i64 0, .string ⟨#[]⟩], .slice none 0 0], []⟩ 8 (by kernel_rfl) (by kernel_rfl) (by kernel_rfl) (by kernel_rfl)) ?_
  intro W base args ds gs before hval0 hW hwt
  have hval : ∀ (j : Nat) t v, Try.f3.params[j]? = some t → args[j]? = some v → Value.okWide Try.prog W .any base t v := hval0
  have hW' := hW
  obtain ⟨p, q, hA0, hV, rfl, hfz, hnd⟩ := hW
  have hA : DataW.TrodAll enc Try.prog W 0 (fun _ => true) true Try.f3.params.toList args.toList ds p := hA0
  rw [Try.params3] at hA hval
  obtain ⟨v0, vs0, d0, ds0, p0, q0, hargs, rfl, rfl, h0, r0⟩ := trodAll_cons hA
  obtain ⟨v1, vs1, d1, ds1, p1, q1, rfl, rfl, rfl, h1, r1⟩ := trodAll_cons r0
  obtain ⟨rfl, rfl, rfl⟩ := trodAll_nil r1
  obtain rfl : args = #[v0, v1] := by cases args; simp_all
  obtain ⟨rfl, rfl⟩ := trodVars_none hV
  have wts : ∀ (j : Nat) t d, [23, 24][j]? = some t → [d0, d1][j]? = some d → (DataW.weights Try.prog t d).all (fun x => decide (x ≤ reachBytes)) = true := nweights_at (by rw [List.append_nil] at hwt; exact hwt)
  have k0 := h0
  have k1 := h1
  have lt0 : ∀ x ∈ p0, x.block < W.heap.size := by obtain ⟨m, hm⟩ := k0; exact DataW.trod_lt m _ _ _ hm
  have lt1 : ∀ x ∈ p1, x.block < W.heap.size := by obtain ⟨m, hm⟩ := k1; exact DataW.trod_lt m _ _ _ hm
  obtain ⟨v, rfl, hV0⟩ := open_v (hval 0 23 v0 rfl rfl) h0 (wts 0 23 d0 rfl rfl)
  obtain ⟨a1, c1, l1, rfl, hF1, hR1⟩ := open_vs (hval 1 24 v1 rfl rfl) h1 (wts 1 24 d1 rfl rfl)
  clear hA0 hval0
  simp only [List.append_nil] at hW'
  refine (predOwns_walk v ⟨a1, c1, l1⟩ W hV0 hR1 hF1 pawake_walk).mono fun e W' ⟨he, bel⟩ => ?_
  subst he
  exact ⟨_, rfl, _, _, _, [], _, [], hW', trodAll_mk1 (shut_bool Try.underlying4 _), (trodAll_cons_mk (Below.trod predOwns_laidOut (by kernel_rfl) (of_decide_eq_true (by kernel_rfl)) k0 bel lt0) (trodAll_cons_mk (Below.trod predOwns_laidOut (by kernel_rfl) (of_decide_eq_true (by kernel_rfl)) k1 bel lt1) trodAll_mk0)), rfl, bel.frame _, fun h => by cases h⟩

theorem predOwns_over : Rows.predOwnsRow.holds Try.pinned (OpenSpec.ofChange Rows.predOwnsSpec) :=
  OpenClaim.holds_of_wide 3 Try.f3 rfl rfl rfl rfl rfl rfl rfl ⟨rfl, rfl, rfl, rfl, rfl⟩ rfl rfl rfl rfl rfl (by kernel_rfl) Try.func3 (by kernel_rfl)
    (of_decide_eq_true (by kernel_rfl)) (by unfold Func.isWrapper; first | (rw [if_pos (by decide +kernel)]; kernel_rfl) | (rw [if_neg (by decide +kernel)]; exact ⟨rfl, rfl⟩))
    (fun os started H enc _ => predOwns_lifted os started H enc)

theorem predOwns_holds : Rows.PredOwnsSaid := predOwns_over
#print axioms predOwns_holds
end Go.Proofs.Ytdaikppppkbfoab
