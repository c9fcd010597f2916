/-
  For every program of steps whose reading holds together at most 1048576 values and letters, FaultUndoes returns true and leaves its argument as it was: what is to be called back is called just if something stopped, once, behind that. Its condition: that bound (the second form).
-/
import Derived.Test.YtlkodnhkhhgimaaRows
import Derived.Test.YtlkodnhkhhgimaaRunsR
import Derived.Test.YtlkodnhkhhgimaaUndoesB
import Derived.WalkKit
import Derived.ProofKit
import Derived.OpenShut
import Derived.JoinedCond
import Derived.ChangeOld
import Derived.Below
namespace Go.Proofs.Ytlkodnhkhhgimaa
open Go.ChangeShapes Go.WideShapes Go.ChangeAt Go.RowKit

theorem undoes_own : ownKnob Try.prog.godebug = none := by kernel_rfl
theorem undoes_laidOut : laidOutB Try.prog = true := by kernel_rfl

theorem undoes_contract (H : Type) (enc : TypeId × Value → H) (W : World) (base : Nat) (args : Array Value) (ds gs : List (DataW H)) (before : List MemPlace) (hk : Rows.uptoSmall H (ds ++ gs) = true)
    (hval : ∀ (j : Nat) t v, Try.f5.params[j]? = some t → args[j]? = some v → Value.okWide Try.prog W .any base t v)
    (hW : DataW.Whole enc Try.prog Try.f5.params.toList Rows.faultUndoesSpec.vars false W args.toList ds gs before) :
    Calls Try.prog 5 args W fun e W' => ∃ v, e = .returned v ∧ Rows.faultUndoesSpec.post enc Try.prog Try.f5 false true false false W args v W' := by
  have hW' := hW
  obtain ⟨p, q, hA0, hV, rfl, hfz, hnd⟩ := hW
  have hA : DataW.TrodAll enc Try.prog W 0 (fun _ => true) true Try.f5.params.toList args.toList ds p := hA0
  rw [Try.params5] at hA hval
  obtain ⟨v0, vs0, d0, ds0, p0, q0, hargs, rfl, rfl, h0, r0⟩ := trodAll_cons hA
  obtain ⟨rfl, rfl, rfl⟩ := trodAll_nil r0
  obtain rfl : args = #[v0] := by cases args; simp_all
  obtain ⟨rfl, rfl⟩ := trodVars_none hV
  obtain ⟨a0, len0, cap0, rfl⟩ := okWide_slice Try.underlying22 (hval 0 22 v0 rfl rfl)
  have k0 := h0
  have lt0 : ∀ x ∈ p0, x.block < W.heap.size := by obtain ⟨m, hm⟩ := k0; exact DataW.trod_lt m _ _ _ hm
  have hbulk : Rows.uptoBulkAll ([d0] ++ []) ≤ 1048576 := of_decide_eq_true hk
  simp only [List.append_nil, Rows.uptoBulkAll, Nat.add_zero] at hbulk
  obtain ⟨l, rfl, hl, hat, hs⟩ : ∃ l : List Stp, len0 = l.length ∧ l.length ≤ cap0 ∧ StepsAt W a0 l ∧ szL l ≤ 1000000 := by
    obtain ⟨fuel, hf⟩ := h0
    obtain ⟨x, c, l, hcs, h1, h2, h3⟩ := read_steps _ d0 (Nat.le_refl _) fuel _ p0 hf
    simp [Value.cells] at hcs
    obtain ⟨rfl, rfl, rfl⟩ := hcs
    exact ⟨l, rfl, h1, h2, by omega⟩
  clear hA0
  refine (undoes_walk a0 cap0 l W hs hl hat).mono fun e W' ⟨he, bel⟩ => ?_
  subst he
  exact ⟨_, rfl, _, _, _, [], _, [], hW', trodAll_mk1 (shut_bool Try.underlying4 _), (trodAll_cons_mk (Below.trod undoes_laidOut (by kernel_rfl) (of_decide_eq_true (by kernel_rfl)) k0 bel lt0) trodAll_mk0), rfl, bel.frame _, fun h => by cases h⟩

set_option maxRecDepth 100000 in
theorem undoes_lifted (os : Os) (started : os.Started) (H : Type) (enc : TypeId × Value → H) (F : Stop.Interp) :
    ReturnsInHanded {} Try.checked os 5 .any ((Rows.OpenSpec.upto Rows.faultUndoesSpec).pre6 enc Try.prog Try.f5 Rows.faultUndoesUptoRow.domain false) (((Rows.OpenSpec.upto Rows.faultUndoesSpec).at F).post enc Try.prog Try.f5 false true false false) := by
  refine returnsInHanded_of_cond (C := Try.checked) (s := Rows.OpenSpec.upto Rows.faultUndoesSpec) (k := Rows.uptoSmall) rfl undoes_own started (by kernel_rfl) Try.func5
    (OpenSpec.witness (enc := enc) (C := Try.checked) (s := Rows.OpenSpec.upto Rows.faultUndoesSpec) (k := Rows.uptoSmall) rfl false ⟨#[], #[.slice none 0 0], []⟩ 8 (by kernel_rfl) (by kernel_rfl) (by kernel_rfl)
      (x := ([.nil], [], [])) (by kernel_rfl) rfl (by kernel_rfl)) ?_
  intro W base args ds gs before hval hW _ hk _
  exact undoes_contract H enc W base args ds gs before hk hval hW

theorem undoes_over : Rows.faultUndoesUptoRow.holds Try.pinned (Rows.OpenSpec.upto Rows.faultUndoesSpec) :=
  OpenClaim.holds_of_cond 5 Try.f5 rfl rfl rfl rfl rfl rfl rfl ⟨rfl, rfl, rfl, rfl, rfl⟩ rfl rfl rfl rfl rfl (by kernel_rfl) Try.func5 (by kernel_rfl)
    (of_decide_eq_true (by kernel_rfl)) (by unfold Func.isWrapper; first | (rw [if_pos (by decide +kernel)]; kernel_rfl) | (rw [if_neg (by decide +kernel)]; exact ⟨rfl, rfl⟩))
    (fun os started H enc _ F => undoes_lifted os started H enc F)

theorem faultUndoes_holds : Rows.FaultUndoesUptoSaid := undoes_over
#print axioms faultUndoes_holds
end Go.Proofs.Ytlkodnhkhhgimaa
