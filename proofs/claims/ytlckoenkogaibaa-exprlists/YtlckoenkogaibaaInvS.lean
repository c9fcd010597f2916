/-
  As InvR, where only what binds in any order must point back. Of no program.
-/
import Derived.Test.YtlckoenkogaibaaInvR
namespace Go.Proofs.Ytlckoenkogaibaa.Rw
open Go

section
variable {P : Program} {md : Region.Mode} {ops : Array Oper} {Q : Exit → Act → World → Prop}

theorem all_of_noneS {done : Array Bool} (hsz : done.size = ops.size) (hlow : ∀ (i : Nat) (o : Oper), ops[i]? = some o → ∀ e ∈ o.after, Region.binds md e = true → e.on < i) (h : Region.ready md ops done = []) : ∀ i, i < ops.size → done.getD i false = true := by
  intro i
  induction i using Nat.strongRecOn with
  | _ i ih =>
    intro hi
    cases hd : done.getD i false with
    | true => rfl
    | false =>
      exfalso
      have : i ∈ Region.ready md ops done := mem_ready.2 ⟨getD_in (by omega) hd, ops[i], Array.getElem?_eq_getElem hi, fun e he hb => ih e.on (hlow i _ (Array.getElem?_eq_getElem hi) e he hb) (Nat.lt_trans (hlow i _ (Array.getElem?_eq_getElem hi) e he hb) hi)⟩
      rw [h] at this
      cases this

theorem wpAny_invS (I : (Nat → Bool) → Act → World → Prop) (hlow : ∀ (i : Nat) (o : Oper), ops[i]? = some o → ∀ e ∈ o.after, Region.binds md e = true → e.on < i)
    (hstep : ∀ (d : Nat → Bool) (a : Act) (w : World) (i : Nat) (o : Oper), ops[i]? = some o → d i = false → (∀ e ∈ o.after, Region.binds md e = true → d e.on = true) → I d a w → wpOp P ops Q i (I (fun j => j == i || d j)) a w)
    (hend : ∀ d a w, (∀ i, i < ops.size → d i = true) → I d a w → Q .normal a w) :
    ∀ (fuel : Nat) (done : Array Bool) (a : Act) (w : World), done.size = ops.size → ((List.range ops.size).filter fun i => !done.getD i false).length ≤ fuel → I (fun i => done.getD i false) a w → wpAny P md ops Q fuel done a w := by
  intro fuel
  induction fuel with
  | zero =>
    intro done a w hsz hf hI
    have hall : ∀ i, i < ops.size → done.getD i false = true := fun i hi => by
      have h0 := List.length_eq_zero_iff.1 (Nat.le_zero.1 hf)
      have := List.filter_eq_nil_iff.1 h0 i (List.mem_range.2 hi)
      simpa using this
    refine ⟨List.eq_nil_iff_forall_not_mem.2 fun j hj => ?_, hend _ a w hall hI⟩
    obtain ⟨h1, o, ho, _⟩ := mem_ready.1 hj
    have := hall j (Array.getElem?_eq_some_iff.1 ho).1
    rw [getD_both h1] at this
    cases this
  | succ fuel ih =>
    intro done a w hsz hf hI
    refine ⟨fun hr => hend _ a w (all_of_noneS hsz hlow hr) hI, fun i hi => ?_⟩
    obtain ⟨h1, o, ho, hall⟩ := mem_ready.1 hi
    have hil : i < ops.size := (Array.getElem?_eq_some_iff.1 ho).1
    refine wpOp_mono (fun a' w' h' => ih _ a' w' (by simpa using hsz) ?_ ?_) (hstep _ a w i o ho (getD_both h1) hall hI)
    · have := (filt_lt (p := fun j => !done.getD j false) (q := fun j => !(done.setIfInBounds i true).getD j false) i (by rw [getD_both h1]; rfl) (by simp [hsz, hil]) (fun j hj => by
        by_cases e : i = j
        · subst e; rw [getD_both h1]; rfl
        · rw [getD_set_ne false e] at hj; exact hj) (List.range ops.size)).2 (List.mem_range.2 hil)
      omega
    · have e : (fun j => j == i || done.getD j false) = fun j => (done.setIfInBounds i true).getD j false := by
        funext j
        by_cases e : i = j
        · subst e; simp [hsz, hil]
        · rw [getD_set_ne false e]
          have : (j == i) = false := beq_eq_false_iff_ne.2 (Ne.symm e)
          rw [this]; rfl
      rw [← e]
      exact h'

/-- The law. -/
theorem wp_region_invS (I : (Nat → Bool) → Act → World → Prop) {id : Nat} {a : Act} {w : World} (hm : P.follows .mixedOrders = true) (hlow : ∀ (i : Nat) (o : Oper), ops[i]? = some o → ∀ e ∈ o.after, Region.binds .any e = true → e.on < i) (h0 : I (fun _ => false) a { w with drawn := w.drawn + 1 })
    (hstep : ∀ (d : Nat → Bool) (a : Act) (w : World) (i : Nat) (o : Oper), ops[i]? = some o → d i = false → (∀ e ∈ o.after, Region.binds .any e = true → d e.on = true) → I d a w → wpOp P ops Q i (I (fun j => j == i || d j)) a w)
    (hend : ∀ d a w, (∀ i, i < ops.size → d i = true) → I d a w → Q .normal a w) : (Code.region id ops true).wp P Q a w := by
  refine wp_region_any hm (wpAny_invS I hlow hstep hend _ _ _ _ (by simp) (Nat.le_trans (List.length_filter_le _ _) (by simp)) ?_)
  have e : (fun i => (Array.replicate ops.size false).getD i false) = fun _ => false := funext fun i => getD_replicate_false _ _
  rw [e]
  exact h0
end
end Go.Proofs.Ytlckoenkogaibaa.Rw
