/-
  Two lists of a struct's variable are copied by one assignment: x.Old, x.New = append([]V{}, x.Old...), append([]V{}, x.New...): in whatever order.
-/
import Derived.Test.YtgpahhlmpdnbpaaRwA
import Derived.Test.YtgpahhlmpdnbpaaInvR
namespace Go.Proofs.Ytgpahhlmpdnbpaa.Rw
open Go Go.RowKit

section
variable {ops : Array Oper} {Q : Exit → Act → World → Prop} {K : Act → World → Prop}

end

def lowB (ops : Array Oper) : Bool := (List.range ops.size).all fun i => match ops[i]? with
  | some o => o.after.all fun e => decide (e.on < i)
  | none => true
theorem low_of {ops : Array Oper} (h : lowB ops = true) : ∀ (i : Nat) (o : Oper), ops[i]? = some o → ∀ e ∈ o.after, e.on < i := fun i o ho e he => by
  have := List.all_eq_true.1 h i (List.mem_range.2 (Array.getElem?_eq_some_iff.1 ho).1)
  simp only [ho] at this
  have := Array.all_eq_true_iff_forall_mem.1 this e he
  simpa using this
def depB (o : Oper) (k : Nat) : Bool := o.after.any fun e => Region.binds .any e && e.on == k
theorem dep_of {o : Oper} {k : Nat} (h : depB o k = true) : ∃ e ∈ o.after, Region.binds .any e = true ∧ e.on = k := by
  unfold depB at h
  rw [← Array.any_toList] at h
  obtain ⟨e, he, hk⟩ := List.any_eq_true.1 h
  simp only [Bool.and_eq_true, beq_iff_eq] at hk
  exact ⟨e, Array.mem_toList_iff.1 he, hk.1, hk.2⟩

theorem dep {o : Oper} {d : Nat → Bool} {k : Nat} (h : ∃ e ∈ o.after, Region.binds .any e = true ∧ e.on = k) (hd : ∀ e ∈ o.after, Region.binds .any e = true → d e.on = true) : d k = true := by
  obtain ⟨e, he, hb, rfl⟩ := h
  exact hd e he hb

end Go.Proofs.Ytgpahhlmpdnbpaa.Rw
