/-
  A region that draws its order, by an invariant over what has been done: each operation that is ready keeps it. The work goes by operations, not by orders. Of no program.
-/
import Derived.StillTail
import Derived.WalkKit
namespace Go.Proofs.Ytlckoenkogaibaa.Rw
open Go

theorem filt_lt {p q : Nat → Bool} (i : Nat) (hi : p i = true) (hq : q i = false) (h : ∀ j, q j = true → p j = true) : ∀ (l : List Nat), (l.filter q).length ≤ (l.filter p).length ∧ (i ∈ l → (l.filter q).length < (l.filter p).length)
  | [] => ⟨Nat.le_refl _, fun h => (by cases h)⟩
  | x :: l => by
    obtain ⟨h1, h2⟩ := filt_lt i hi hq h l
    rw [List.filter_cons, List.filter_cons]
    cases hqx : q x
    · cases hpx : p x
      · refine ⟨by simpa using h1, fun hm => ?_⟩
        rcases List.mem_cons.1 hm with e | e
        · subst e; rw [hi] at hpx; cases hpx
        · simpa using h2 e
      · refine ⟨by simp; omega, fun _ => by simp; omega⟩
    · rw [h x hqx]
      refine ⟨by simp; omega, fun hm => ?_⟩
      rcases List.mem_cons.1 hm with e | e
      · subst e; rw [hq] at hqx; cases hqx
      · have := h2 e; simp; omega

section
variable {P : Program} {md : Region.Mode} {ops : Array Oper} {Q : Exit → Act → World → Prop}

theorem all_of_none {done : Array Bool} (hsz : done.size = ops.size) (hlow : ∀ (i : Nat) (o : Oper), ops[i]? = some o → ∀ e ∈ o.after, e.on < i) (h : Region.ready md ops done = []) : ∀ i, i < ops.size → done.getD i false = true := by
  intro i
  induction i using Nat.strongRecOn with
  | _ i ih =>
    intro hi
    cases hd : done.getD i false with
    | true => rfl
    | false =>
      exfalso
      have : i ∈ Region.ready md ops done := mem_ready.2 ⟨getD_in (by omega) hd, ops[i], Array.getElem?_eq_getElem hi, fun e he _ => ih e.on (hlow i _ (Array.getElem?_eq_getElem hi) e he) (Nat.lt_trans (hlow i _ (Array.getElem?_eq_getElem hi) e he) hi)⟩
      rw [h] at this
      cases this

theorem wpAny_inv (I : (Nat → Bool) → Act → World → Prop) (hlow : ∀ (i : Nat) (o : Oper), ops[i]? = some o → ∀ e ∈ o.after, e.on < i)
    (hstep : ∀ (d : Nat → Bool) (a : Act) (w : World) (i : Nat) (o : Oper), ops[i]? = some o → d i = false → (∀ e ∈ o.after, Region.binds md e = true → d e.on = true) → I d a w → wpOp P ops Q i (I (fun j => j == i || d j)) a w)
    (hend : ∀ d a w, (∀ i, i < ops.size → d i = true) → I d a w → Q .normal a w) :
    ∀ (fuel : Nat) (done : Array Bool) (a : Act) (w : World), done.size = ops.size → ((List.range ops.size).filter fun i => !done.getD i false).length ≤ fuel → I (fun i => done.getD i false) a w → wpAny P md ops Q fuel done a w := by
  intro fuel
  induction fuel with
  | zero =>
    intro done a w hsz hf hI
    have hall : ∀ i, i < ops.size → done.getD i false = true := fun i hi => by
      have h0 := List.length_eq_zero_iff.1 (Nat.le_zero.1 hf)
      have := List.filter_eq_nil_iff.1 h0 i (List.mem_range.2 hi)
      simpa using this
    refine ⟨List.eq_nil_iff_forall_not_mem.2 fun j hj => ?_, hend _ a w hall hI⟩
    obtain ⟨h1, o, ho, _⟩ := mem_ready.1 hj
    have := hall j (Array.getElem?_eq_some_iff.1 ho).1
    rw [getD_both h1] at this
    cases this
  | succ fuel ih =>
    intro done a w hsz hf hI
    refine ⟨fun hr => hend _ a w (all_of_none hsz hlow hr) hI, fun i hi => ?_⟩
    obtain ⟨h1, o, ho, hall⟩ := mem_ready.1 hi
    have hil : i < ops.size := (Array.getElem?_eq_some_iff.1 ho).1
    refine wpOp_mono (fun a' w' h' => ih _ a' w' (by simpa using hsz) ?_ ?_) (hstep _ a w i o ho (getD_both h1) hall hI)
    · have := (filt_lt (p := fun j => !done.getD j false) (q := fun j => !(done.setIfInBounds i true).getD j false) i (by rw [getD_both h1]; rfl) (by simp [hsz, hil]) (fun j hj => by
        by_cases e : i = j
        · subst e; rw [getD_both h1]; rfl
        · rw [getD_set_ne false e] at hj; exact hj) (List.range ops.size)).2 (List.mem_range.2 hil)
      omega
    · have e : (fun j => j == i || done.getD j false) = fun j => (done.setIfInBounds i true).getD j false := by
        funext j
        by_cases e : i = j
        · subst e; simp [hsz, hil]
        · rw [getD_set_ne false e]
          have : (j == i) = false := beq_eq_false_iff_ne.2 (Ne.symm e)
          rw [this]; rfl
      rw [← e]
      exact h'

/-- The law. -/
theorem wp_region_inv (I : (Nat → Bool) → Act → World → Prop) {id : Nat} {a : Act} {w : World} (hm : P.follows .mixedOrders = true) (hlow : ∀ (i : Nat) (o : Oper), ops[i]? = some o → ∀ e ∈ o.after, e.on < i) (h0 : I (fun _ => false) a { w with drawn := w.drawn + 1 })
    (hstep : ∀ (d : Nat → Bool) (a : Act) (w : World) (i : Nat) (o : Oper), ops[i]? = some o → d i = false → (∀ e ∈ o.after, Region.binds .any e = true → d e.on = true) → I d a w → wpOp P ops Q i (I (fun j => j == i || d j)) a w)
    (hend : ∀ d a w, (∀ i, i < ops.size → d i = true) → I d a w → Q .normal a w) : (Code.region id ops true).wp P Q a w := by
  refine wp_region_any hm (wpAny_inv I hlow hstep hend _ _ _ _ (by simp) (Nat.le_trans (List.length_filter_le _ _) (by simp)) ?_)
  have e : (fun i => (Array.replicate ops.size false).getD i false) = fun _ => false := funext fun i => getD_replicate_false _ _
  rw [e]
  exact h0

theorem wpOp_of {i : Nat} {o : Oper} {a : Act} {w : World} {K : Act → World → Prop} (hi : ops[i]? = some o) (hg : o.guard = none) (h : Oper.wp P o a w K Q) : wpOp P ops Q i K a w := by
  unfold wpOp
  simp only [hi]
  rw [if_pos (by simp [Region.wanted, hg])]
  exact Or.inl h

theorem put_get (a : Act) (s : Nat) (v : Value) (hs : s < a.tmps.size) : (a.put (some s) v).eval (.tmp s) = v := by
  simp [Act.put, Act.eval, hs]
theorem put_ne (a : Act) (s t : Nat) (v : Value) (h : s ≠ t) : (a.put (some s) v).eval (.tmp t) = a.eval (.tmp t) := by
  simp [Act.put, Act.eval, Array.getElem?_setIfInBounds_ne h]
theorem put_size (a : Act) (s : Option Nat) (v : Value) : (a.put s v).tmps.size = a.tmps.size := by
  cases s <;> simp [Act.put]
end

/-- The slots outside of s .. s + k - 1 are as they were. -/
structure Frm (s k : Nat) (a0 a : Act) : Prop where
  defers : a.defers = a0.defers
  size : a.tmps.size = a0.tmps.size
  at' : ∀ t, t < s ∨ s + k ≤ t → a.tmps[t]? = a0.tmps[t]?

theorem Frm.refl (s k : Nat) (a : Act) : Frm s k a a := ⟨rfl, rfl, fun _ _ => rfl⟩
theorem Frm.put {s k : Nat} {a0 a : Act} (h : Frm s k a0 a) {t : Nat} (h1 : s ≤ t) (h2 : t < s + k) (v : Value) : Frm s k a0 (a.put (some t) v) :=
  ⟨h.defers, by rw [put_size]; exact h.size, fun u hu => by
    show (a.tmps.setIfInBounds t v)[u]? = _
    rw [Array.getElem?_setIfInBounds_ne (by omega)]; exact h.at' u hu⟩
theorem Frm.eval {s k : Nat} {a0 a : Act} (h : Frm s k a0 a) {t : Nat} (ht : t < s ∨ s + k ≤ t) : a.eval (.tmp t) = a0.eval (.tmp t) := by
  have e := h.at' t ht
  show a.tmps.getD t undef = a0.tmps.getD t undef
  simp [Array.getD_eq_getD_getElem?, e]

/-- An act that differs in ten slots alone. -/
theorem Frm.ten {s : Nat} {a0 a : Act} (h : Frm s 10 a0 a) (hs : s + 10 ≤ a0.tmps.size) : ∃ v0 v1 v2 v3 v4 v5 v6 v7 v8 v9, a = ((((((((((a0.put (some s) v0).put (some (s + 1)) v1).put (some (s + 2)) v2).put (some (s + 3)) v3).put (some (s + 4)) v4).put (some (s + 5)) v5).put (some (s + 6)) v6).put (some (s + 7)) v7).put (some (s + 8)) v8).put (some (s + 9)) v9) := by
  refine ⟨a.tmps[s]'(by have := h.size; omega), a.tmps[s + 1]'(by have := h.size; omega), a.tmps[s + 2]'(by have := h.size; omega), a.tmps[s + 3]'(by have := h.size; omega), a.tmps[s + 4]'(by have := h.size; omega), a.tmps[s + 5]'(by have := h.size; omega), a.tmps[s + 6]'(by have := h.size; omega), a.tmps[s + 7]'(by have := h.size; omega), a.tmps[s + 8]'(by have := h.size; omega), a.tmps[s + 9]'(by have := h.size; omega), ?_⟩
  obtain ⟨tm, df⟩ := a
  obtain ⟨tm0, df0⟩ := a0
  obtain ⟨h1, h2, h3⟩ := h
  simp only at h1 h2 h3 hs ⊢
  subst h1
  simp only [Act.put, Act.mk.injEq, and_true]
  refine Array.ext_getElem? fun t => ?_
  by_cases ht : t < s ∨ s + 10 ≤ t
  · rw [h3 t ht, Array.getElem?_setIfInBounds_ne (by omega), Array.getElem?_setIfInBounds_ne (by omega), Array.getElem?_setIfInBounds_ne (by omega), Array.getElem?_setIfInBounds_ne (by omega), Array.getElem?_setIfInBounds_ne (by omega), Array.getElem?_setIfInBounds_ne (by omega), Array.getElem?_setIfInBounds_ne (by omega), Array.getElem?_setIfInBounds_ne (by omega), Array.getElem?_setIfInBounds_ne (by omega), Array.getElem?_setIfInBounds_ne (by omega)]
  · have : t = s ∨ t = s + 1 ∨ t = s + 2 ∨ t = s + 3 ∨ t = s + 4 ∨ t = s + 5 ∨ t = s + 6 ∨ t = s + 7 ∨ t = s + 8 ∨ t = s + 9 := by omega
    rcases this with rfl | rfl | rfl | rfl | rfl | rfl | rfl | rfl | rfl | rfl <;>
      (simp only [Array.getElem?_setIfInBounds, Array.size_setIfInBounds, if_true]; rw [Array.getElem?_eq_getElem (by omega)]; simp; omega)
end Go.Proofs.Ytlckoenkogaibaa.Rw
