import Derived.StillTail
import Derived.WalkKit
namespace Go.Proofs.Ytdaikppppkbfoaa.Rw
open Go
section
variable {P: Program} {md: Region.Mode} {ops: Array Oper} {Q: Exit -> Act -> World -> Prop}
theorem wpOp_of {i: Nat} {o: Oper} {a: Act} {w: World} {K: Act -> World -> Prop} (hi: ops[i]? = some o) (hg: o.guard = none) (h: Oper.wp P o a w K Q): wpOp P ops Q i K a w := by
 unfold wpOp
 simp only [hi]
 rw [if_pos (by simp [Region.wanted,hg])]
 exact Or.inl h
theorem put_get (a: Act) (s: Nat) (v: Value) (hs: s < a.tmps.size): (a.put (some s) v).eval (.tmp s) = v := by
 simp [Act.put,Act.eval,hs]
theorem put_ne (a: Act) (s t: Nat) (v: Value) (h: s ≠ t): (a.put (some s) v).eval (.tmp t) = a.eval (.tmp t) := by
 simp [Act.put,Act.eval,Array.getElem?_setIfInBounds_ne h]
theorem put_size (a: Act) (s: Option Nat) (v: Value): (a.put s v).tmps.size = a.tmps.size := by
 cases s <;> simp [Act.put]
end
section
variable {P: Program} {md: Region.Mode} {ops: Array Oper} {Q: Exit -> Act -> World -> Prop}
theorem all_of_noneS {done: Array Bool} (hsz: done.size = ops.size) (hlow: ∀ (i: Nat) (o: Oper),ops[i]? = some o -> ∀ e ∈ o.after,Region.binds md e = true -> e.on < i) (h: Region.ready md ops done = []): ∀ i,i < ops.size -> done.getD i false = true := by
 intro i
 induction i using Nat.strongRecOn with
 | _ i ih =>
  intro hi
  cases hd: done.getD i false with
  | true => rfl
  | false =>
   exfalso
   have: i ∈ Region.ready md ops done := mem_ready.2 ⟨getD_in (by omega) hd,ops[i],Array.getElem?_eq_getElem hi,fun e he hb => ih e.on (hlow i _ (Array.getElem?_eq_getElem hi) e he hb) (Nat.lt_trans (hlow i _ (Array.getElem?_eq_getElem hi) e he hb) hi)⟩
   rw [h] at this
   cases this
end
theorem filt_one {p: Nat -> Bool} (i: Nat) (hp: p i = true): ∀ (l: List Nat),l.Nodup -> i ∈ l -> (l.filter fun j => p j && !(j == i)).length + 1 = (l.filter p).length
 | [],_,h => by cases h
 | x :: l,hn,h => by
  obtain ⟨hx,hl⟩ := List.nodup_cons.1 hn
  by_cases e: x = i
  · subst e
    have h1: (l.filter fun j => p j && !(j == x)) = l.filter p := List.filter_congr fun j hj => by
     have: (j == x) = false := beq_eq_false_iff_ne.2 fun e => hx (e ▸ hj)
     simp [this]
    rw [List.filter_cons_of_neg (by simp),List.filter_cons_of_pos hp,h1]
    simp
  · have hi: i ∈ l := (List.mem_cons.1 h).resolve_left (Ne.symm e)
    have ih := filt_one i hp l hl hi
    have hxi: (x == i) = false := beq_eq_false_iff_ne.2 e
    cases hpx: p x
    · rw [List.filter_cons_of_neg (by simp [hpx]),List.filter_cons_of_neg (by simp [hpx])]
      exact ih
    · rw [List.filter_cons_of_pos (by simp [hpx,hxi]),List.filter_cons_of_pos hpx]
      simp only [List.length_cons]
      omega
section
variable {P: Program} {md: Region.Mode} {ops: Array Oper} {Q: Exit -> Act -> World -> Prop}
theorem any_of_headI {n g: Nat} (I: (Nat -> Bool) -> Act -> World -> Prop) (hs: Region.sinkB md ops n = true) (hc: Region.chainB md ops n = true) (hn: n < ops.size) (hlow: ∀ (i: Nat) (o: Oper),ops[i]? = some o -> ∀ e ∈ o.after,Region.binds md e = true -> e.on < i)
 (hstep: ∀ (d: Nat -> Bool) (a: Act) (w: World) (i: Nat) (o: Oper),ops[i]? = some o -> i < n -> d i = false -> (∀ e ∈ o.after,Region.binds md e = true -> d e.on = true) -> I d a w -> wpOp P ops Q i (I (fun j => j == i || d j)) a w)
 (hL: ∀ (done: Array Bool) (a: Act) (w: World),HeadInv md ops n done -> (∀ i,i < n -> done.getD i false = true) -> I (fun i => done.getD i false) a w -> wpAny P md ops Q g done a w) :
 ∀ (f: Nat) (done: Array Bool) (a: Act) (w: World),HeadInv md ops n done -> ((List.range n).filter fun i => !done.getD i false).length = f -> I (fun i => done.getD i false) a w -> wpAny P md ops Q (f + g) done a w := by
 intro f
 induction f with
 | zero =>
  intro done a w inv hf hI
  rw [Nat.zero_add]
  refine hL done a w inv (fun i hi => ?_) hI
  have := List.filter_eq_nil_iff.1 (List.length_eq_zero_iff.1 hf) i (List.mem_range.2 hi)
  simpa using this
 | succ f ih =>
  intro done a w inv hf hI
  obtain ⟨i0,hi0⟩ := List.exists_mem_of_length_pos (by rw [hf]; omega: 0 < ((List.range n).filter fun i => !done.getD i false).length)
  obtain ⟨h1,h2⟩ := List.mem_filter.1 hi0
  have hi0n := List.mem_range.1 h1
  have hun: done.getD i0 false = false := by simpa using h2
  have hun': done.getD i0 true = false := getD_in (by rw [inv.size]; omega) hun
  rw [show f + 1 + g = (f + g) + 1 by omega]
  refine ⟨fun hr => ?_,fun i hi => ?_⟩
  · have := all_of_noneS inv.size hlow hr i0 (by omega)
    rw [hun] at this
    cases this
  · have hin: i < n := Nat.lt_of_not_le fun h => tail_waits hs hc hn inv _ i0 rfl hi0n hun' i h hi
    obtain ⟨h3,o,ho,hall⟩ := mem_ready.1 hi
    have hd: done.getD i false = false := getD_both h3
    refine wpOp_mono (fun a' w' h' => ih _ a' w' (inv.set hi hin) ?_ ?_) (hstep _ a w i o ho hin hd hall hI)
    · have hfo := filt_one (p := fun j => !done.getD j false) i (by simp [hd]) (List.range n) List.nodup_range (List.mem_range.2 hin)
      have e: (fun j => !(done.setIfInBounds i true).getD j false) = fun j => !done.getD j false && !(j == i) := by
       funext j
       by_cases q: i = j
       · subst q
         have: i < done.size := by rw [inv.size]; omega
         simp [this]
       · rw [getD_set_ne false q]
         have: (j == i) = false := beq_eq_false_iff_ne.2 (Ne.symm q)
         simp [this]
      rw [e]
      omega
    · have e: (fun j => j == i || done.getD j false) = fun j => (done.setIfInBounds i true).getD j false := by
       funext j
       by_cases q: i = j
       · subst q
         have: i < done.size := by rw [inv.size]; omega
         simp [this]
       · rw [getD_set_ne false q]
         have: (j == i) = false := beq_eq_false_iff_ne.2 (Ne.symm q)
         rw [this]; rfl
      rw [<- e]
      exact h'
def doneN (n m: Nat): Array Bool := Array.replicate n true ++ Array.replicate (m - n) false
theorem done_is {done: Array Bool} {n: Nat} (hn: n < ops.size) (inv: HeadInv md ops n done) (h: ∀ i,i < n -> done.getD i false = true): done = doneN n ops.size := by
 unfold doneN
 refine Array.ext (by simp [inv.size]; omega) fun i h1 h2 => ?_
 have hsz := inv.size
 by_cases hi: i < n
 · have := h i hi
   simp [Array.getD,h1] at this
   rw [this,Array.getElem_append_left (by simpa using hi)]
   simp
 · have := inv.tail i (by omega) (by omega)
   simp [Array.getD,h1] at this
   rw [this,Array.getElem_append_right (by simp; omega)]
   simp
theorem wp_region_headI {id: Nat} {a: Act} {w: World} {l: List Oper} (n: Nat) (I: (Nat -> Bool) -> Act -> World -> Prop) (hm: P.follows .mixedOrders = true) (hs: Region.sinkB .any l.toArray n = true) (hc: Region.chainB .any l.toArray n = true) (hn: n < l.length) (hlow: ∀ (i: Nat) (o: Oper),l.toArray[i]? = some o -> ∀ e ∈ o.after,Region.binds .any e = true -> e.on < i)
 (hseq: Region.seqB .any l.toArray (l.length - n) n (doneN n l.length) = true) (h0: I (fun _ => false) a { w with drawn := w.drawn + 1 })
 (hstep: ∀ (d: Nat -> Bool) (a: Act) (w: World) (i: Nat) (o: Oper),l.toArray[i]? = some o -> i < n -> d i = false -> (∀ e ∈ o.after,Region.binds .any e = true -> d e.on = true) -> I d a w -> wpOp P l.toArray Q i (I (fun j => j == i || d j)) a w)
 (hend: ∀ d a w,(∀ i,i < n -> d i = true) -> I d a w -> wpList P l.toArray Q (l.drop n) a w): (Code.region id l.toArray true).wp P Q a w := by
 have inv0: HeadInv .any l.toArray n (Array.replicate l.toArray.size false) :=
  ⟨by simp,fun j oj _ hl => (by rw [getD_replicate_false] at hl; cases hl),fun t _ ht => getD_in (by simpa using ht) (getD_replicate_false _ _)⟩
 have hdl: (l.drop n).length = l.length - n := by simp
 have K := any_of_headI (P := P) (Q := Q) (g := l.length - n) I hs hc (by simpa using hn) hlow hstep (fun done a w inv hall hI => by
  have hd := done_is (by simpa using hn) inv hall
  have := wpAny_of_seq (md := .any) (Q' := Q) (P := P) (ops := l.toArray) (l.drop n) n done a w (fun j => by simp [List.getElem?_drop]) (by rw [hdl,hd]; simpa using hseq) (hend _ a w hall hI)
  rwa [hdl] at this) ((List.range n).filter fun i => !(Array.replicate l.toArray.size false).getD i false).length (Array.replicate l.toArray.size false) a { w with drawn := w.drawn + 1 } inv0 rfl (by
   have e: (fun i => (Array.replicate l.toArray.size false).getD i false) = fun _ => false := funext fun i => getD_replicate_false _ _
   rw [e]
   exact h0)
 have hlen: ((List.range n).filter fun i => !(Array.replicate l.toArray.size false).getD i false).length = n := by
  have: ((List.range n).filter fun i => !(Array.replicate l.toArray.size false).getD i false) = List.range n := List.filter_eq_self.2 fun i _ => by rw [getD_replicate_false]; rfl
  rw [this]; simp
 rw [hlen,show n + (l.length - n) = l.toArray.size by simp; omega] at K
 exact wp_region_any hm K
end
end Go.Proofs.Ytdaikppppkbfoaa.Rw
