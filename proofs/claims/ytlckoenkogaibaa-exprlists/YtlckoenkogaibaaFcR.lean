/-
  A region that draws its order, each of whose first n operations makes one value of which something is known that stays: in whatever order, all of it is known behind them. Of no program.
-/
import Derived.Test.YtlckoenkogaibaaHdI
import Derived.Test.YtlckoenkogaibaaSmS
namespace Go.Proofs.Ytlckoenkogaibaa.Rw
open Go Go.RowKit

section
variable {P : Program} {Q : Exit → Act → World → Prop}

/-- What is known while the region goes on. -/
structure FcI (n : Nat) (slot : Nat → Nat) (S : List Nat) (F : Nat → Value → World → Prop) (U : World) (a0 : Act) (d : Nat → Bool) (a : Act) (w : World) : Prop where
  fr : FrmS S a0 a
  bel : Below U.heap.size U w
  kn : ∀ i, i < n → d i = true → F i (a.eval (.tmp (slot i))) w

theorem wp_region_facts {id : Nat} {a0 : Act} {U : World} {l : List Oper} (n : Nat) (slot : Nat → Nat) (S : List Nat) (F : Nat → Value → World → Prop)
    (hmono : ∀ i v w w', F i v w → Below w.heap.size w w' → F i v w') (hinj : ∀ i j, i < n → j < n → slot i = slot j → i = j) (hin : ∀ i, i < n → slot i ∈ S) (hsz : ∀ i, i < n → slot i < a0.tmps.size)
    (hm : P.follows .mixedOrders = true) (hs : Region.sinkB .any l.toArray n = true) (hc : Region.chainB .any l.toArray n = true) (hn : n < l.length) (hlow : ∀ (i : Nat) (o : Oper), l.toArray[i]? = some o → ∀ e ∈ o.after, Region.binds .any e = true → e.on < i)
    (hseq : Region.seqB .any l.toArray (l.length - n) n (doneN n l.length) = true)
    (hop : ∀ (i : Nat) (o : Oper) (a : Act) (w : World), l.toArray[i]? = some o → i < n → FrmS S a0 a → Below U.heap.size U w → (∀ e ∈ o.after, Region.binds .any e = true → F e.on (a.eval (.tmp (slot e.on))) w) →
      o.guard = none ∧ ∀ K : Act → World → Prop, (∀ v w', Below w.heap.size w w' → F i v w' → K (a.put (some (slot i)) v) w') → Oper.wp P o a w K Q)
    (hend : ∀ a w, FrmS S a0 a → Below U.heap.size U w → (∀ i, i < n → F i (a.eval (.tmp (slot i))) w) → wpList P l.toArray Q (l.drop n) a w) : (Code.region id l.toArray true).wp P Q a0 U := by
  refine wp_region_headI n (FcI n slot S F U a0) hm hs hc hn hlow hseq ⟨FrmS.refl _ _, ⟨rfl, rfl, rfl, Nat.le_refl _, fun _ _ => rfl⟩, fun i _ h => (by cases h)⟩ ?_ ?_
  · intro d a w i o hi hi12 hd hdep I
    obtain ⟨hg, hw⟩ := hop i o a w hi hi12 I.fr I.bel fun e he hb => I.kn e.on (Nat.lt_trans (hlow i o hi e he hb) hi12) (hdep e he hb)
    refine wpOp_of hi hg (hw _ fun v w' hb hF => ⟨I.fr.put (hin i hi12) v, I.bel.trans (hb.mono I.bel.size), fun j hj hd' => ?_⟩)
    by_cases e : j = i
    · subst e
      rw [put_get _ _ _ (by rw [I.fr.size]; exact hsz j hj)]
      exact hF
    · rw [put_ne _ _ _ _ (fun q => e (hinj j i hj hi12 q.symm))]
      refine hmono _ _ _ _ (I.kn j hj ?_) hb
      simpa [e] using hd'
  · intro d a w hall I
    exact hend a w I.fr I.bel fun i hi => I.kn i hi (hall i hi)

def lowOB (ops : Array Oper) : Bool := (List.range ops.size).all fun i => match ops[i]? with
  | some o => o.after.all fun e => !Region.binds .any e || decide (e.on < i)
  | none => true
theorem lowO_of {ops : Array Oper} (h : lowOB ops = true) : ∀ (i : Nat) (o : Oper), ops[i]? = some o → ∀ e ∈ o.after, Region.binds .any e = true → e.on < i := by
  intro i o ho e he hb
  have h1 := List.all_eq_true.1 h i (List.mem_range.2 (Array.getElem?_eq_some_iff.1 ho).1)
  rw [ho] at h1
  have h2 := Array.all_eq_true'.1 h1 e he
  simpa [hb] using h2
theorem depO {o : Oper} {F : Nat → Prop} (k : Nat) (h : (o.after.any fun e => Region.binds .any e && e.on == k) = true) (hd : ∀ e ∈ o.after, Region.binds .any e = true → F e.on) : F k := by
  obtain ⟨e, he, h1⟩ := Array.any_eq_true'.1 h
  rw [Bool.and_eq_true, beq_iff_eq] at h1
  rw [← h1.2]
  exact hd e he h1.1
end
end Go.Proofs.Ytlckoenkogaibaa.Rw
