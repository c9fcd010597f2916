import Derived.StillTail
import Derived.Deep.QuietTactic
import Derived.BigQuiet
namespace Go.Proofs.YteibhbnlcpejpaaGreat
open Go
def headQ (P: Program) (md: Region.Mode) (ops: Array Oper) (C: World -> Prop) (n: Nat) (L: Array Bool -> Act -> Prop): Nat -> Array Bool -> Act -> Prop
 | 0,done,a => L done a
 | f + 1,done,a => Region.ready md ops done ≠ [] /\ ∀ i ∈ Region.ready md ops done,i < n /\ qOp P ops C i (headQ P md ops C n L f (done.setIfInBounds i true)) a
theorem any_of_headQ {P: Program} {md: Region.Mode} {ops: Array Oper} {C: World -> Prop} {n g: Nat} {L: Array Bool -> Act -> Prop} {Q': Exit -> Act -> World -> Prop} (hL: ∀ done a w,C w -> L done a -> wpAny P md ops Q' g done a w) (f: Nat) :
 ∀ (done: Array Bool) (a: Act) (w: World),C w -> headQ P md ops C n L f done a -> wpAny P md ops Q' (f + g) done a w := by
 induction f with
 | zero => intro done a w hw h; rw [Nat.zero_add]; exact hL _ _ _ hw h
 | succ f ih =>
  intro done a w hw h
  rw [Nat.succ_add]
  exact ⟨fun e => absurd e h.1,fun i hi => wpOp_of_qOp hw (fun a' w' hw' h' => ih _ a' w' hw' h') (h.2 i hi).2⟩
theorem headQ_first {P: Program} {md: Region.Mode} {ops: Array Oper} {C: World -> Prop} {n i: Nat} {oi: Oper} {v: Value} {L: Array Bool -> Act -> Prop} (hi: ops[i]? = some oi) (hsel: ∀ (j: Nat) (o: Oper) cs b,ops[j]? = some o -> o.op ≠ .select cs b)
 (hs: Region.sinkB md ops n = true) (hc: Region.chainB md ops n = true) (hn: n < ops.size) (hin: i < n)
 (hL: ∀ done a,L done a -> ∀ j ∈ Region.ready md ops done,n <= j) (f: Nat) :
 ∀ (done: Array Bool) (a: Act),HeadInv md ops n done ->
  (∀ j oj,ops[j]? = some oj -> j ≠ i -> done.getD j true = false -> (∀ e ∈ oj.after,Region.binds md e = true -> e.on ≠ i) -> oi.apart ops oj = true) ->
  i ∈ Region.ready md ops done -> YieldsIn P ops C oi v a ->
  headQ P md ops C n L f (done.setIfInBounds i true) (a.put oi.dst v) -> headQ P md ops C n L (f + 1) done a := by
 induction f with
 | zero =>
  intro done a inv _ hr hy H
  refine ⟨List.ne_nil_of_mem hr,fun j hj => ?_⟩
  have hjn: j < n := Nat.lt_of_not_le fun h => tail_waits hs hc hn inv _ i rfl hin (mem_ready.1 hr).1 j h hj
  refine ⟨hjn, ?_⟩
  by_cases e: j = i
  · cases e; exact hy.qOp hi H
  · exact absurd (hL _ _ H j (ready_mono hj e)) (by omega)
 | succ f ih =>
  intro done a inv hfree hr hy H
  refine ⟨List.ne_nil_of_mem hr,fun j hj => ?_⟩
  have hun := (mem_ready.1 hr).1
  have hjn: j < n := Nat.lt_of_not_le fun h => tail_waits hs hc hn inv _ i rfl hin hun j h hj
  refine ⟨hjn, ?_⟩
  by_cases e: j = i
  · cases e; exact hy.qOp hi H
  obtain ⟨hjun,oj,hoj,hall⟩ := mem_ready.1 hj
  have hap := hfree j oj hoj e hjun fun x hx hb q => by
   have := hall x hx hb
   rw [q,getD_both hun] at this
   cases this
  refine qOp_mono (fun a' h3 => ih _ a' (inv.set hj hjn) (fun k ok hk hki hu hno => hfree k ok hk hki ?_ hno) (ready_mono hr (Ne.symm e)) h3.1 ?_)
   (qOp_put hoj hap (fun cs b => hsel i oi cs b hi) (fun cs b => hsel j oj cs b hoj) hy (H.2 j (ready_mono hj e)).2)
  · by_cases q: j = k
    · cases q; exact hjun
    · rwa [getD_set_ne true q] at hu
  · rw [Array.setIfInBounds_comm _ _ e]; exact h3.2
theorem headQ_lex {P: Program} {md: Region.Mode} {ops: Array Oper} {C: World -> Prop} {n g: Nat} {R: Act -> Prop} (hsel: Region.noSelect ops = true) (hs: Region.sinkB md ops n = true) (hc: Region.chainB md ops n = true) (hn: n < ops.size) (l: List Oper) :
 ∀ (k: Nat) (done: Array Bool) (a: Act),(∀ j,j < l.length -> l[j]? = ops[k + j]?) -> k + l.length = n -> HeadInv md ops n done ->
 Region.lexHead md ops g l.length k done = true -> wpQuiet P ops C R l a ->
 headQ P md ops C n (fun done' a' => Region.seqB md ops g n done' = true /\ R a') l.length done a := by
 induction l with
 | nil =>
  intro k done a _ hk _ hB h
  cases (show k = n from hk)
  exact ⟨by simpa [Region.lexHead] using hB,h⟩
 | cons o l ih =>
  intro k done a hl hk inv hB h
  have h0: ops[k]? = some o := by simpa using (hl 0 (by simp)).symm
  simp only [List.length_cons,Region.lexHead,Bool.and_eq_true] at hB
  obtain ⟨⟨hr,hf⟩,hB'⟩ := hB
  have hkn: k < n := by simp only [List.length_cons] at hk; omega
  have hr': k ∈ Region.ready md ops done := by simpa using hr
  obtain ⟨v,hy,hK⟩ := yieldsIn_of_qOp (P := P) (C := C) (K := wpQuiet P ops C R l) h0 (by unfold qOp; simp only [h0]; exact h)
  exact headQ_first h0 (Region.noSelect_spec hsel) hs hc hn hkn (fun _ _ hL => seqB_ready hL.1) _ done a inv (Region.free_spec h0 hf) hr' hy
   (ih (k + 1) _ _ (fun j hj => by have := hl (j + 1) (by simp; omega); simpa [Nat.add_assoc,Nat.add_comm 1 j] using this) (by simp only [List.length_cons] at hk; omega) (inv.set hr' hkn) hB' hK)
theorem wp_region_quiet_tail {P: Program} {id: Nat} {Q: Exit -> Act -> World -> Prop} {a: Act} {w: World} {l: List Oper} (C: World -> Prop) (n: Nat) (hm: P.follows .mixedOrders = true) (hB: Region.lexTailB .any l.toArray n = true)
 (hC: C { w with drawn := w.drawn + 1 })
 (h: wpQuiet P l.toArray C (fun a' => ∀ w',C w' -> wpList P l.toArray Q (l.drop n) a' w') (l.take n) a): (Code.region id l.toArray true).wp P Q a w := by
 simp only [Region.lexTailB,Bool.and_eq_true,decide_eq_true_eq] at hB
 obtain ⟨⟨⟨⟨hsel,hn⟩,hs⟩,hc⟩,hlex⟩ := hB
 have htl: (l.take n).length = n := by simp at hn; simp; omega
 have hdl: (l.drop n).length = l.toArray.size - n := by simp
 have inv0: HeadInv .any l.toArray n (Array.replicate l.toArray.size false) :=
  ⟨by simp,fun j oj _ hl => (by rw [getD_replicate_false] at hl; cases hl),fun t _ ht => getD_in (by simpa using ht) (getD_replicate_false _ _)⟩
 have H := headQ_lex (md := .any) (g := l.toArray.size - n) hsel hs hc hn (l.take n) 0 _ a (fun j hj => by
  rw [htl] at hj
  simp [hj]) (by simpa using htl) inv0 (by rw [htl]; exact hlex) h
 have K := any_of_headQ (Q' := Q) (g := l.toArray.size - n) (fun done a' w' hw' hL => by
  have := wpAny_of_seq (md := .any) (Q' := Q) (l.drop n) n done a' w' (fun j => by simp [List.getElem?_drop]) (by rw [hdl]; exact hL.1) (hL.2 w' hw')
  rwa [hdl] at this) _ _ _ _ hC H
 rw [htl,show n + (l.toArray.size - n) = l.toArray.size by omega] at K
 exact wp_region_any hm K
end Go.Proofs.YteibhbnlcpejpaaGreat
