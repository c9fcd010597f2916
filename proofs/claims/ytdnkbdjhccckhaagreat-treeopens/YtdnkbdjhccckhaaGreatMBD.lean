import Derived.Test.YtdnkbdjhccckhaaGreatMAA
namespace Go.Proofs.YtdnkbdjhccckhaaGreat
open Go
def contQ (Q: Exit -> Act -> World -> Prop) (K: Act -> World -> Prop): Exit -> Act -> World -> Prop
 | .normal,a,w => K a w
 | e,a,w => Q e a w
section
variable {P: Program} {md: Region.Mode} {ops: Array Oper} {Q: Exit -> Act -> World -> Prop}
theorem wp_cont {K: Act -> World -> Prop} {o: Oper} {a: Act} {w: World} {next: Act -> World -> Prop} (h: o.wp P a w next (contQ Q K)): o.wp P a w next Q := by
 unfold Oper.wp at *
 generalize (execOp a.eval o).run P w = r at *
 cases r with
 | ok n w' =>
  cases n <;> simp only [Oper.upon] at h ⊢ <;> first
   | exact h
   | exact Calls.mono h (fun e w'' he => by cases e <;> exact he)
 | halt x w' => cases x <;> simp only [Oper.upon] at h ⊢ <;> exact h
def fillB (listed: Array Bool) (k: Nat): Nat -> Array Bool
 | 0 => listed
 | f + 1 => fillB (listed.setIfInBounds k true) (k + 1) f
def seqF (md: Region.Mode) (ops: Array Oper): Nat -> Nat -> Array Bool -> Bool
 | 0,_,_ => true
 | g + 1,k,listed => decide (Region.ready md ops listed = [k]) && seqF md ops g (k + 1) (listed.setIfInBounds k true)
theorem any_of_seg {K: Act -> World -> Prop} {g: Nat}: ∀ (l: List Oper) (k: Nat) (listed: Array Bool) (a: Act) (w: World),(∀ j,j < l.length -> l[j]? = ops[k + j]?) -> seqF md ops l.length k listed = true -> wpList P ops (contQ Q K) l a w -> (∀ a' w',K a' w' -> wpAny P md ops Q g (fillB listed k l.length) a' w') -> wpAny P md ops Q (l.length + g) listed a w
 | [],k,listed,a,w,_,_,h,hK => by
  rw [List.length_nil,Nat.zero_add]
  exact hK a w h
 | o :: l,k,listed,a,w,hl,hB,h,hK => by
  have h0: ops[k]? = some o := by simpa using (hl 0 (by simp)).symm
  simp only [List.length_cons,seqF,Bool.and_eq_true,decide_eq_true_eq] at hB
  rw [List.length_cons,Nat.succ_add]
  refine ⟨fun h1 => (by rw [hB.1] at h1; cases h1),fun i hi => ?_⟩
  rw [hB.1] at hi
  have hik: i = k := by simpa using hi
  subst hik
  have hw: wpOp P ops Q i (wpList P ops (contQ Q K) l) a w := by
   unfold wpOp
   simp only [h0]
   unfold wpList at h
   split
   · rename_i hwt
     rw [if_pos hwt] at h
     exact h.imp wp_cont id
   · rename_i hwt
     rw [if_neg hwt] at h
     exact h
  exact wpOp_mono (fun a' w' h' => any_of_seg l (i + 1) _ a' w' (fun j hj => by have := hl (j + 1) (by simp; omega); simpa [Nat.add_assoc,Nat.add_comm 1 j] using this) hB.2 h' hK) hw
def Waits (md: Region.Mode) (ops: Array Oper) (n: Nat): Prop := ∀ listed,HeadInv md ops n listed -> ∀ i,i < n -> listed.getD i true = false -> ∀ t,n <= t -> t ∉ Region.ready md ops listed
def linkB (md: Region.Mode) (ops: Array Oper) (n: Nat): Bool :=
 (List.range ops.size).all fun t => decide (t <= n) || (List.range ops.size).any fun j => decide (n <= j) && Region.waitsFor md ops t j
theorem waits_of {n: Nat} (hs: Region.sinkB md ops n = true) (hc: linkB md ops n = true): Waits md ops n := by
 intro listed inv i hi hun
 suffices H: ∀ (d i: Nat),n - i = d -> i < n -> listed.getD i true = false -> ∀ t,n <= t -> t ∉ Region.ready md ops listed from H _ i rfl hi hun
 clear hi hun i
 intro d
 induction d using Nat.strongRecOn with
 | _ d ih =>
  intro i hd hi hun t ht hr
  obtain ⟨_,ot,hot,hall⟩ := mem_ready.1 hr
  have htlt: t < ops.size := (Array.getElem?_eq_some_iff.1 hot).1
  by_cases htn: t = n
  · subst htn
    have h1 := List.all_eq_true.1 hs i (List.mem_range.2 hi)
    obtain ⟨j,hj,hj2⟩ := List.any_eq_true.1 h1
    simp only [Bool.and_eq_true,decide_eq_true_eq] at hj2
    obtain ⟨oj,hoj,e,he,hb,hon⟩ := Region.waitsFor_spec hj2.2
    have hjle: j <= t := by have := List.mem_range.1 hj; omega
    by_cases hjt: j = t
    · subst hjt
      have: oj = ot := Option.some.inj (hoj.symm.trans hot)
      subst this
      have h2 := hall e he hb
      rw [hon,getD_both hun] at h2
      cases h2
    · cases hl: listed.getD j false with
      | true =>
       have h2 := inv.closed j oj hoj hl e he hb
       rw [hon,getD_both hun] at h2
       cases h2
      | false =>
       have hjs: j < listed.size := by rw [inv.size]; omega
       exact ih (t - j) (by omega) j rfl (by omega) (getD_in hjs hl) t (Nat.le_refl _) hr
  · have h1 := List.all_eq_true.1 hc t (List.mem_range.2 htlt)
    simp only [Bool.or_eq_true,decide_eq_true_eq] at h1
    rcases h1 with h1 | h1
    · omega
    · obtain ⟨j,hj,hj2⟩ := List.any_eq_true.1 h1
      simp only [Bool.and_eq_true,decide_eq_true_eq] at hj2
      obtain ⟨o',ho',e,he,hb,hon⟩ := Region.waitsFor_spec hj2.2
      have: o' = ot := Option.some.inj (ho'.symm.trans hot)
      subst this
      have h2 := hall e he hb
      rw [hon,getD_both (inv.tail j hj2.1 (List.mem_range.1 hj))] at h2
      cases h2
theorem headQ_firstW {C: World -> Prop} {n i: Nat} {oi: Oper} {v: Value} {L: Array Bool -> Act -> Prop} (hi: ops[i]? = some oi) (hsel: ∀ (j: Nat) (o: Oper) cs b,ops[j]? = some o -> o.op ≠ .select cs b) (hw: Waits md ops n) (hin: i < n)
 (hL: ∀ done a,L done a -> ∀ j ∈ Region.ready md ops done,n <= j) (f: Nat) :
 ∀ (done: Array Bool) (a: Act),HeadInv md ops n done ->
  (∀ j oj,ops[j]? = some oj -> j ≠ i -> done.getD j true = false -> (∀ e ∈ oj.after,Region.binds md e = true -> e.on ≠ i) -> oi.apart ops oj = true) ->
  i ∈ Region.ready md ops done -> YieldsIn P ops C oi v a ->
  headQ P md ops C n L f (done.setIfInBounds i true) (a.put oi.dst v) -> headQ P md ops C n L (f + 1) done a := by
 induction f with
 | zero =>
  intro done a inv _ hr hy H
  refine ⟨List.ne_nil_of_mem hr,fun j hj => ?_⟩
  have hjn: j < n := Nat.lt_of_not_le fun h => hw done inv i hin (mem_ready.1 hr).1 j h hj
  refine ⟨hjn, ?_⟩
  by_cases e: j = i
  · cases e; exact hy.qOp hi H
  · exact absurd (hL _ _ H j (ready_mono hj e)) (by omega)
 | succ f ih =>
  intro done a inv hfree hr hy H
  refine ⟨List.ne_nil_of_mem hr,fun j hj => ?_⟩
  have hun := (mem_ready.1 hr).1
  have hjn: j < n := Nat.lt_of_not_le fun h => hw done inv i hin hun j h hj
  refine ⟨hjn, ?_⟩
  by_cases e: j = i
  · cases e; exact hy.qOp hi H
  obtain ⟨hjun,oj,hoj,hall⟩ := mem_ready.1 hj
  have hap := hfree j oj hoj e hjun fun x hx hb q => by
   have := hall x hx hb
   rw [q,getD_both hun] at this
   cases this
  refine qOp_mono (fun a' h3 => ih _ a' (inv.set hj hjn) (fun k ok hk hki hu hno => hfree k ok hk hki ?_ hno) (ready_mono hr (Ne.symm e)) h3.1 ?_)
   (qOp_put hoj hap (fun cs b => hsel i oi cs b hi) (fun cs b => hsel j oj cs b hoj) hy (H.2 j (ready_mono hj e)).2)
  · by_cases q: j = k
    · cases q; exact hjun
    · rwa [getD_set_ne true q] at hu
  · rw [Array.setIfInBounds_comm _ _ e]; exact h3.2
def lexF (md: Region.Mode) (ops: Array Oper): Nat -> Nat -> Array Bool -> Bool
 | 0,_,_ => true
 | f + 1,k,listed => (Region.ready md ops listed).contains k && Region.free md ops listed k && lexF md ops f (k + 1) (listed.setIfInBounds k true)
theorem headQ_lexW {C: World -> Prop} {n: Nat} {R: Act -> Prop} {F: Array Bool} (hsel: Region.noSelect ops = true) (hw: Waits md ops n) (hF: ∀ j ∈ Region.ready md ops F,n <= j) (l: List Oper) :
 ∀ (k: Nat) (done: Array Bool) (a: Act),(∀ j,j < l.length -> l[j]? = ops[k + j]?) -> k + l.length = n -> HeadInv md ops n done ->
 lexF md ops l.length k done = true -> fillB done k l.length = F -> wpQuiet P ops C R l a ->
 headQ P md ops C n (fun done' a' => done' = F /\ R a') l.length done a := by
 induction l with
 | nil => intro k done a _ _ _ _ hf h; exact ⟨hf,h⟩
 | cons o l ih =>
  intro k done a hl hk inv hB hf h
  have h0: ops[k]? = some o := by simpa using (hl 0 (by simp)).symm
  simp only [List.length_cons,lexF,Bool.and_eq_true] at hB
  obtain ⟨⟨hr,hfr⟩,hB'⟩ := hB
  have hkn: k < n := by simp only [List.length_cons] at hk; omega
  have hr': k ∈ Region.ready md ops done := by simpa using hr
  obtain ⟨v,hy,hK⟩ := yieldsIn_of_qOp (P := P) (C := C) (K := wpQuiet P ops C R l) h0 (by unfold qOp; simp only [h0]; exact h)
  exact headQ_firstW h0 (Region.noSelect_spec hsel) hw hkn (fun _ _ hL => by rw [hL.1]; exact hF) _ done a inv (Region.free_spec h0 hfr) hr' hy
   (ih (k + 1) _ _ (fun j hj => by have := hl (j + 1) (by simp; omega); simpa [Nat.add_assoc,Nat.add_comm 1 j] using this) (by simp only [List.length_cons] at hk; omega) (inv.set hr' hkn) hB' hf hK)
def invB (md: Region.Mode) (ops: Array Oper) (n: Nat) (listed: Array Bool): Bool :=
 decide (listed.size = ops.size) && (List.range ops.size).all (fun j => !listed.getD j false || (match ops[j]? with | none => true | some o => o.after.all fun e => !Region.binds md e || listed.getD e.on false)) && (List.range ops.size).all fun t => decide (t < n) || !listed.getD t true
theorem inv_of {n: Nat} {listed: Array Bool} (h: invB md ops n listed = true): HeadInv md ops n listed := by
 simp only [invB,Bool.and_eq_true,decide_eq_true_eq] at h
 obtain ⟨⟨h1,h2⟩,h3⟩ := h
 refine ⟨h1,fun j oj hj hl e he hb => ?_,fun t ht hlt => ?_⟩
 · have hjl := (Array.getElem?_eq_some_iff.1 hj).1
   have := List.all_eq_true.1 h2 j (List.mem_range.2 hjl)
   simp only [hj,hl,Bool.not_true,Bool.false_or] at this
   have := Array.all_eq_true_iff_forall_mem.1 this e he
   simpa [hb] using this
 · have := List.all_eq_true.1 h3 t (List.mem_range.2 hlt)
   simp only [Bool.or_eq_true,decide_eq_true_eq,Bool.not_eq_true'] at this
   exact this.resolve_left (by omega)
def phasesB (md: Region.Mode) (ops: Array Oper) (n1 n2 n3: Nat): Bool :=
 let F0 := Array.replicate ops.size false
 let F1 := fillB F0 0 n1
 let F2 := fillB F1 n1 (n2 - n1)
 let F3 := fillB F2 n2 (n3 - n2)
 Region.noSelect ops && decide (n1 <= n2) && decide (n2 <= n3) && decide (n3 <= ops.size) && Region.sinkB md ops n1 && linkB md ops n1 && Region.sinkB md ops n3 && linkB md ops n3 &&
  lexF md ops n1 0 F0 && (Region.ready md ops F1).all (fun j => decide (n1 <= j)) && seqF md ops (n2 - n1) n1 F1 && invB md ops n3 F2 && lexF md ops (n3 - n2) n2 F2 && (Region.ready md ops F3).all (fun j => decide (n3 <= j)) && Region.seqB md ops (ops.size - n3) n3 F3
end
theorem wp_region_phases {P: Program} {id: Nat} {Q: Exit -> Act -> World -> Prop} {a: Act} {w: World} {l: List Oper} (C: World -> Prop) (n1 n2 n3: Nat) (hm: P.follows .mixedOrders = true) (hB: phasesB .any l.toArray n1 n2 n3 = true)
 (hC: C { w with drawn := w.drawn + 1 })
 (h: wpQuiet P l.toArray C (fun a1 => ∀ w1,C w1 -> ∀ K: Act -> World -> Prop,(∀ a2 w2,wpQuiet P l.toArray (fun w' => w' = w2) (fun a3 => wpList P l.toArray Q (l.drop n3) a3 w2) ((l.take n3).drop n2) a2 -> K a2 w2) -> wpList P l.toArray (contQ Q K) ((l.take n2).drop n1) a1 w1) (l.take n1) a): (Code.region id l.toArray true).wp P Q a w := by
 simp only [phasesB,Bool.and_eq_true,decide_eq_true_eq] at hB
 obtain ⟨⟨⟨⟨⟨⟨⟨⟨⟨⟨⟨⟨⟨⟨hsel,h12⟩,h23⟩,h3⟩,hs1⟩,hc1⟩,hs3⟩,hc3⟩,hx1⟩,hr1⟩,hq1⟩,hi2⟩,hx2⟩,hr3⟩,hq3⟩ := hB
 have hsz: l.toArray.size = l.length := by simp
 have hl1: (l.take n1).length = n1 := by simp; omega
 have hl2: ((l.take n2).drop n1).length = n2 - n1 := by simp; omega
 have hl3: ((l.take n3).drop n2).length = n3 - n2 := by simp; omega
 have hl4: (l.drop n3).length = l.toArray.size - n3 := by simp
 have inv0: HeadInv .any l.toArray n1 (Array.replicate l.toArray.size false) :=
  ⟨by simp,fun j oj _ hl => (by rw [getD_replicate_false] at hl; cases hl),fun t _ ht => getD_in (by simpa using ht) (getD_replicate_false _ _)⟩
 have H := headQ_lexW (P := P) (md := .any) (C := C) hsel (waits_of hs1 hc1) (fun j hj => by simpa using List.all_eq_true.1 hr1 j hj) (l.take n1) 0 _ a (fun j hj => by
  have hj': j < n1 := by rw [hl1] at hj; exact hj
  simp [hj']) (by rw [hl1]; omega) inv0 (by rw [hl1]; exact hx1) (by rw [hl1]) h
 refine wp_region_any hm ?_
 have K := any_of_headQ (P := P) (md := .any) (ops := l.toArray) (C := C) (n := n1) (g := l.toArray.size - n1) (Q' := Q) (fun done a1 w1 hw1 hL => ?_) n1 _ a _ hC (by rw [hl1] at H; exact H)
 · rw [show n1 + (l.toArray.size - n1) = l.toArray.size by omega] at K
   exact K
 · obtain ⟨rfl,hL⟩ := hL
   have hL1 := hL w1 hw1 _ fun _ _ h => h
   rw [show l.toArray.size - n1 = ((l.take n2).drop n1).length + (l.toArray.size - n2) by rw [hl2]; omega]
   refine any_of_seg (md := .any) ((l.take n2).drop n1) n1 _ a1 w1 (fun j hj => ?_) (by rw [hl2]; exact hq1) hL1 (fun a2 w2 hK => ?_)
   · rw [hl2] at hj
     simp [List.getElem?_drop,List.getElem?_take]
     omega
   · rw [hl2]
     have H2 := headQ_lexW (P := P) (md := .any) (C := fun w' => w' = w2) hsel (waits_of hs3 hc3) (fun j hj => by simpa using List.all_eq_true.1 hr3 j hj) ((l.take n3).drop n2) n2 _ a2 (fun j hj => by
      rw [hl3] at hj
      simp [List.getElem?_drop,List.getElem?_take]
      omega) (by rw [hl3]; omega) (inv_of hi2) (by rw [hl3]; exact hx2) (by rw [hl3]) hK
     rw [hl3] at H2
     have K2 := any_of_headQ (P := P) (md := .any) (ops := l.toArray) (C := fun w' => w' = w2) (n := n3) (g := l.toArray.size - n3) (Q' := Q) (fun done a3 w3 hw3 hL3 => by
      obtain ⟨rfl,hL3⟩ := hL3
      cases hw3
      have := wpAny_of_seq (md := .any) (Q' := Q) (P := P) (ops := l.toArray) (l.drop n3) n3 _ a3 w2 (fun j => by simp [List.getElem?_drop]) (by rw [hl4]; exact hq3) hL3
      rwa [hl4] at this) (n3 - n2) _ a2 w2 rfl H2
     rw [show n3 - n2 + (l.toArray.size - n3) = l.toArray.size - n2 by omega] at K2
     exact K2
end Go.Proofs.YtdnkbdjhccckhaaGreat
