import Derived.OrdersHeld
import Derived.StillTail
import Derived.Deep.RegionHeld3
namespace Go.Proofs.YteibhbnlcpejpaaGreat.HeT
open Go
section
variable {P: Program} {md: Region.Mode} {ops: Array Oper} {Q: Exit -> Act -> World -> Prop} {S: World -> Prop} {n: Nat}
theorem pT {α: Type}: (∀ (l: List α) (i: Nat) (x: α),l.toArray.setIfInBounds i x = (l.set i x).toArray) /\ (∀ (a: α) (l: List α) (b: α),(a :: l).set 0 b = b :: l) /\ (∀ (a: α) (l: List α) (n: Nat) (b: α),(a :: l).set (n + 1) b = a :: l.set n b) := ⟨fun _ _ _ => List.setIfInBounds_toArray .., fun _ _ _ => rfl,fun _ _ _ _ => rfl⟩
def wpAnyT (P: Program) (md: Region.Mode) (ops: Array Oper) (Q: Exit -> Act -> World -> Prop) (S: World -> Prop) (n: Nat): Nat -> Array Bool -> Act -> World -> Prop
 | 0,listed,a,w => Region.ready md ops listed = [] /\ Q .normal a w
 | fuel + 1,listed,a,w =>
  (Region.ready md ops listed = [] -> Q .normal a w) /\
  ∀ i ∈ Region.ready md ops listed,wpOp P ops Q i (fun a' w' => (i < n -> S w') /\ wpAnyT P md ops Q S n fuel (listed.setIfInBounds i true) a' w') a w
theorem any_of_T: ∀ (fuel: Nat) (listed: Array Bool) (a: Act) (w: World),wpAnyT P md ops Q S n fuel listed a w -> wpAny P md ops Q fuel listed a w
 | 0,_,_,_,h => h
 | fuel + 1,_,_,_,h => ⟨h.1,fun i hi => wpOp_mono (fun a' w' h' => any_of_T fuel _ a' w' h'.2) (h.2 i hi)⟩
theorem first {i: Nat} {oi: Oper} {v: Value} (hi: ops[i]? = some oi) (hsel: ∀ (j: Nat) (o: Oper) cs b,ops[j]? = some o -> o.op ≠ .select cs b)
 (hQ: ∀ c a w,Q (.panic c) (a.put oi.dst v) w -> Q (.panic c) a w) (ht: ∀ t ot,ops[t]? = some ot -> n <= t -> ∃ e ∈ ot.after,Region.binds md e = true /\ e.on = i) (hin: i < n) :
 ∀ (fuel: Nat) (listed: Array Bool) (a: Act) (w: World),
  (∀ j oj,ops[j]? = some oj -> j ≠ i -> listed.getD j true = false -> (∀ e ∈ oj.after,Region.binds md e = true -> e.on ≠ i) -> oi.apart ops oj = true) ->
  i ∈ Region.ready md ops listed -> YieldsIf P ops S oi v a -> S w ->
  wpAnyT P md ops Q S n fuel (listed.setIfInBounds i true) (a.put oi.dst v) w -> wpAnyT P md ops Q S n (fuel + 1) listed a w := by
 intro fuel
 induction fuel with
 | zero =>
  intro listed a w _ hr hy hS H
  refine ⟨fun h => (by rw [h] at hr; cases hr),fun j hj => ?_⟩
  by_cases hji: j = i
  · subst hji; exact hy.wpOp hi hS ⟨fun _ => hS,H⟩
  · have := ready_mono hj hji
    rw [H.1] at this
    cases this
 | succ fuel ih =>
  intro listed a w hfree hr hy hS H
  refine ⟨fun h => (by rw [h] at hr; cases hr),fun j hj => ?_⟩
  by_cases hji: j = i
  · subst hji; exact hy.wpOp hi hS ⟨fun _ => hS,H⟩
  · have h1 := H.2 j (ready_mono hj hji)
    obtain ⟨hjun,oj,hoj,hall⟩ := mem_ready.1 hj
    have hnot: ∀ e ∈ oj.after,Region.binds md e = true -> e.on ≠ i := fun e he hb heq => by
     have h1 := hall e he hb
     have h0 := (mem_ready.1 hr).1
     rw [heq] at h1
     rcases Nat.lt_or_ge i listed.size with h' | h'
     · simp [h'] at h0 h1; rw [h0] at h1; cases h1
     · simp [Array.getElem?_eq_none h'] at h1
    have hjn: j < n := Nat.lt_of_not_le fun hge => by
     obtain ⟨e,he,hb,heq⟩ := ht j oj hoj hge
     exact hnot e he hb heq
    have h2 := wpOp_putIf hoj (hfree j oj hoj hji hjun hnot) (fun cs b => hsel i oi cs b hi) (fun cs b => hsel j oj cs b hoj) hQ hy h1
    have hfree': ∀ k ok,ops[k]? = some ok -> k ≠ i -> (listed.setIfInBounds j true).getD k true = false ->
     (∀ e ∈ ok.after,Region.binds md e = true -> e.on ≠ i) -> oi.apart ops ok = true := fun k ok hk hki hun hno => by
     refine hfree k ok hk hki ?_ hno
     by_cases hjk: j = k
     · subst hjk; exact hjun
     · rw [getD_set_ne true hjk] at hun; exact hun
    refine wpOp_mono (fun a' w' h3 => ⟨h3.2.1,ih (listed.setIfInBounds j true) a' w' hfree' (ready_mono hr (Ne.symm hji)) h3.1 (h3.2.1 hjn) ?_⟩) h2
    rw [Array.setIfInBounds_comm _ _ hji]
    exact h3.2.2
def tailW (md: Region.Mode) (ops: Array Oper) (n i: Nat): Bool := (List.range ops.size).all fun t => decide (t < n) || Region.waitsFor md ops t i
theorem take {i: Nat} {oi: Oper} {v: Value} {fuel: Nat} {listed: Array Bool} {a: Act} {w: World} (hi: ops[i]? = some oi)
 (hs: Region.noSelect ops = true) (hf: Region.free md ops listed i = true) (hr: (Region.ready md ops listed).contains i = true) (ht: tailW md ops n i = true) (hin: i < n)
 (hQ: ∀ c a w,Q (.panic c) (a.put oi.dst v) w -> Q (.panic c) a w) (hy: YieldsIf P ops S oi v a) (hS: S w)
 (h: wpAnyT P md ops Q S n fuel (listed.setIfInBounds i true) (a.put oi.dst v) w): wpAnyT P md ops Q S n (fuel + 1) listed a w :=
 first hi (Region.noSelect_spec hs) hQ (fun t ot hot hge => by
  have h1 := List.all_eq_true.1 ht t (List.mem_range.2 (Array.getElem?_eq_some_iff.1 hot).1)
  simp only [Bool.or_eq_true,decide_eq_true_eq] at h1
  obtain ⟨o',ho',e,he,hb,hon⟩ := Region.waitsFor_spec (h1.resolve_left (by omega))
  have: o' = ot := Option.some.inj (ho'.symm.trans hot)
  subst this
  exact ⟨e,he,hb,hon⟩) hin fuel listed a w (Region.free_spec hi hf) (by simpa using hr) hy hS h
def StepT (P: Program) (md: Region.Mode) (ops: Array Oper) (Q: Exit -> Act -> World -> Prop) (S: World -> Prop) (n fuel: Nat) (listed: Array Bool) (a: Act) (w: World) (i: Nat) (o: Oper): Prop :=
 ∀ K: Act -> World -> Prop,(∀ a' w',S w' -> wpAnyT P md ops Q S n fuel (listed.setIfInBounds i true) a' w' -> K a' w') -> if Region.wanted o (yielded ops a.tmps) = true then Oper.wp P o a w K Q else K (a.put o.dst undef) w
theorem StepT.op {fuel: Nat} {listed: Array Bool} {a: Act} {w: World} {i: Nat} {o: Oper} (ho: ops[i]? = some o) (h: StepT P md ops Q S n fuel listed a w i o): wpOp P ops Q i (fun a' w' => (i < n -> S w') /\ wpAnyT P md ops Q S n fuel (listed.setIfInBounds i true) a' w') a w := by
 have h1 := h (fun a' w' => (i < n -> S w') /\ wpAnyT P md ops Q S n fuel (listed.setIfInBounds i true) a' w') fun a' w' hs hr => ⟨fun _ => hs,hr⟩
 unfold wpOp
 simp only [ho]
 split
 · rename_i hw; rw [if_pos hw] at h1; exact Or.inl h1
 · rename_i hw; rw [if_neg hw] at h1; exact h1
theorem one {fuel: Nat} {listed: Array Bool} {a: Act} {w: World} {i: Nat} {o: Oper} (hr: Region.ready md ops listed = [i]) (ho: ops[i]? = some o) (h: StepT P md ops Q S n fuel listed a w i o): wpAnyT P md ops Q S n (fuel + 1) listed a w :=
 ⟨(fun h0 => by rw [hr] at h0; cases h0),fun j hj => by
  rw [hr] at hj
  cases List.mem_singleton.1 hj
  exact h.op ho⟩
theorem two {fuel: Nat} {listed: Array Bool} {a: Act} {w: World} {i j: Nat} {o o': Oper} (hr: Region.ready md ops listed = [i,j]) (ho: ops[i]? = some o) (ho': ops[j]? = some o') (h: StepT P md ops Q S n fuel listed a w i o) (h': StepT P md ops Q S n fuel listed a w j o'): wpAnyT P md ops Q S n (fuel + 1) listed a w :=
 ⟨(fun h0 => by rw [hr] at h0; cases h0),fun k hk => by
  rw [hr] at hk
  rcases List.mem_cons.1 hk with rfl | hk
  · exact h.op ho
  · cases List.mem_singleton.1 hk
    exact h'.op ho'⟩
theorem rest: ∀ (l: List Oper) (k: Nat) (listed: Array Bool) (a: Act) (w: World),(∀ j,l[j]? = ops[k + j]?) -> n <= k -> Region.seqB md ops l.length k listed = true -> wpList P ops Q l a w -> wpAnyT P md ops Q S n l.length listed a w
 | [],_,_,_,_,_,_,hB,h => ⟨by simpa [Region.seqB] using hB,h⟩
 | o :: l,k,listed,a,w,hl,hk,hB,h => by
  have h0: ops[k]? = some o := by simpa using (hl 0).symm
  simp only [List.length_cons,Region.seqB,Bool.and_eq_true,decide_eq_true_eq] at hB
  refine ⟨fun h1 => (by rw [hB.1] at h1; cases h1),fun i hi => ?_⟩
  rw [hB.1] at hi
  have hik: i = k := by simpa using hi
  subst hik
  have hw: wpOp P ops Q i (wpList P ops Q l) a w := by unfold wpOp; simp only [h0]; exact h
  exact wpOp_mono (fun a' w' h' => ⟨fun hlt => absurd hlt (by omega),rest l (i + 1) _ a' w' (fun j => by have := hl (j + 1); simpa [Nat.add_assoc,Nat.add_comm 1 j] using this) (by omega) hB.2 h'⟩) hw
theorem rest2 {fuel k: Nat} {listed: Array Bool} {a: Act} {w: World} (hf: fuel = ops.size - k) (hk: n <= k) (hB: Region.seqB md ops (ops.size - k) k listed = true) (h: wpList P ops Q (ops.toList.drop k) a w): wpAnyT P md ops Q S n fuel listed a w := by
 have hl: (ops.toList.drop k).length = ops.size - k := by simp
 have := rest (P := P) (Q := Q) (S := S) (n := n) (md := md) (ops := ops) (ops.toList.drop k) k listed a w (fun j => by simp [List.getElem?_drop]) hk (by rw [hl]; exact hB) h
 rw [hl, <- hf] at this
 exact this
end
theorem begin_ {P: Program} {id: Nat} {ops: Array Oper} {Q: Exit -> Act -> World -> Prop} {a: Act} {w: World} (S: World -> Prop) (n: Nat) (hm: P.follows .mixedOrders = true)
 (h: wpAnyT P .any ops (NoPanic Q) S n ops.size (Array.replicate ops.size false) a w.drew): (Code.region id ops true).wp P Q a w :=
 wp_region_noPanic (wp_region_any hm (any_of_T _ _ _ _ h))
end Go.Proofs.YteibhbnlcpejpaaGreat.HeT
