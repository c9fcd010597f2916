import Derived.StillTail
import Derived.WalkKit
namespace Go.Proofs.YteibhbnlcpejpaaGreat.Rw
open Go
section
variable {P: Program} {md: Region.Mode} {ops: Array Oper} {Q: Exit -> Act -> World -> Prop}
theorem wpOp_of {i: Nat} {o: Oper} {a: Act} {w: World} {K: Act -> World -> Prop} (hi: ops[i]? = some o) (hg: o.guard = none) (h: Oper.wp P o a w K Q): wpOp P ops Q i K a w := by
 unfold wpOp
 simp only [hi]
 rw [if_pos (by simp [Region.wanted,hg])]
 exact Or.inl h
theorem put_get (a: Act) (s: Nat) (v: Value) (hs: s < a.tmps.size): (a.put (some s) v).eval (.tmp s) = v := by
 simp [Act.put,Act.eval,hs]
theorem put_ne (a: Act) (s t: Nat) (v: Value) (h: s ≠ t): (a.put (some s) v).eval (.tmp t) = a.eval (.tmp t) := by
 simp [Act.put,Act.eval,Array.getElem?_setIfInBounds_ne h]
theorem put_size (a: Act) (s: Option Nat) (v: Value): (a.put s v).tmps.size = a.tmps.size := by
 cases s <;> simp [Act.put]
end
section
variable {P: Program} {md: Region.Mode} {ops: Array Oper} {Q: Exit -> Act -> World -> Prop}
theorem all_of_noneS {done: Array Bool} (hsz: done.size = ops.size) (hlow: ∀ (i: Nat) (o: Oper),ops[i]? = some o -> ∀ e ∈ o.after,Region.binds md e = true -> e.on < i) (h: Region.ready md ops done = []): ∀ i,i < ops.size -> done.getD i false = true := by
 intro i
 induction i using Nat.strongRecOn with
 | _ i ih =>
  intro hi
  cases hd: done.getD i false with
  | true => rfl
  | false =>
   exfalso
   have: i ∈ Region.ready md ops done := mem_ready.2 ⟨getD_in (by omega) hd,ops[i],Array.getElem?_eq_getElem hi,fun e he hb => ih e.on (hlow i _ (Array.getElem?_eq_getElem hi) e he hb) (Nat.lt_trans (hlow i _ (Array.getElem?_eq_getElem hi) e he hb) hi)⟩
   rw [h] at this
   cases this
end
theorem filt_one {p: Nat -> Bool} (i: Nat) (hp: p i = true): ∀ (l: List Nat),l.Nodup -> i ∈ l -> (l.filter fun j => p j && !(j == i)).length + 1 = (l.filter p).length
 | [],_,h => by cases h
 | x :: l,hn,h => by
  obtain ⟨hx,hl⟩ := List.nodup_cons.1 hn
  by_cases e: x = i
  · subst e
    have h1: (l.filter fun j => p j && !(j == x)) = l.filter p := List.filter_congr fun j hj => by
     have: (j == x) = false := beq_eq_false_iff_ne.2 fun e => hx (e ▸ hj)
     simp [this]
    rw [List.filter_cons_of_neg (by simp),List.filter_cons_of_pos hp,h1]
    simp
  · have hi: i ∈ l := (List.mem_cons.1 h).resolve_left (Ne.symm e)
    have ih := filt_one i hp l hl hi
    have hxi: (x == i) = false := beq_eq_false_iff_ne.2 e
    cases hpx: p x
    · rw [List.filter_cons_of_neg (by simp [hpx]),List.filter_cons_of_neg (by simp [hpx])]
      exact ih
    · rw [List.filter_cons_of_pos (by simp [hpx,hxi]),List.filter_cons_of_pos hpx]
      simp only [List.length_cons]
      omega
section
variable {P: Program} {md: Region.Mode} {ops: Array Oper} {Q: Exit -> Act -> World -> Prop}
theorem any_of_headI {n g: Nat} (I: (Nat -> Bool) -> Act -> World -> Prop) (hs: Region.sinkB md ops n = true) (hc: Region.chainB md ops n = true) (hn: n < ops.size) (hlow: ∀ (i: Nat) (o: Oper),ops[i]? = some o -> ∀ e ∈ o.after,Region.binds md e = true -> e.on < i)
 (hstep: ∀ (d: Nat -> Bool) (a: Act) (w: World) (i: Nat) (o: Oper),ops[i]? = some o -> i < n -> d i = false -> (∀ e ∈ o.after,Region.binds md e = true -> d e.on = true) -> I d a w -> wpOp P ops Q i (I (fun j => j == i || d j)) a w)
 (hL: ∀ (done: Array Bool) (a: Act) (w: World),HeadInv md ops n done -> (∀ i,i < n -> done.getD i false = true) -> I (fun i => done.getD i false) a w -> wpAny P md ops Q g done a w) :
 ∀ (f: Nat) (done: Array Bool) (a: Act) (w: World),HeadInv md ops n done -> ((List.range n).filter fun i => !done.getD i false).length = f -> I (fun i => done.getD i false) a w -> wpAny P md ops Q (f + g) done a w := by
 intro f
 induction f with
 | zero =>
  intro done a w inv hf hI
  rw [Nat.zero_add]
  refine hL done a w inv (fun i hi => ?_) hI
  have := List.filter_eq_nil_iff.1 (List.length_eq_zero_iff.1 hf) i (List.mem_range.2 hi)
  simpa using this
 | succ f ih =>
  intro done a w inv hf hI
  obtain ⟨i0,hi0⟩ := List.exists_mem_of_length_pos (by rw [hf]; omega: 0 < ((List.range n).filter fun i => !done.getD i false).length)
  obtain ⟨h1,h2⟩ := List.mem_filter.1 hi0
  have hi0n := List.mem_range.1 h1
  have hun: done.getD i0 false = false := by simpa using h2
  have hun': done.getD i0 true = false := getD_in (by rw [inv.size]; omega) hun
  rw [show f + 1 + g = (f + g) + 1 by omega]
  refine ⟨fun hr => ?_,fun i hi => ?_⟩
  · have := all_of_noneS inv.size hlow hr i0 (by omega)
    rw [hun] at this
    cases this
  · have hin: i < n := Nat.lt_of_not_le fun h => tail_waits hs hc hn inv _ i0 rfl hi0n hun' i h hi
    obtain ⟨h3,o,ho,hall⟩ := mem_ready.1 hi
    have hd: done.getD i false = false := getD_both h3
    refine wpOp_mono (fun a' w' h' => ih _ a' w' (inv.set hi hin) ?_ ?_) (hstep _ a w i o ho hin hd hall hI)
    · have hfo := filt_one (p := fun j => !done.getD j false) i (by simp [hd]) (List.range n) List.nodup_range (List.mem_range.2 hin)
      have e: (fun j => !(done.setIfInBounds i true).getD j false) = fun j => !done.getD j false && !(j == i) := by
       funext j
       by_cases q: i = j
       · subst q
         have: i < done.size := by rw [inv.size]; omega
         simp [this]
       · rw [getD_set_ne false q]
         have: (j == i) = false := beq_eq_false_iff_ne.2 (Ne.symm q)
         simp [this]
      rw [e]
      omega
    · have e: (fun j => j == i || done.getD j false) = fun j => (done.setIfInBounds i true).getD j false := by
       funext j
       by_cases q: i = j
       · subst q
         have: i < done.size := by rw [inv.size]; omega
         simp [this]
       · rw [getD_set_ne false q]
         have: (j == i) = false := beq_eq_false_iff_ne.2 (Ne.symm q)
         rw [this]; rfl
      rw [<- e]
      exact h'
def doneN (n m: Nat): Array Bool := Array.replicate n true ++ Array.replicate (m - n) false
theorem done_is {done: Array Bool} {n: Nat} (hn: n < ops.size) (inv: HeadInv md ops n done) (h: ∀ i,i < n -> done.getD i false = true): done = doneN n ops.size := by
 unfold doneN
 refine Array.ext (by simp [inv.size]; omega) fun i h1 h2 => ?_
 have hsz := inv.size
 by_cases hi: i < n
 · have := h i hi
   simp [Array.getD,h1] at this
   rw [this,Array.getElem_append_left (by simpa using hi)]
   simp
 · have := inv.tail i (by omega) (by omega)
   simp [Array.getD,h1] at this
   rw [this,Array.getElem_append_right (by simp; omega)]
   simp
theorem wp_region_headI {id: Nat} {a: Act} {w: World} {l: List Oper} (n: Nat) (I: (Nat -> Bool) -> Act -> World -> Prop) (hm: P.follows .mixedOrders = true) (hs: Region.sinkB .any l.toArray n = true) (hc: Region.chainB .any l.toArray n = true) (hn: n < l.length) (hlow: ∀ (i: Nat) (o: Oper),l.toArray[i]? = some o -> ∀ e ∈ o.after,Region.binds .any e = true -> e.on < i)
 (hseq: Region.seqB .any l.toArray (l.length - n) n (doneN n l.length) = true) (h0: I (fun _ => false) a { w with drawn := w.drawn + 1 })
 (hstep: ∀ (d: Nat -> Bool) (a: Act) (w: World) (i: Nat) (o: Oper),l.toArray[i]? = some o -> i < n -> d i = false -> (∀ e ∈ o.after,Region.binds .any e = true -> d e.on = true) -> I d a w -> wpOp P l.toArray Q i (I (fun j => j == i || d j)) a w)
 (hend: ∀ d a w,(∀ i,i < n -> d i = true) -> I d a w -> wpList P l.toArray Q (l.drop n) a w): (Code.region id l.toArray true).wp P Q a w := by
 have inv0: HeadInv .any l.toArray n (Array.replicate l.toArray.size false) :=
  ⟨by simp,fun j oj _ hl => (by rw [getD_replicate_false] at hl; cases hl),fun t _ ht => getD_in (by simpa using ht) (getD_replicate_false _ _)⟩
 have hdl: (l.drop n).length = l.length - n := by simp
 have K := any_of_headI (P := P) (Q := Q) (g := l.length - n) I hs hc (by simpa using hn) hlow hstep (fun done a w inv hall hI => by
  have hd := done_is (by simpa using hn) inv hall
  have := wpAny_of_seq (md := .any) (Q' := Q) (P := P) (ops := l.toArray) (l.drop n) n done a w (fun j => by simp [List.getElem?_drop]) (by rw [hdl,hd]; simpa using hseq) (hend _ a w hall hI)
  rwa [hdl] at this) ((List.range n).filter fun i => !(Array.replicate l.toArray.size false).getD i false).length (Array.replicate l.toArray.size false) a { w with drawn := w.drawn + 1 } inv0 rfl (by
   have e: (fun i => (Array.replicate l.toArray.size false).getD i false) = fun _ => false := funext fun i => getD_replicate_false _ _
   rw [e]
   exact h0)
 have hlen: ((List.range n).filter fun i => !(Array.replicate l.toArray.size false).getD i false).length = n := by
  have: ((List.range n).filter fun i => !(Array.replicate l.toArray.size false).getD i false) = List.range n := List.filter_eq_self.2 fun i _ => by rw [getD_replicate_false]; rfl
  rw [this]; simp
 rw [hlen,show n + (l.length - n) = l.toArray.size by simp; omega] at K
 exact wp_region_any hm K
end
end Go.Proofs.YteibhbnlcpejpaaGreat.Rw
namespace Go.Proofs.YteibhbnlcpejpaaGreat.Rw
open Go Go.RowKit
structure FrmS (S: List Nat) (a0 a: Act): Prop where
 defers: a.defers = a0.defers
 size: a.tmps.size = a0.tmps.size
 at': ∀ t,t ∉ S -> a.tmps[t]? = a0.tmps[t]?
theorem FrmS.refl (S: List Nat) (a: Act): FrmS S a a := ⟨rfl,rfl,fun _ _ => rfl⟩
theorem FrmS.put {S: List Nat} {a0 a: Act} (h: FrmS S a0 a) {t: Nat} (ht: t ∈ S) (v: Value): FrmS S a0 (a.put (some t) v) :=
 ⟨h.defers,by rw [put_size]; exact h.size,fun u hu => by
  show (a.tmps.setIfInBounds t v)[u]? = _
  rw [Array.getElem?_setIfInBounds_ne (by rintro rfl; exact hu ht)]; exact h.at' u hu⟩
theorem FrmS.eval {S: List Nat} {a0 a: Act} (h: FrmS S a0 a) {t: Nat} (ht: t ∉ S): a.eval (.tmp t) = a0.eval (.tmp t) := by
 have e := h.at' t ht
 show a.tmps.getD t undef = a0.tmps.getD t undef
 simp [Array.getD_eq_getD_getElem?, e]
def putAll (a: Act): List Nat -> Act -> Act
 | [],b => b
 | t :: S,b => putAll a S (b.put (some t) (a.eval (.tmp t)))
theorem putAll_size (a: Act): ∀ (S: List Nat) (b: Act),(putAll a S b).tmps.size = b.tmps.size
 | [],_ => rfl
 | t :: S,b => by rw [putAll,putAll_size a S,put_size]
theorem putAll_defers (a: Act): ∀ (S: List Nat) (b: Act),(putAll a S b).defers = b.defers
 | [],_ => rfl
 | t :: S,b => by rw [putAll,putAll_defers a S]; rfl
theorem putAll_out (a: Act): ∀ (S: List Nat) (b: Act) (t: Nat),t ∉ S -> (putAll a S b).tmps[t]? = b.tmps[t]?
 | [],_,_,_ => rfl
 | s :: S,b,t,h => by
  rw [putAll,putAll_out a S _ t (fun e => h (List.mem_cons_of_mem _ e))]
  show (b.tmps.setIfInBounds s _)[t]? = _
  rw [Array.getElem?_setIfInBounds_ne (by rintro rfl; exact h List.mem_cons_self)]
theorem putAll_in (a: Act): ∀ (S: List Nat) (b: Act) (t: Nat),t ∈ S -> t < b.tmps.size -> (putAll a S b).tmps[t]? = some (a.eval (.tmp t))
 | s :: S,b,t,h,hb => by
  by_cases hS: t ∈ S
  · rw [putAll]
    exact putAll_in a S _ t hS (by rw [put_size]; exact hb)
  · have: t = s := (List.mem_cons.1 h).resolve_right hS
    subst this
    rw [putAll,putAll_out a S _ t hS]
    show (b.tmps.setIfInBounds t _)[t]? = _
    simp [hb]
theorem FrmS.all {S: List Nat} {a0 a: Act} (h: FrmS S a0 a) (hs: ∀ t ∈ S,t < a0.tmps.size): a = putAll a S a0 := by
 have e1: a.tmps = (putAll a S a0).tmps := by
  refine Array.ext_getElem? fun t => ?_
  by_cases ht: t ∈ S
  · rw [putAll_in a S a0 t ht (hs t ht)]
    have hl: t < a.tmps.size := by rw [h.size]; exact hs t ht
    rw [Array.getElem?_eq_getElem hl]
    show _ = some (a.tmps.getD t undef)
    simp [Array.getD_eq_getD_getElem?, hl]
  · rw [putAll_out a S a0 t ht,h.at' t ht]
 have e2: a.defers = (putAll a S a0).defers := by rw [putAll_defers,h.defers]
 cases a
 cases hp: putAll _ S a0
 rw [hp] at e1 e2
 simp only at e1 e2
 rw [e1,e2]
section
variable {P: Program} {Q: Exit -> Act -> World -> Prop}
structure FcI (n: Nat) (slot: Nat -> Nat) (S: List Nat) (F: Nat -> Value -> World -> Prop) (U: World) (a0: Act) (d: Nat -> Bool) (a: Act) (w: World): Prop where
 fr: FrmS S a0 a
 bel: Below U.heap.size U w
 kn: ∀ i,i < n -> d i = true -> F i (a.eval (.tmp (slot i))) w
theorem wp_region_facts {id: Nat} {a0: Act} {U: World} {l: List Oper} (n: Nat) (slot: Nat -> Nat) (S: List Nat) (F: Nat -> Value -> World -> Prop)
 (hmono: ∀ i v w w',F i v w -> Below w.heap.size w w' -> F i v w') (hinj: ∀ i j,i < n -> j < n -> slot i = slot j -> i = j) (hin: ∀ i,i < n -> slot i ∈ S) (hsz: ∀ i,i < n -> slot i < a0.tmps.size)
 (hm: P.follows .mixedOrders = true) (hs: Region.sinkB .any l.toArray n = true) (hc: Region.chainB .any l.toArray n = true) (hn: n < l.length) (hlow: ∀ (i: Nat) (o: Oper),l.toArray[i]? = some o -> ∀ e ∈ o.after,Region.binds .any e = true -> e.on < i)
 (hseq: Region.seqB .any l.toArray (l.length - n) n (doneN n l.length) = true)
 (hop: ∀ (i: Nat) (o: Oper) (a: Act) (w: World),l.toArray[i]? = some o -> i < n -> FrmS S a0 a -> Below U.heap.size U w -> (∀ e ∈ o.after,Region.binds .any e = true -> F e.on (a.eval (.tmp (slot e.on))) w) ->
   o.guard = none /\ ∀ K: Act -> World -> Prop,(∀ v w',Below w.heap.size w w' -> F i v w' -> K (a.put (some (slot i)) v) w') -> Oper.wp P o a w K Q)
 (hend: ∀ a w,FrmS S a0 a -> Below U.heap.size U w -> (∀ i,i < n -> F i (a.eval (.tmp (slot i))) w) -> wpList P l.toArray Q (l.drop n) a w): (Code.region id l.toArray true).wp P Q a0 U := by
 refine wp_region_headI n (FcI n slot S F U a0) hm hs hc hn hlow hseq ⟨FrmS.refl _ _,⟨rfl,rfl,rfl,Nat.le_refl _,fun _ _ => rfl⟩,fun i _ h => (by cases h)⟩ ?_ ?_
 · intro d a w i o hi hi12 hd hdep I
   obtain ⟨hg,hw⟩ := hop i o a w hi hi12 I.fr I.bel fun e he hb => I.kn e.on (Nat.lt_trans (hlow i o hi e he hb) hi12) (hdep e he hb)
   refine wpOp_of hi hg (hw _ fun v w' hb hF => ⟨I.fr.put (hin i hi12) v,I.bel.trans (hb.mono I.bel.size),fun j hj hd' => ?_⟩)
   by_cases e: j = i
   · subst e
     rw [put_get _ _ _ (by rw [I.fr.size]; exact hsz j hj)]
     exact hF
   · rw [put_ne _ _ _ _ (fun q => e (hinj j i hj hi12 q.symm))]
     refine hmono _ _ _ _ (I.kn j hj ?_) hb
     simpa [e] using hd'
 · intro d a w hall I
   exact hend a w I.fr I.bel fun i hi => I.kn i hi (hall i hi)
def lowOB (ops: Array Oper): Bool := (List.range ops.size).all fun i => match ops[i]? with
 | some o => o.after.all fun e => !Region.binds .any e || decide (e.on < i)
 | none => true
theorem lowO_of {ops: Array Oper} (h: lowOB ops = true): ∀ (i: Nat) (o: Oper),ops[i]? = some o -> ∀ e ∈ o.after,Region.binds .any e = true -> e.on < i := by
 intro i o ho e he hb
 have h1 := List.all_eq_true.1 h i (List.mem_range.2 (Array.getElem?_eq_some_iff.1 ho).1)
 rw [ho] at h1
 have h2 := Array.all_eq_true'.1 h1 e he
 simpa [hb] using h2
theorem depO {o: Oper} {F: Nat -> Prop} (k: Nat) (h: (o.after.any fun e => Region.binds .any e && e.on == k) = true) (hd: ∀ e ∈ o.after,Region.binds .any e = true -> F e.on): F k := by
 obtain ⟨e,he,h1⟩ := Array.any_eq_true'.1 h
 rw [Bool.and_eq_true,beq_iff_eq] at h1
 rw [<- h1.2]
 exact hd e he h1.1
end
section
variable {P: Program} {Q: Exit -> Act -> World -> Prop}
theorem FrmS.trans {S: List Nat} {a b c: Act} (h: FrmS S a b) (k: FrmS S b c): FrmS S a c :=
 ⟨k.defers.trans h.defers,k.size.trans h.size,fun t ht => (k.at' t ht).trans (h.at' t ht)⟩
structure StpF (n: Nat) (slot: Nat -> Nat) (S: List Nat) (F: Nat -> Value -> World -> Prop) (J: World -> Prop) (B i: Nat) (a: Act) (w: World) (a': Act) (w': World): Prop where
 fr: FrmS S a a'
 ev: ∀ j,j < n -> j ≠ i -> a'.eval (.tmp (slot j)) = a.eval (.tmp (slot j))
 mk_: F i (a'.eval (.tmp (slot i))) w'
 bel: Below B w w'
 sz: w.heap.size <= w'.heap.size
 jn: J w'
 st: ∀ j u,j ≠ i -> F j u w -> F j u w'
theorem StpF.put {n: Nat} {slot: Nat -> Nat} {S: List Nat} {F: Nat -> Value -> World -> Prop} {J: World -> Prop} {B i: Nat} {a: Act} {w w': World} {v: Value} (hinj: ∀ i j,i < n -> j < n -> slot i = slot j -> i = j) (hi: i < n) (hin: slot i ∈ S) (hsz: slot i < a.tmps.size)
 (mk: F i v w') (bel: Below B w w') (sz: w.heap.size <= w'.heap.size) (jn: J w') (st: ∀ j u,j ≠ i -> F j u w -> F j u w'): StpF n slot S F J B i a w (a.put (some (slot i)) v) w' :=
 ⟨(FrmS.refl S a).put hin v,fun j hj hji => by rw [put_ne _ _ _ _ (fun q => hji (hinj j i hj hi q.symm))],by rw [put_get _ _ _ hsz]; exact mk,bel,sz,jn,st⟩
theorem StpF.none {n: Nat} {slot: Nat -> Nat} {S: List Nat} {F: Nat -> Value -> World -> Prop} {J: World -> Prop} {B i: Nat} {a: Act} {w w': World} (mk: ∀ v,F i v w') (bel: Below B w w') (sz: w.heap.size <= w'.heap.size) (jn: J w') (st: ∀ j u,j ≠ i -> F j u w -> F j u w'): StpF n slot S F J B i a w a w' :=
 ⟨FrmS.refl S a,fun _ _ _ => rfl,mk _,bel,sz,jn,st⟩
structure FsI (n: Nat) (slot: Nat -> Nat) (S: List Nat) (F: Nat -> Value -> World -> Prop) (J: World -> Prop) (B: Nat) (U: World) (a0: Act) (d: Nat -> Bool) (a: Act) (w: World): Prop where
 fr: FrmS S a0 a
 bel: Below B U w
 sz: U.heap.size <= w.heap.size
 jn: J w
 kn: ∀ i,i < n -> d i = true -> F i (a.eval (.tmp (slot i))) w
theorem wp_region_factsS {id: Nat} {a0: Act} {U: World} {l: List Oper} (n: Nat) (slot: Nat -> Nat) (S: List Nat) (F: Nat -> Value -> World -> Prop) (J: World -> Prop) (B: Nat) (hJ: J { U with drawn := U.drawn + 1 })
 (hm: P.follows .mixedOrders = true) (hs: Region.sinkB .any l.toArray n = true) (hc: Region.chainB .any l.toArray n = true) (hn: n < l.length) (hlow: ∀ (i: Nat) (o: Oper),l.toArray[i]? = some o -> ∀ e ∈ o.after,Region.binds .any e = true -> e.on < i)
 (hseq: Region.seqB .any l.toArray (l.length - n) n (doneN n l.length) = true)
 (hop: ∀ (i: Nat) (o: Oper) (a: Act) (w: World),l.toArray[i]? = some o -> i < n -> FrmS S a0 a -> Below B U w -> U.heap.size <= w.heap.size -> J w -> (∀ e ∈ o.after,Region.binds .any e = true -> F e.on (a.eval (.tmp (slot e.on))) w) ->
   o.guard = none /\ ∀ K: Act -> World -> Prop,(∀ a' w',StpF n slot S F J B i a w a' w' -> K a' w') -> Oper.wp P o a w K Q)
 (hend: ∀ a w,FrmS S a0 a -> Below B U w -> U.heap.size <= w.heap.size -> J w -> (∀ i,i < n -> F i (a.eval (.tmp (slot i))) w) -> wpList P l.toArray Q (l.drop n) a w): (Code.region id l.toArray true).wp P Q a0 U := by
 refine wp_region_headI n (FsI n slot S F J B U a0) hm hs hc hn hlow hseq ⟨FrmS.refl _ _,⟨rfl,rfl,rfl,Nat.le_refl _,fun _ _ => rfl⟩,Nat.le_refl _,hJ,fun i _ h => (by cases h)⟩ ?_ ?_
 · intro d a w i o hi hi12 hd hdep I
   obtain ⟨hg,hw⟩ := hop i o a w hi hi12 I.fr I.bel I.sz I.jn fun e he hb => I.kn e.on (Nat.lt_trans (hlow i o hi e he hb) hi12) (hdep e he hb)
   refine wpOp_of hi hg (hw _ fun a' w' g => ⟨I.fr.trans g.fr,I.bel.trans g.bel,Nat.le_trans I.sz g.sz,g.jn,fun j hj hd' => ?_⟩)
   by_cases e: j = i
   · subst e; exact g.mk_
   · rw [g.ev j hj e]
     refine g.st j _ e (I.kn j hj ?_)
     simpa [e] using hd'
 · intro d a w hall I
   exact hend a w I.fr I.bel I.sz I.jn fun i hi => I.kn i hi (hall i hi)
end
section
variable {P: Program} {Q: Exit -> Act -> World -> Prop}
structure StpX (n: Nat) (slot: Nat -> Nat) (S: List Nat) (F: Nat -> Value -> World -> Prop) (J: Act -> World -> Prop) (B i: Nat) (a: Act) (w: World) (a': Act) (w': World): Prop where
 fr: FrmS S a a'
 ev: ∀ j,j < n -> j ≠ i -> a'.eval (.tmp (slot j)) = a.eval (.tmp (slot j))
 mk_: F i (a'.eval (.tmp (slot i))) w'
 bel: Below B w w'
 sz: w.heap.size <= w'.heap.size
 jn: J a' w'
 st: ∀ j u,j ≠ i -> F j u w -> F j u w'
theorem StpX.put {n: Nat} {slot: Nat -> Nat} {S: List Nat} {F: Nat -> Value -> World -> Prop} {J: Act -> World -> Prop} {B i: Nat} {a: Act} {w w': World} {v: Value} (hinj: ∀ i j,i < n -> j < n -> slot i = slot j -> i = j) (hi: i < n) (hin: slot i ∈ S) (hsz: slot i < a.tmps.size)
 (mk: F i v w') (bel: Below B w w') (sz: w.heap.size <= w'.heap.size) (jn: J (a.put (some (slot i)) v) w') (st: ∀ j u,j ≠ i -> F j u w -> F j u w'): StpX n slot S F J B i a w (a.put (some (slot i)) v) w' :=
 ⟨(FrmS.refl S a).put hin v,fun j hj hji => by rw [put_ne _ _ _ _ (fun q => hji (hinj j i hj hi q.symm))],by rw [put_get _ _ _ hsz]; exact mk,bel,sz,jn,st⟩
structure FxI (n: Nat) (slot: Nat -> Nat) (S: List Nat) (F: Nat -> Value -> World -> Prop) (J: Act -> World -> Prop) (B: Nat) (U: World) (a0: Act) (d: Nat -> Bool) (a: Act) (w: World): Prop where
 fr: FrmS S a0 a
 bel: Below B U w
 sz: U.heap.size <= w.heap.size
 jn: J a w
 kn: ∀ i,i < n -> d i = true -> F i (a.eval (.tmp (slot i))) w
theorem wp_region_factsX {id: Nat} {a0: Act} {U: World} {l: List Oper} (n: Nat) (slot: Nat -> Nat) (S: List Nat) (F: Nat -> Value -> World -> Prop) (J: Act -> World -> Prop) (B: Nat) (hJ: J a0 { U with drawn := U.drawn + 1 })
 (hm: P.follows .mixedOrders = true) (hs: Region.sinkB .any l.toArray n = true) (hc: Region.chainB .any l.toArray n = true) (hn: n < l.length) (hlow: ∀ (i: Nat) (o: Oper),l.toArray[i]? = some o -> ∀ e ∈ o.after,Region.binds .any e = true -> e.on < i)
 (hseq: Region.seqB .any l.toArray (l.length - n) n (doneN n l.length) = true)
 (hop: ∀ (i: Nat) (o: Oper) (a: Act) (w: World),l.toArray[i]? = some o -> i < n -> FrmS S a0 a -> Below B U w -> U.heap.size <= w.heap.size -> J a w -> (∀ e ∈ o.after,Region.binds .any e = true -> F e.on (a.eval (.tmp (slot e.on))) w) ->
   o.guard = none /\ ∀ K: Act -> World -> Prop,(∀ a' w',StpX n slot S F J B i a w a' w' -> K a' w') -> Oper.wp P o a w K Q)
 (hend: ∀ a w,FrmS S a0 a -> Below B U w -> U.heap.size <= w.heap.size -> J a w -> (∀ i,i < n -> F i (a.eval (.tmp (slot i))) w) -> wpList P l.toArray Q (l.drop n) a w): (Code.region id l.toArray true).wp P Q a0 U := by
 refine wp_region_headI n (FxI n slot S F J B U a0) hm hs hc hn hlow hseq ⟨FrmS.refl _ _,⟨rfl,rfl,rfl,Nat.le_refl _,fun _ _ => rfl⟩,Nat.le_refl _,hJ,fun i _ h => (by cases h)⟩ ?_ ?_
 · intro d a w i o hi hi12 hd hdep I
   obtain ⟨hg,hw⟩ := hop i o a w hi hi12 I.fr I.bel I.sz I.jn fun e he hb => I.kn e.on (Nat.lt_trans (hlow i o hi e he hb) hi12) (hdep e he hb)
   refine wpOp_of hi hg (hw _ fun a' w' g => ⟨I.fr.trans g.fr,I.bel.trans g.bel,Nat.le_trans I.sz g.sz,g.jn,fun j hj hd' => ?_⟩)
   by_cases e: j = i
   · subst e; exact g.mk_
   · rw [g.ev j hj e]
     refine g.st j _ e (I.kn j hj ?_)
     simpa [e] using hd'
 · intro d a w hall I
   exact hend a w I.fr I.bel I.sz I.jn fun i hi => I.kn i hi (hall i hi)
end
end Go.Proofs.YteibhbnlcpejpaaGreat.Rw
