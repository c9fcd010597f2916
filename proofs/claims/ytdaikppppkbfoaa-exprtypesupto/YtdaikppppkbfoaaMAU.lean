import Derived.Test.YtdaikppppkbfoaaMAT
namespace Go.Proofs.Ytdaikppppkbfoaa.Rw
open Go Go.RowKit
structure FrmS (S: List Nat) (a0 a: Act): Prop where
 defers: a.defers = a0.defers
 size: a.tmps.size = a0.tmps.size
 at': ∀ t,t ∉ S -> a.tmps[t]? = a0.tmps[t]?
theorem FrmS.refl (S: List Nat) (a: Act): FrmS S a a := ⟨rfl,rfl,fun _ _ => rfl⟩
theorem FrmS.put {S: List Nat} {a0 a: Act} (h: FrmS S a0 a) {t: Nat} (ht: t ∈ S) (v: Value): FrmS S a0 (a.put (some t) v) :=
 ⟨h.defers,by rw [put_size]; exact h.size,fun u hu => by
  show (a.tmps.setIfInBounds t v)[u]? = _
  rw [Array.getElem?_setIfInBounds_ne (by rintro rfl; exact hu ht)]; exact h.at' u hu⟩
theorem FrmS.eval {S: List Nat} {a0 a: Act} (h: FrmS S a0 a) {t: Nat} (ht: t ∉ S): a.eval (.tmp t) = a0.eval (.tmp t) := by
 have e := h.at' t ht
 show a.tmps.getD t undef = a0.tmps.getD t undef
 simp [Array.getD_eq_getD_getElem?, e]
def putAll (a: Act): List Nat -> Act -> Act
 | [],b => b
 | t :: S,b => putAll a S (b.put (some t) (a.eval (.tmp t)))
theorem putAll_size (a: Act): ∀ (S: List Nat) (b: Act),(putAll a S b).tmps.size = b.tmps.size
 | [],_ => rfl
 | t :: S,b => by rw [putAll,putAll_size a S,put_size]
theorem putAll_defers (a: Act): ∀ (S: List Nat) (b: Act),(putAll a S b).defers = b.defers
 | [],_ => rfl
 | t :: S,b => by rw [putAll,putAll_defers a S]; rfl
theorem putAll_out (a: Act): ∀ (S: List Nat) (b: Act) (t: Nat),t ∉ S -> (putAll a S b).tmps[t]? = b.tmps[t]?
 | [],_,_,_ => rfl
 | s :: S,b,t,h => by
  rw [putAll,putAll_out a S _ t (fun e => h (List.mem_cons_of_mem _ e))]
  show (b.tmps.setIfInBounds s _)[t]? = _
  rw [Array.getElem?_setIfInBounds_ne (by rintro rfl; exact h List.mem_cons_self)]
theorem putAll_in (a: Act): ∀ (S: List Nat) (b: Act) (t: Nat),t ∈ S -> t < b.tmps.size -> (putAll a S b).tmps[t]? = some (a.eval (.tmp t))
 | s :: S,b,t,h,hb => by
  by_cases hS: t ∈ S
  · rw [putAll]
    exact putAll_in a S _ t hS (by rw [put_size]; exact hb)
  · have: t = s := (List.mem_cons.1 h).resolve_right hS
    subst this
    rw [putAll,putAll_out a S _ t hS]
    show (b.tmps.setIfInBounds t _)[t]? = _
    simp [hb]
theorem FrmS.all {S: List Nat} {a0 a: Act} (h: FrmS S a0 a) (hs: ∀ t ∈ S,t < a0.tmps.size): a = putAll a S a0 := by
 have e1: a.tmps = (putAll a S a0).tmps := by
  refine Array.ext_getElem? fun t => ?_
  by_cases ht: t ∈ S
  · rw [putAll_in a S a0 t ht (hs t ht)]
    have hl: t < a.tmps.size := by rw [h.size]; exact hs t ht
    rw [Array.getElem?_eq_getElem hl]
    show _ = some (a.tmps.getD t undef)
    simp [Array.getD_eq_getD_getElem?, hl]
  · rw [putAll_out a S a0 t ht,h.at' t ht]
 have e2: a.defers = (putAll a S a0).defers := by rw [putAll_defers,h.defers]
 cases a
 cases hp: putAll _ S a0
 rw [hp] at e1 e2
 simp only at e1 e2
 rw [e1,e2]
section
variable {P: Program} {Q: Exit -> Act -> World -> Prop}
structure FcI (n: Nat) (slot: Nat -> Nat) (S: List Nat) (F: Nat -> Value -> World -> Prop) (U: World) (a0: Act) (d: Nat -> Bool) (a: Act) (w: World): Prop where
 fr: FrmS S a0 a
 bel: Below U.heap.size U w
 kn: ∀ i,i < n -> d i = true -> F i (a.eval (.tmp (slot i))) w
theorem wp_region_facts {id: Nat} {a0: Act} {U: World} {l: List Oper} (n: Nat) (slot: Nat -> Nat) (S: List Nat) (F: Nat -> Value -> World -> Prop)
 (hmono: ∀ i v w w',F i v w -> Below w.heap.size w w' -> F i v w') (hinj: ∀ i j,i < n -> j < n -> slot i = slot j -> i = j) (hin: ∀ i,i < n -> slot i ∈ S) (hsz: ∀ i,i < n -> slot i < a0.tmps.size)
 (hm: P.follows .mixedOrders = true) (hs: Region.sinkB .any l.toArray n = true) (hc: Region.chainB .any l.toArray n = true) (hn: n < l.length) (hlow: ∀ (i: Nat) (o: Oper),l.toArray[i]? = some o -> ∀ e ∈ o.after,Region.binds .any e = true -> e.on < i)
 (hseq: Region.seqB .any l.toArray (l.length - n) n (doneN n l.length) = true)
 (hop: ∀ (i: Nat) (o: Oper) (a: Act) (w: World),l.toArray[i]? = some o -> i < n -> FrmS S a0 a -> Below U.heap.size U w -> (∀ e ∈ o.after,Region.binds .any e = true -> F e.on (a.eval (.tmp (slot e.on))) w) ->
   o.guard = none /\ ∀ K: Act -> World -> Prop,(∀ v w',Below w.heap.size w w' -> F i v w' -> K (a.put (some (slot i)) v) w') -> Oper.wp P o a w K Q)
 (hend: ∀ a w,FrmS S a0 a -> Below U.heap.size U w -> (∀ i,i < n -> F i (a.eval (.tmp (slot i))) w) -> wpList P l.toArray Q (l.drop n) a w): (Code.region id l.toArray true).wp P Q a0 U := by
 refine wp_region_headI n (FcI n slot S F U a0) hm hs hc hn hlow hseq ⟨FrmS.refl _ _,⟨rfl,rfl,rfl,Nat.le_refl _,fun _ _ => rfl⟩,fun i _ h => (by cases h)⟩ ?_ ?_
 · intro d a w i o hi hi12 hd hdep I
   obtain ⟨hg,hw⟩ := hop i o a w hi hi12 I.fr I.bel fun e he hb => I.kn e.on (Nat.lt_trans (hlow i o hi e he hb) hi12) (hdep e he hb)
   refine wpOp_of hi hg (hw _ fun v w' hb hF => ⟨I.fr.put (hin i hi12) v,I.bel.trans (hb.mono I.bel.size),fun j hj hd' => ?_⟩)
   by_cases e: j = i
   · subst e
     rw [put_get _ _ _ (by rw [I.fr.size]; exact hsz j hj)]
     exact hF
   · rw [put_ne _ _ _ _ (fun q => e (hinj j i hj hi12 q.symm))]
     refine hmono _ _ _ _ (I.kn j hj ?_) hb
     simpa [e] using hd'
 · intro d a w hall I
   exact hend a w I.fr I.bel fun i hi => I.kn i hi (hall i hi)
def lowOB (ops: Array Oper): Bool := (List.range ops.size).all fun i => match ops[i]? with
 | some o => o.after.all fun e => !Region.binds .any e || decide (e.on < i)
 | none => true
theorem lowO_of {ops: Array Oper} (h: lowOB ops = true): ∀ (i: Nat) (o: Oper),ops[i]? = some o -> ∀ e ∈ o.after,Region.binds .any e = true -> e.on < i := by
 intro i o ho e he hb
 have h1 := List.all_eq_true.1 h i (List.mem_range.2 (Array.getElem?_eq_some_iff.1 ho).1)
 rw [ho] at h1
 have h2 := Array.all_eq_true'.1 h1 e he
 simpa [hb] using h2
theorem depO {o: Oper} {F: Nat -> Prop} (k: Nat) (h: (o.after.any fun e => Region.binds .any e && e.on == k) = true) (hd: ∀ e ∈ o.after,Region.binds .any e = true -> F e.on): F k := by
 obtain ⟨e,he,h1⟩ := Array.any_eq_true'.1 h
 rw [Bool.and_eq_true,beq_iff_eq] at h1
 rw [<- h1.2]
 exact hd e he h1.1
end
section
variable {P: Program} {Q: Exit -> Act -> World -> Prop}
theorem FrmS.trans {S: List Nat} {a b c: Act} (h: FrmS S a b) (k: FrmS S b c): FrmS S a c :=
 ⟨k.defers.trans h.defers,k.size.trans h.size,fun t ht => (k.at' t ht).trans (h.at' t ht)⟩
structure StpF (n: Nat) (slot: Nat -> Nat) (S: List Nat) (F: Nat -> Value -> World -> Prop) (J: World -> Prop) (B i: Nat) (a: Act) (w: World) (a': Act) (w': World): Prop where
 fr: FrmS S a a'
 ev: ∀ j,j < n -> j ≠ i -> a'.eval (.tmp (slot j)) = a.eval (.tmp (slot j))
 mk_: F i (a'.eval (.tmp (slot i))) w'
 bel: Below B w w'
 sz: w.heap.size <= w'.heap.size
 jn: J w'
 st: ∀ j u,j ≠ i -> F j u w -> F j u w'
theorem StpF.put {n: Nat} {slot: Nat -> Nat} {S: List Nat} {F: Nat -> Value -> World -> Prop} {J: World -> Prop} {B i: Nat} {a: Act} {w w': World} {v: Value} (hinj: ∀ i j,i < n -> j < n -> slot i = slot j -> i = j) (hi: i < n) (hin: slot i ∈ S) (hsz: slot i < a.tmps.size)
 (mk: F i v w') (bel: Below B w w') (sz: w.heap.size <= w'.heap.size) (jn: J w') (st: ∀ j u,j ≠ i -> F j u w -> F j u w'): StpF n slot S F J B i a w (a.put (some (slot i)) v) w' :=
 ⟨(FrmS.refl S a).put hin v,fun j hj hji => by rw [put_ne _ _ _ _ (fun q => hji (hinj j i hj hi q.symm))],by rw [put_get _ _ _ hsz]; exact mk,bel,sz,jn,st⟩
theorem StpF.none {n: Nat} {slot: Nat -> Nat} {S: List Nat} {F: Nat -> Value -> World -> Prop} {J: World -> Prop} {B i: Nat} {a: Act} {w w': World} (mk: ∀ v,F i v w') (bel: Below B w w') (sz: w.heap.size <= w'.heap.size) (jn: J w') (st: ∀ j u,j ≠ i -> F j u w -> F j u w'): StpF n slot S F J B i a w a w' :=
 ⟨FrmS.refl S a,fun _ _ _ => rfl,mk _,bel,sz,jn,st⟩
structure FsI (n: Nat) (slot: Nat -> Nat) (S: List Nat) (F: Nat -> Value -> World -> Prop) (J: World -> Prop) (B: Nat) (U: World) (a0: Act) (d: Nat -> Bool) (a: Act) (w: World): Prop where
 fr: FrmS S a0 a
 bel: Below B U w
 sz: U.heap.size <= w.heap.size
 jn: J w
 kn: ∀ i,i < n -> d i = true -> F i (a.eval (.tmp (slot i))) w
theorem wp_region_factsS {id: Nat} {a0: Act} {U: World} {l: List Oper} (n: Nat) (slot: Nat -> Nat) (S: List Nat) (F: Nat -> Value -> World -> Prop) (J: World -> Prop) (B: Nat) (hJ: J { U with drawn := U.drawn + 1 })
 (hm: P.follows .mixedOrders = true) (hs: Region.sinkB .any l.toArray n = true) (hc: Region.chainB .any l.toArray n = true) (hn: n < l.length) (hlow: ∀ (i: Nat) (o: Oper),l.toArray[i]? = some o -> ∀ e ∈ o.after,Region.binds .any e = true -> e.on < i)
 (hseq: Region.seqB .any l.toArray (l.length - n) n (doneN n l.length) = true)
 (hop: ∀ (i: Nat) (o: Oper) (a: Act) (w: World),l.toArray[i]? = some o -> i < n -> FrmS S a0 a -> Below B U w -> U.heap.size <= w.heap.size -> J w -> (∀ e ∈ o.after,Region.binds .any e = true -> F e.on (a.eval (.tmp (slot e.on))) w) ->
   o.guard = none /\ ∀ K: Act -> World -> Prop,(∀ a' w',StpF n slot S F J B i a w a' w' -> K a' w') -> Oper.wp P o a w K Q)
 (hend: ∀ a w,FrmS S a0 a -> Below B U w -> U.heap.size <= w.heap.size -> J w -> (∀ i,i < n -> F i (a.eval (.tmp (slot i))) w) -> wpList P l.toArray Q (l.drop n) a w): (Code.region id l.toArray true).wp P Q a0 U := by
 refine wp_region_headI n (FsI n slot S F J B U a0) hm hs hc hn hlow hseq ⟨FrmS.refl _ _,⟨rfl,rfl,rfl,Nat.le_refl _,fun _ _ => rfl⟩,Nat.le_refl _,hJ,fun i _ h => (by cases h)⟩ ?_ ?_
 · intro d a w i o hi hi12 hd hdep I
   obtain ⟨hg,hw⟩ := hop i o a w hi hi12 I.fr I.bel I.sz I.jn fun e he hb => I.kn e.on (Nat.lt_trans (hlow i o hi e he hb) hi12) (hdep e he hb)
   refine wpOp_of hi hg (hw _ fun a' w' g => ⟨I.fr.trans g.fr,I.bel.trans g.bel,Nat.le_trans I.sz g.sz,g.jn,fun j hj hd' => ?_⟩)
   by_cases e: j = i
   · subst e; exact g.mk_
   · rw [g.ev j hj e]
     refine g.st j _ e (I.kn j hj ?_)
     simpa [e] using hd'
 · intro d a w hall I
   exact hend a w I.fr I.bel I.sz I.jn fun i hi => I.kn i hi (hall i hi)
end
section
variable {P: Program} {Q: Exit -> Act -> World -> Prop}
structure StpX (n: Nat) (slot: Nat -> Nat) (S: List Nat) (F: Nat -> Value -> World -> Prop) (J: Act -> World -> Prop) (B i: Nat) (a: Act) (w: World) (a': Act) (w': World): Prop where
 fr: FrmS S a a'
 ev: ∀ j,j < n -> j ≠ i -> a'.eval (.tmp (slot j)) = a.eval (.tmp (slot j))
 mk_: F i (a'.eval (.tmp (slot i))) w'
 bel: Below B w w'
 sz: w.heap.size <= w'.heap.size
 jn: J a' w'
 st: ∀ j u,j ≠ i -> F j u w -> F j u w'
theorem StpX.put {n: Nat} {slot: Nat -> Nat} {S: List Nat} {F: Nat -> Value -> World -> Prop} {J: Act -> World -> Prop} {B i: Nat} {a: Act} {w w': World} {v: Value} (hinj: ∀ i j,i < n -> j < n -> slot i = slot j -> i = j) (hi: i < n) (hin: slot i ∈ S) (hsz: slot i < a.tmps.size)
 (mk: F i v w') (bel: Below B w w') (sz: w.heap.size <= w'.heap.size) (jn: J (a.put (some (slot i)) v) w') (st: ∀ j u,j ≠ i -> F j u w -> F j u w'): StpX n slot S F J B i a w (a.put (some (slot i)) v) w' :=
 ⟨(FrmS.refl S a).put hin v,fun j hj hji => by rw [put_ne _ _ _ _ (fun q => hji (hinj j i hj hi q.symm))],by rw [put_get _ _ _ hsz]; exact mk,bel,sz,jn,st⟩
structure FxI (n: Nat) (slot: Nat -> Nat) (S: List Nat) (F: Nat -> Value -> World -> Prop) (J: Act -> World -> Prop) (B: Nat) (U: World) (a0: Act) (d: Nat -> Bool) (a: Act) (w: World): Prop where
 fr: FrmS S a0 a
 bel: Below B U w
 sz: U.heap.size <= w.heap.size
 jn: J a w
 kn: ∀ i,i < n -> d i = true -> F i (a.eval (.tmp (slot i))) w
theorem wp_region_factsX {id: Nat} {a0: Act} {U: World} {l: List Oper} (n: Nat) (slot: Nat -> Nat) (S: List Nat) (F: Nat -> Value -> World -> Prop) (J: Act -> World -> Prop) (B: Nat) (hJ: J a0 { U with drawn := U.drawn + 1 })
 (hm: P.follows .mixedOrders = true) (hs: Region.sinkB .any l.toArray n = true) (hc: Region.chainB .any l.toArray n = true) (hn: n < l.length) (hlow: ∀ (i: Nat) (o: Oper),l.toArray[i]? = some o -> ∀ e ∈ o.after,Region.binds .any e = true -> e.on < i)
 (hseq: Region.seqB .any l.toArray (l.length - n) n (doneN n l.length) = true)
 (hop: ∀ (i: Nat) (o: Oper) (a: Act) (w: World),l.toArray[i]? = some o -> i < n -> FrmS S a0 a -> Below B U w -> U.heap.size <= w.heap.size -> J a w -> (∀ e ∈ o.after,Region.binds .any e = true -> F e.on (a.eval (.tmp (slot e.on))) w) ->
   o.guard = none /\ ∀ K: Act -> World -> Prop,(∀ a' w',StpX n slot S F J B i a w a' w' -> K a' w') -> Oper.wp P o a w K Q)
 (hend: ∀ a w,FrmS S a0 a -> Below B U w -> U.heap.size <= w.heap.size -> J a w -> (∀ i,i < n -> F i (a.eval (.tmp (slot i))) w) -> wpList P l.toArray Q (l.drop n) a w): (Code.region id l.toArray true).wp P Q a0 U := by
 refine wp_region_headI n (FxI n slot S F J B U a0) hm hs hc hn hlow hseq ⟨FrmS.refl _ _,⟨rfl,rfl,rfl,Nat.le_refl _,fun _ _ => rfl⟩,Nat.le_refl _,hJ,fun i _ h => (by cases h)⟩ ?_ ?_
 · intro d a w i o hi hi12 hd hdep I
   obtain ⟨hg,hw⟩ := hop i o a w hi hi12 I.fr I.bel I.sz I.jn fun e he hb => I.kn e.on (Nat.lt_trans (hlow i o hi e he hb) hi12) (hdep e he hb)
   refine wpOp_of hi hg (hw _ fun a' w' g => ⟨I.fr.trans g.fr,I.bel.trans g.bel,Nat.le_trans I.sz g.sz,g.jn,fun j hj hd' => ?_⟩)
   by_cases e: j = i
   · subst e; exact g.mk_
   · rw [g.ev j hj e]
     refine g.st j _ e (I.kn j hj ?_)
     simpa [e] using hd'
 · intro d a w hall I
   exact hend a w I.fr I.bel I.sz I.jn fun i hi => I.kn i hi (hall i hi)
end
end Go.Proofs.Ytdaikppppkbfoaa.Rw
