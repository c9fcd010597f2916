import Derived.Test.YtdnkbdjhccckhaaGreatMBJ
import Derived.Test.YtdnkbdjhccckhaaGreatMBK
import Derived.Test.YtdnkbdjhccckhaaGreatMAY
set_option maxRecDepth 100000
set_option maxHeartbeats 4000000
namespace Go.Proofs.YtdnkbdjhccckhaaGreat
open Go.RowKit
open L4 (Ar ArP Abs arV nv)
open L5 (ltP ltB leB)
structure Turn (a A: Abs) (old new: List Nat): Prop where
 ok: A.Ok
 q: A.q = a.q
 nodup: new.Nodup
 fresh: ∀ p ∈ new,p ∈ old \/ a.at (p: Int) = none
 frame: ∀ p: Nat,p ∉ old -> (∃ c,a.at (p: Int) = some c) -> A.at (p: Int) = a.at (p: Int)
 used: A.used + old.length = a.used + new.length
theorem Grew.turn {a A: Abs} {old new: List Nat} (k: Grew a A old new): Turn a A old new := ⟨k.ok,k.q,k.nodup,k.fresh,k.frame,k.used⟩
theorem Shrunk.turn {a A: Abs} {old new: List Nat} (k: Shrunk a A old new): Turn a A old new := ⟨k.ok,k.q,k.nodup,fun p hp => Or.inl (k.sub p hp),k.frame,k.used⟩
theorem Turn.refl {a: Abs} (ho: a.Ok) {ps: List Nat} (hd: ps.Nodup): Turn a a ps ps := ⟨ho,rfl,hd,fun _ h => Or.inl h,fun _ _ _ => rfl,rfl⟩
def DelI (es: List ByteArray) (k: ByteArray) (c: Int) (es': List ByteArray): Prop := (k ∉ es /\ c = 2 /\ es' = es) \/ (k ∈ es /\ c = 0 /\ es' = delK k es)
def TTo (ins: Prop) (s: Ar) (t h: Nat) (es: List ByteArray) (ps: List Nat) (w: World) (s': Ar) (r' h': Nat) (es': List ByteArray) (ps': List Nat) (w': World): Prop :=
 TW s' t r' h' es' ps' w' /\ Ruly s'.abs r' ps' /\ s'.p = s.p /\ Turn s.abs s'.abs ps ps' /\ Only (fun k => s.own k \/ k = t) w w' /\ (∀ k,s'.own k -> s.own k \/ w.heap.size <= k) /\ Flow ins s.abs s'.abs h h' es es' ps ps'
theorem TTo.still {ins: Prop} {s: Ar} {t r h: Nat} {es: List ByteArray} {ps: List Nat} {w w': World} (k: TW s t r h es ps w) (hr: Ruly s.abs r ps) (hb: Below w.heap.size w w'): TTo ins s t h es ps w s r h es ps w' :=
 ⟨k.on hb,hr,rfl,Turn.refl k.ok k.tp.nodup,Only.of_below hb,fun _ h => Or.inl h,Flow.refl⟩
theorem laid_prs (Ld: List Lay) (a: Abs): Ld.foldl (fun a y => a.lay y.at_ (some (L5.pageL y.n.toNd))) a = laidL a (prs Ld) := by
 unfold laidL prs
 rw [List.foldl_map]
 rfl
theorem tdelete_rel {s: Ar} {t r h l: Nat} {k: ByteArray} {w: World} {R: Nat -> Nat -> Nat -> Abs -> Prop} (hA: ArP s w) (ht: TrC w t s.p r h (l + 1)) (hr: r ≠ 0)
 (H: ∀ (N x: Nat) (W: World),Es N s t x r h (l + 1) r h (l + 1) (.slice none 0 0) (.slice none 0 0) (.slice none 0 0) [] [] [] W -> Calls Tryz.prog 47 #[.pointer (some ⟨x,0,none⟩), .string k] W fun e w1 => e = .returned (.tuple #[]) /\ ∃ xr xh xl A,R xr xh xl A /\ DoneG N s t x r h (l + 1) xr xh xl A W w1) :
 Calls Tryz.prog 17 #[.pointer (some ⟨t,0,none⟩), .string k] w fun e w' => e = .returned (.int .i64 0) /\ ∃ xr xh xl A,R xr xh xl A /\ TrHas s t A xr xh xl w w' := by
 have HB1 := thid (tbelow w (.cells #[.string k] 9))
 have HA1 := thid (L4.arSt.below hA HB1.out)
 have HT1 := thid (ht.on HB1.out)
 have hc1: (w.alloc (.cells #[.string k] 9)).cell? ⟨w.heap.size,0,none⟩ = some (.string k) := by simp [go_sem]
 have HOV := thid (over_ok HT1.out hr)
 have HH := thid H
 clear hA ht H
 have hmf: ∀ (fn: Fn) (first cap: Array Value) (w: World),(Instr.makeFunc fn first cap).run Tryz.prog w = .ok (.func fn first cap) w := fun _ _ _ _ => rfl
 go_enter Tryz.func17,Tryz.ntmps17
 go_wp2_with fail
 refine HOV.out.mono ?_
 rintro e w2 ⟨rfl,B2⟩
 have hl2: w.heap.size < (w.alloc (.cells #[.string k] 9)).heap.size := by simp
 have hc2 := (B2.cell (p := ⟨w.heap.size,0,none⟩) hl2).trans hc1
 have HB2 := thid (tbelow_on HB1.out B2)
 have HA2 := thid (L4.arSt.below HA1.out B2)
 have HT2 := thid (HT1.out.on B2)
 have hl3: w.heap.size < w2.heap.size := Nat.lt_of_lt_of_le hl2 B2.size
 clear HOV B2 HA1 HT1 HB1 hc1 hl2
 have HC := thid (change_rel (R := R) HA2.out HT2.out 46 (fun _ _ => rfl) #[.pointer (some ⟨w.heap.size,0,none⟩)] (fun N x W _ hb hE => by
  have hcW := (hb.cell (p := ⟨w.heap.size,0,none⟩) hl3).trans hc2
  simpa using tdelete1 hcW (HH.out N x W hE)))
 clear HA2 HT2 HH
 go_wp2_with fail
 refine HC.out.mono ?_
 rintro e w3 ⟨rfl,xr,xh,xl,A,hR,s',hp,hab,hok,hA3,hT3,hon,hown⟩
 have HF: Hid (∃ xr xh xl A,R xr xh xl A /\ TrHas s t A xr xh xl w w3) := by
  refine ⟨xr,xh,xl,A,hR,s',hp,hab,hok,hA3,hT3, ?_,fun q hq => (hown q hq).imp id fun y => Nat.le_trans HB2.out.size y⟩
  exact ⟨hon.os.trans HB2.out.os,hon.tape.trans HB2.out.tape,hon.output.trans HB2.out.output,Nat.le_trans HB2.out.size hon.size,fun q hq hs => by
   rw [hon.block q (Nat.lt_of_lt_of_le hq HB2.out.size) hs]
   exact HB2.out.block q hq⟩
 clear hA3 hT3 hon hown HC HB2 hmf hR
 go_wp2
 go_ret
 exact ⟨rfl,HF.out⟩
theorem delK_len {k: ByteArray} {es: List ByteArray} (h: es.countP (ltB k) < es.length): (delK k es).length + 1 = es.length := by
 unfold delK
 simp
 omega
theorem tdelete_tree {s: Ar} {t r h: Nat} {es: List ByteArray} {ps: List Nat} {k: ByteArray} {w: World} (hT: TW s t r h es ps w) (hR: Ruly s.abs r ps) (hll: es.length <= 1000000) :
 Calls Tryz.prog 17 #[.pointer (some ⟨t,0,none⟩), .string k] w fun e w' => ∃ c s' r' h' es' ps',e = .returned (.int .i64 c) /\ DelI es k c es' /\ TTo False s t h es ps w s' r' h' es' ps' w' := by
 obtain ⟨t1,t2,t3⟩ := hT.tp.tall hT.ok
 obtain ⟨pre,y,lo,hi,fL,fR,qO,f⟩ := hT.tp.sub.found k
 by_cases hm: k ∈ es
 · have hat := f.mem.1 hm
   obtain ⟨r1,r2⟩ := shaped_recs f.holds.shaped
   have hcl: y.n.recs.countP (ltB k) < y.n.recs.length := by
    have hx := hat
    unfold L5.isAt at hx
    cases hz: y.n.recs[y.n.recs.countP (ltB k)]? with
    | none => rw [hz] at hx; cases hx
    | some z => exact (List.getElem?_eq_some_iff.1 hz).1
   have hes: delK k es = fL ++ delK k y.n.recs ++ fR := by rw [f.es_,delK_mid f.lows f.highs hcl]
   have hlen: (delK k es).length + 1 = es.length := by
    have h1 := delK_len hcl
    rw [hes,f.es_]
    simp
    omega
   obtain ⟨l,hl⟩: ∃ l,es.length = l + 1 := ⟨(delK k es).length,hlen.symm⟩
   have hless: lessRec y.n (y.n.recs.countP (ltB k)) = ⟨y.n.leaf,delK k y.n.recs,y.n.kids⟩ := rfl
   have hnz: (lessRec y.n (y.n.recs.countP (ltB k))).size <= 1024 := by
    have h1: L5.weigh (delK k y.n.recs) <= L5.weigh y.n.recs := by
     refine weigh_sublist ?_
     unfold delK
     conv => rhs; rw [<- List.take_append_drop (y.n.recs.countP (ltB k)) y.n.recs]
     refine (List.Sublist.refl _).append ?_
     rw [<- List.drop_drop]
     exact List.drop_sublist _ _
    have h2 := f.holds.size
    rw [hless]
    unfold L5.No.size at h2 ⊢
    simp only
    omega
   have hU: UpsOk s.abs pre.reverse y.at_ (lessRec y.n (y.n.recs.countP (ltB k))).leaf := by
    have := ups_of f.ctx
    rw [hless]
    simpa [f.leaf] using this
   have hpg: ∀ p ∈ ps,∃ c,s.abs.at (p: Int) = some c := fun p hp => by
    rcases List.mem_cons.1 (f.ps_.mem_iff.1 hp) with e | e
    · rw [e]; exact ⟨_,f.holds.page⟩
    · exact f.ctx.pages _ e
   have htr := hT.tr
   rw [hl] at htr
   refine (tdelete_rel (R := fun xr xh xl A => xl = l /\ ∃ L G,Dels s.abs pre.reverse y.at_ (lessRec y.n (y.n.recs.countP (ltB k))) r h L G xr xh /\ A = frees (laidL s.abs L) G) hT.ar htr t3 (fun N x W hE => ?_)).mono ?_
   · refine (delete_any hE hT.ok f.path t1 f.holds.small hat hcl (by omega) hU hnz (fun L1 G1 r1' n1 hs => by
      have := f.setOk hT.tp.nodup hR hless hs
      simpa [prs] using this)).mono ?_
     rintro e w1 ⟨rfl,ld,gn,Ld,G,r',h',hD,hE',hS',g1,g2⟩
     obtain ⟨ps',_,_,_,j1,j2,j3⟩ := del_tree f hT.ok hT.tp.nodup hpg hm hR hless hD
     have hthere: ∀ z ∈ prs Ld,∃ c,s.abs.at (z.1: Int) = some c := fun z hz => (j3 z hz).2.2
     refine ⟨rfl,r',h',l,_,⟨rfl,prs Ld,G,hD,rfl⟩,s, .slice none 0 0,ld,gn,[],Ld,G,rfl,hT.ok,hE',j1,fun n hn => ?_,g2,g1,fun z hz => ?_,fun z hz => ?_,by rw [laid_prs]; rfl,hS'⟩
     · obtain ⟨c,hc⟩ := j2 n hn
       by_cases hin: ∃ z ∈ prs Ld,z.1 = n
       · obtain ⟨z,hz,rfl⟩ := hin
         exact hthere z hz
       · rw [laidL_other (prs Ld) hthere fun z hz e => hin ⟨z,hz,e⟩] at hc
         exact ⟨c,hc⟩
     · have := j3 (z.at_,z.n) (List.mem_map.2 ⟨z,hz,rfl⟩)
       exact ⟨small_size this.2.1,this.1,this.2.1⟩
     · exact (j3 (z.at_,z.n) (List.mem_map.2 ⟨z,hz,rfl⟩)).2.2
   · rintro e w' ⟨rfl,xr,xh,xl,A,⟨rfl,L,G,hD,rfl⟩,s',hp,hab,hok,hA,ht,hon,hown⟩
     obtain ⟨ps',j1,j2,j3,j4,j5,j6⟩ := del_tree f hT.ok hT.tp.nodup hpg hm hR hless hD
     refine ⟨0,s',xr,xh,delK k es,ps',rfl,Or.inr ⟨hm,rfl,rfl⟩,⟨hA,hok, ?_, ?_⟩, ?_,hp, ?_,hon,hown, ?_⟩
     · rw [hp,show (delK k es).length = xl by omega]; exact ht
     · exact ⟨by rw [hab]; exact j1,rfl,j2.nodup⟩
     · rw [hab]; exact j3
     · rw [hab]; exact j2.turn
     · rw [hab]; exact flow_del t2 hD hlen j2 (fun p hp => j1.pages p hp) j4 j5 j6
 · have hna: L5.isAt y.n.recs k (y.n.recs.countP (L5.ltB k)) = false := by
    cases hb: L5.isAt y.n.recs k (y.n.recs.countP (L5.ltB k)) with
    | false => rfl
    | true => exact absurd (f.mem.2 hb) hm
   refine (tdelete_stop hT.ar hT.tr t3 (fun x W hE => delete_absent_any hE hT.ok f.path t1 f.holds.small hna)).mono ?_
   rintro e w' ⟨rfl,hb⟩
   exact ⟨2,s,r,h,es,ps,rfl,Or.inl ⟨hm,rfl,rfl⟩,TTo.still hT hR hb⟩
theorem grows_new: ∀ (ups: List Pl) {a: Abs} {at_: Nat} {n: L5.No} {c: List UInt8},a.Ok -> ups.length + 2 <= a.left -> GrowOk ups a at_ n -> a.at (at_: Int) = some c -> (∀ u ∈ ups,∃ c,a.at (u.at_: Int) = some c) -> ∀ rt: Nat,(grows ups a at_ n).2 = some rt -> a.at (rt: Int) = none := by
 intro ups
 induction ups with
 | nil =>
  intro a at_ n c ho hl hG hat hus rt hrt
  obtain ⟨hs,_,hd⟩ := hG
  by_cases hf: n.size <= 1024
  · rw [grows,if_pos hf] at hrt; cases hrt
  · obtain ⟨hc,hr1,hr2⟩ := hd.resolve_left hf
    obtain ⟨n1,n2⟩ := next_pos ho
    obtain ⟨⟨z,a1⟩,a2⟩ := at_alloc ho
    have ok1 := (ho.alloc (by omega)).1
    have hnx: a.next ≠ at_ := fun e => by rw [e,hat] at n2; cases n2
    have hat1: a.alloc.at (at_: Int) = some c := by rw [a2 at_ (fun e => hnx e.symm)]; exact hat
    have hnx1: (layN a.alloc at_ (n.lo n.cut)).at (a.next: Int) = some z := by unfold layN; rw [at_lay_ne hnx (at_pos hat)]; exact a1
    have ok3 := layN_ok (n := n.hi n.cut) (layN_ok (n := n.lo n.cut) ok1 hat1 hc.lo.2.1) hnx1 hc.hi.2.1
    have hatA: (layN (layN a.alloc at_ (n.lo n.cut)) a.next (n.hi n.cut)).at (at_: Int) = some (L5.pageL (n.lo n.cut).toNd) := by
     show ((layN a.alloc at_ (n.lo n.cut)).lay a.next _).at (at_: Int) = _
     rw [at_lay_ne (fun e => hnx e.symm) n1]
     exact at_lay_same hat1 _
    have oth: ∀ p: Nat,p ≠ at_ -> p ≠ a.next -> (layN (layN a.alloc at_ (n.lo n.cut)) a.next (n.hi n.cut)).at (p: Int) = a.at (p: Int) := fun p h1 h2 => by
     unfold layN
     rw [at_lay_ne h2 n1,at_lay_ne h1 (at_pos hat),a2 p h2]
    rw [grows,if_neg hf] at hrt
    have hrt' := Option.some.inj hrt
    obtain ⟨y1,y2⟩ := next_pos ok3
    rw [hrt'] at y2
    by_cases e1: rt = at_
    · rw [e1,hatA] at y2; cases y2
    · by_cases e2: rt = a.next
      · rw [e2]; exact n2
      · rw [<- oth rt e1 e2]; exact y2
 | cons u us ih =>
  intro a at_ n c ho hl hG hat hus rt hrt
  obtain ⟨hs,_,hd⟩ := hG
  by_cases hf: n.size <= 1024
  · rw [grows,if_pos hf] at hrt; cases hrt
  · obtain ⟨hc,_,_,_,hG'⟩ := hd.resolve_left hf
    obtain ⟨n1,n2⟩ := next_pos ho
    obtain ⟨⟨z,a1⟩,a2⟩ := at_alloc ho
    have ok1 := (ho.alloc (by omega)).1
    have hnx: a.next ≠ at_ := fun e => by rw [e,hat] at n2; cases n2
    have hat1: a.alloc.at (at_: Int) = some c := by rw [a2 at_ (fun e => hnx e.symm)]; exact hat
    have hnx1: (layN a.alloc at_ (n.lo n.cut)).at (a.next: Int) = some z := by unfold layN; rw [at_lay_ne hnx (at_pos hat)]; exact a1
    have e: grows (u :: us) a at_ n = grows us (layN (layN a.alloc at_ (n.lo n.cut)) a.next (n.hi n.cut)) u.at_ (addK u (sepOf n) a.next) := by rw [grows,if_neg hf]
    rw [e] at hrt
    have ok3 := layN_ok (n := n.hi n.cut) (layN_ok (n := n.lo n.cut) ok1 hat1 hc.lo.2.1) hnx1 hc.hi.2.1
    have hlf: (layN (layN a.alloc at_ (n.lo n.cut)) a.next (n.hi n.cut)).left = a.left - 1 := by rw [(layN_used _ _ _).2.2,(layN_used _ _ _).2.2,left_alloc ho]
    have oth: ∀ p: Nat,p ≠ at_ -> p ≠ a.next -> (layN (layN a.alloc at_ (n.lo n.cut)) a.next (n.hi n.cut)).at (p: Int) = a.at (p: Int) := fun p h1 h2 => by
     unfold layN
     rw [at_lay_ne h2 n1,at_lay_ne h1 (at_pos hat),a2 p h2]
    have hatA: (layN (layN a.alloc at_ (n.lo n.cut)) a.next (n.hi n.cut)).at (at_: Int) = some (L5.pageL (n.lo n.cut).toNd) := by
     show ((layN a.alloc at_ (n.lo n.cut)).lay a.next _).at (at_: Int) = _
     rw [at_lay_ne (fun e => hnx e.symm) n1]
     exact at_lay_same hat1 _
    generalize layN (layN a.alloc at_ (n.lo n.cut)) a.next (n.hi n.cut) = a1' at *
    have use1: ∀ q: Nat,(∃ c,a.at (q: Int) = some c) -> ∃ c,a1'.at (q: Int) = some c := fun q ⟨c',hq⟩ => by
     by_cases e1: q = at_
     · subst e1; exact ⟨_,hatA⟩
     · have e2: q ≠ a.next := fun e => by rw [e,n2] at hq; cases hq
       exact ⟨c',by rw [oth q e1 e2]; exact hq⟩
    obtain ⟨cu,hcu⟩ := use1 u.at_ (hus u (by simp))
    have h1 := ih ok3 (by simp at hl; omega) hG' hcu (fun v hv => use1 v.at_ (hus v (by simp [hv]))) rt hrt
    cases hx: a.at (rt: Int) with
    | none => rfl
    | some d =>
     obtain ⟨c',hc'⟩ := use1 rt ⟨d,hx⟩
     rw [h1] at hc'; cases hc'
theorem tinsert_ruly {s: Ar} {t r h: Nat} {es: List ByteArray} {ps: List Nat} {k: ByteArray} {w: World} (hT: TW s t r h es ps w) (hR: Ruly s.abs r ps) (hll: es.length <= 1000000) :
 Calls Tryz.prog 15 #[.pointer (some ⟨t,0,none⟩), .string k] w fun e w' => ∃ c s' r' h' es' ps',e = .returned (.int .i64 c) /\ InsR es k s.abs.left h c es' /\ TTo True s t h es ps w s' r' h' es' ps' w' := by
 obtain ⟨t1,t2,t3⟩ := hT.tp.tall hT.ok
 by_cases hk: k.size = 0 \/ 400 < k.size
 · refine (tinsert_arg hT.tr t3 hk).mono ?_
   rintro e w' ⟨rfl,hb⟩
   exact ⟨15,s,r,h,es,ps,rfl,Or.inl ⟨hk,rfl,rfl⟩,TTo.still hT hR hb⟩
 have hk1: 1 <= k.size := by omega
 have hk2: k.size <= 400 := by omega
 obtain ⟨pre,y,lo,hi,fL,fR,qO,f⟩ := hT.tp.sub.found k
 by_cases hm: k ∈ es
 · refine (tinsert_stop hT.ar hT.tr t3 hk1 hk2 (fun x W hE => insert_there_any hE hT.ok f.path t1 f.holds.small (f.mem.1 hm))).mono ?_
   rintro e w' ⟨rfl,hb⟩
   exact ⟨3,s,r,h,es,ps,rfl,Or.inr ⟨⟨hk1,hk2⟩,Or.inl ⟨hm,rfl,rfl⟩⟩,TTo.still hT hR hb⟩
 have hna: L5.isAt y.n.recs k (y.n.recs.countP (L5.ltB k)) = false := by
  cases hb: L5.isAt y.n.recs k (y.n.recs.countP (L5.ltB k)) with
  | false => rfl
  | true => exact absurd (f.mem.2 hb) hm
 by_cases hl: s.abs.left < h + 1
 · refine (tinsert_stop hT.ar hT.tr t3 hk1 hk2 (fun x W hE => insert_quota_any hE hT.ok f.path t1 f.holds.small hna hl)).mono ?_
   rintro e w' ⟨rfl,hb⟩
   exact ⟨9,s,r,h,es,ps,rfl,Or.inr ⟨⟨hk1,hk2⟩,Or.inr ⟨hm,Or.inl ⟨hl,rfl,rfl⟩⟩⟩,TTo.still hT hR hb⟩
 have hl': h + 1 <= s.abs.left := by omega
 obtain ⟨hG,ps',hS,hGr,hFt⟩ := f.law hT.ok hT.tp.nodup hl' hk1 hk2 hm (n := withRec y.n (y.n.recs.countP (L5.ltB k)) k) rfl
 have hpl: ∀ z ∈ pre.reverse,∃ c,s.abs.at (z.at_: Int) = some c := fun z hz => f.ctx.steps z hz
 have hlen0: pre.length + 1 = h := by have := f.path.pos.1; simpa using this
 refine (tinsert_any hT.ar hT.ok hT.tr t3 f.path t1 hk1 hk2 f.holds.small hna ⟨_,f.holds.page⟩ hl' (fun z hz => f.ctx.steps z (by simp [hz])) hG hll).mono ?_
 rintro e w' ⟨rfl,s',hp,hab,hok,hA,ht,hon,hown⟩
 have hlen: (insK k es).length = es.length + 1 := insK_len k es
 refine ⟨0,s',_,_,insK k es,ps',rfl,Or.inr ⟨⟨hk1,hk2⟩,Or.inr ⟨hm,Or.inr ⟨hl',rfl,rfl⟩⟩⟩,⟨hA,hok,by rw [hlen,hp]; exact ht,⟨by rw [hab]; exact hS,rfl,hGr.nodup⟩⟩, ?_,hp,by rw [hab]; exact hGr.turn,hon,hown, ?_⟩
 case refine_2 =>
  rw [hab]
  exact flow_ins f hT.ok hl' hG (by unfold withRec; simp) hR hT.tp.nodup (fun p hp => hS.pages p hp) hGr
 rw [hab]
 have hne: (withRec y.n (y.n.recs.countP (L5.ltB k)) k).recs ≠ [] := by
  unfold withRec
  simp
 have hturn := grows_turn pre.reverse hT.ok (by simp; omega) hG hne f.holds.page hpl
 refine ruly_ins (at_ := y.at_) hR hturn ?_ (f.ps_.mem_iff.2 (by simp)) (fun p hp => hS.pages p hp) hGr.fresh hS.tall.2.2 ?_
 · exact grows_good pre.reverse hT.ok (by simp; omega) hG hne f.holds.page hpl y.at_ (Or.inr (Or.inl rfl))
 · cases ho: (grows pre.reverse s.abs y.at_ (withRec y.n (y.n.recs.countP (L5.ltB k)) k)).2 with
   | none => exact Or.inl rfl
   | some rt => exact Or.inr (grows_new pre.reverse hT.ok (by simp; omega) hG f.holds.page hpl rt ho)
end Go.Proofs.YtdnkbdjhccckhaaGreat
namespace Go.Proofs.YtdnkbdjhccckhaaGreat
open Go.RowKit
structure TOp where
 k: Int
 n: Int
 s: ByteArray
def oC (o: TOp): List Value := [.int .i64 o.k, .int .i64 o.n, .string o.s]
def oV (o: TOp): Value := .agg #[.int .i64 o.k, .int .i64 o.n, .string o.s]
def greatB (l: List TOp) (m: Nat): Bool := decide (m < l.length) || l.any fun o => decide (420 < o.s.size)
theorem great_not {l: List TOp} {m: Nat} (h: greatB l m = false): l.length <= m /\ ∀ o ∈ l,o.s.size <= 420 := by
 simp only [greatB,Bool.or_eq_false_iff,decide_eq_false_iff_not,List.any_eq_false,decide_eq_true_eq] at h
 exact ⟨by omega,fun o ho => by have := h.2 o ho; omega⟩
theorem great_walk {l: List TOp} {a: Option Addr} {c m: Nat} {w: World} (hS: Rw.SlG oC 3 w a l) (hm: m <= 1000) :
 Calls Tryz.prog 5 #[.slice a l.length c, .int .i64 (m: Int)] w fun e W => e = .returned (.bool (greatB l m)) /\ Below w.heap.size w W := by
 have HS := thid hS
 clear hS
 by_cases hb: m < l.length
 · have hb': (m: Int) < (l.length: Int) := by omega
   have hg: greatB l m = true := by simp [greatB,hb]
   rw [hg]
   go_enter Tryz.func5,Tryz.ntmps5
   go_wp2
   go_ret
   exact ⟨rfl,Below.refl _ _⟩
 · have hb': ¬ (m: Int) < (l.length: Int) := by omega
   have hg: greatB l m = l.any fun o => decide (420 < o.s.size) := by simp [greatB,hb]
   rw [hg]
   clear hg
   go_enter Tryz.func5,Tryz.ntmps5
   go_wp2_with fail
   go_loopw [13] (fun i wr => ∃ j: Nat,j <= l.length /\ i = .int .i64 (j: Int) /\ Hid (Below w.heap.size w wr /\ (l.take j).any (fun o => decide (420 < o.s.size)) = false)) (fun i _ => l.length - (intOf i).toNat)
   case atStart => exact ⟨0,Nat.zero_le _,rfl,Below.refl _ _,rfl⟩
   case round =>
    obtain ⟨j,hj,rfl,HR⟩ := hrel
    by_cases hlt: j < l.length
    · have hlt': (j: Int) < (l.length: Int) := by omega
      obtain ⟨b,o,k,rfl,hbl,hx,hc⟩ := (HS.out.below HR.out.1).at hlt
      have HX := thid hx
      have c0: wr.cell? ⟨b,o + j * 3,none⟩ = some (.int .i64 k.k) := hc 0 _ rfl
      have c1: wr.cell? ⟨b,o + j * 3 + 1,none⟩ = some (.int .i64 k.n) := hc 1 _ rfl
      have c2: wr.cell? ⟨b,o + j * 3 + 2,none⟩ = some (.string k.s) := hc 2 _ rfl
      have HB1 := thid (tbelow_on HR.out.1 (tbelow wr (.cells #[.int .i64 k.k, .int .i64 k.n, .string k.s] 37)))
      clear hc hx
      by_cases hs: 420 < k.s.size
      · have hs': (420: Int) < (k.s.size: Int) := by omega
        have hany: (l.any fun o => decide (420 < o.s.size)) = true := List.any_eq_true.2 ⟨k,List.mem_of_getElem? HX.out,by simpa using hs⟩
        have HAN := thid hany
        clear hany
        go_wp2
        go_ret
        exact ⟨Rw.ret_bool HAN.out.symm,HB1.out⟩
      · have hs': ¬ (420: Int) < (k.s.size: Int) := by omega
        have HT: Hid ((l.take (j + 1)).any (fun o => decide (420 < o.s.size)) = false) := by
         show _ = false
         rw [List.take_add_one,List.any_append,HR.out.2,HX.out]
         simp [hs]
        clear HR
        go_wp2
        go_roundw
        case rel => exact ⟨j + 1,hlt,by go_num,HB1.out,HT.out⟩
        case measure => simp [intOf]; omega
    · have hjs: j = l.length := by omega
      subst hjs
      have hany := HR.out.2
      rw [List.take_length] at hany
      have HAN := thid hany
      clear hany
      go_wp2
      go_ret
      exact ⟨Rw.ret_bool HAN.out.symm,HR.out.1⟩
def repB (s: ByteArray): Nat -> ByteArray
 | 0 => ⟨#[]⟩
 | n + 1 => repB s n ++ s
theorem repB_size (s: ByteArray): ∀ n,(repB s n).size = n * s.size
 | 0 => by rw [Nat.zero_mul]; rfl
 | n + 1 => by rw [repB,ByteArray.size_append,repB_size s n,Nat.succ_mul]
def textB (o: TOp): Bool := decide (0 <= o.n) && decide (o.n <= 400) && decide ((o.s.size: Int) * o.n <= 1000)
def textO (o: TOp): ByteArray := if textB o then repB o.s o.n.toNat else ⟨#[]⟩
theorem text_walk {o: TOp} {w: World} (hs: o.s.size <= 420) :
 Calls Tryz.prog 24 #[oV o] w fun e W => e = .returned (.tuple #[.string (textO o), .bool (textB o)]) /\ Below w.heap.size w W := by
 obtain ⟨k,n,s⟩ := o
 simp only at hs
 show Calls Tryz.prog 24 #[.agg #[.int .i64 k, .int .i64 n, .string s]] w _
 have HB1 := thid (tbelow w (.cells #[.int .i64 k, .int .i64 n, .string s] 37))
 by_cases h1: n < 0
 · have e1: textB ⟨k,n,s⟩ = false := by simp [textB]; omega
   have e2: textO ⟨k,n,s⟩ = ⟨#[]⟩ := by simp [textO,e1]
   rw [e1,e2]
   clear e1 e2
   go_enter Tryz.func24,Tryz.ntmps24
   go_wp2
   go_ret2
   exact ⟨rfl,HB1.out⟩
 · by_cases h2: 400 < n
   · have e1: textB ⟨k,n,s⟩ = false := by simp [textB]; omega
     have e2: textO ⟨k,n,s⟩ = ⟨#[]⟩ := by simp [textO,e1]
     rw [e1,e2]
     clear e1 e2
     go_enter Tryz.func24,Tryz.ntmps24
     go_wp2
     go_ret2
     exact ⟨rfl,HB1.out⟩
   · obtain ⟨m,rfl⟩: ∃ m: Nat,n = (m: Int) := ⟨n.toNat,by omega⟩
     have hm: m <= 400 := by omega
     have hw: wrap64 ((s.size: Int) * (m: Int)) = ((s.size * m: Nat): Int) := by
      have: s.size * m <= 420 * 400 := Nat.mul_le_mul hs hm
      rw [<- Int.natCast_mul]
      unfold wrap64
      omega
     have h2': ¬ (400: Int) < (m: Int) := by omega
     obtain ⟨P,hP⟩: ∃ P,s.size * m = P := ⟨_,rfl⟩
     rw [hP] at hw
     by_cases h3: 1000 < P
     · have h3': (1000: Int) < (P: Int) := by omega
       have e1: textB ⟨k,(m: Int),s⟩ = false := by
        have: (s.size: Int) * (m: Int) = (P: Int) := by rw [<- Int.natCast_mul,hP]
        simp [textB,this]; omega
       have e2: textO ⟨k,(m: Int),s⟩ = ⟨#[]⟩ := by simp [textO,e1]
       rw [e1,e2]
       clear e1 e2 hP
       go_enter Tryz.func24,Tryz.ntmps24
       go_wp2
       go_ret2
       exact ⟨rfl,HB1.out⟩
     · have h3': ¬ (1000: Int) < (P: Int) := by omega
       have e1: textB ⟨k,(m: Int),s⟩ = true := by
        have: (s.size: Int) * (m: Int) = (P: Int) := by rw [<- Int.natCast_mul,hP]
        simp [textB,this]; omega
       have e2: textO ⟨k,(m: Int),s⟩ = repB s m := by simp [textO,e1]
       rw [e1,e2]
       have HP := thid hP
       clear e1 e2 hP
       go_enter Tryz.func24,Tryz.ntmps24
       go_wp2_with fail
       go_loopw [4,5] (fun i v wr => ∃ j: Nat,j <= m /\ i = .int .i64 ((m - j: Nat): Int) /\ v = .string (repB s j) /\ Hid (wr = w.alloc (.cells #[.int .i64 k, .int .i64 (m: Int), .string s] 37))) (fun i _ _ => (intOf i).toNat)
       case atStart => exact ⟨0,Nat.zero_le _,rfl,rfl,rfl⟩
       case round =>
        obtain ⟨j,hj,rfl,rfl,HR⟩ := hrel
        obtain rfl := HR.out
        by_cases hlt: j < m
        · obtain ⟨d,hd⟩: ∃ d,m - j = d + 1 := ⟨m - j - 1,by omega⟩
          rw [hd]
          have hd': (0: Int) < ((d + 1: Nat): Int) := by omega
          have hz: (repB s j).size + s.size <= 2000 := by
           have h1 := repB_size s j
           have h2: j * s.size <= m * s.size := Nat.mul_le_mul_right _ hj
           have h3 := HP.out
           rw [Nat.mul_comm] at h3
           omega
          have HRB: Hid (repB s (j + 1) = repB s j ++ s) := rfl
          generalize repB s j = R at *
          go_wp2
          refine ⟨⟨j + 1,hlt, ?_, ?_,trivial⟩, ?_⟩
          · rw [show m - (j + 1) = d by omega]
          · rw [HRB.out]
          · simp [intOf]
        · have hjs: j = m := by omega
          subst hjs
          rw [Nat.sub_self]
          go_wp2
          go_ret2
          exact ⟨rfl,HB1.out⟩
end Go.Proofs.YtdnkbdjhccckhaaGreat
