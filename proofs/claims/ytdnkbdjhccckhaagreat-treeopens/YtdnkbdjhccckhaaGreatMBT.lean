import Derived.Test.YtdnkbdjhccckhaaGreatMBR
import Derived.Sort.OwnSortedInts
import Derived.Test.YtdnkbdjhccckhaaGreatShelf
import Derived.Test.YtdnkbdjhccckhaaGreatMBL
set_option maxRecDepth 100000
set_option maxHeartbeats 4000000
namespace Go.Proofs.YtdnkbdjhccckhaaGreat
open Go.RowKit
open L4 (Ar ArP Abs arV nv)
open L5 (ltP ltB leB)
def fromL (fr: ByteArray) (es: List ByteArray): List ByteArray := es.filter fun e => !ltB fr e
theorem fromL_append (fr: ByteArray) (a b: List ByteArray): fromL fr (a ++ b) = fromL fr a ++ fromL fr b := List.filter_append ..
theorem fromL_low {fr: ByteArray} {es: List ByteArray} (h: ∀ e ∈ es,ltP e fr): fromL fr es = [] := by
 unfold fromL
 rw [List.filter_eq_nil_iff]
 intro e he
 rw [show ltB fr e = true from h e he]
 decide
theorem drop_from {l: List ByteArray} (h: l.Pairwise ltP) (fr: ByteArray): l.drop (l.countP (ltB fr)) = fromL fr l := by
 induction l with
 | nil => rfl
 | cons x l ih =>
  unfold fromL
  rw [List.countP_cons,List.filter_cons]
  rcases lt_or x fr with hx | hx
  · rw [if_pos (ltB_iff.2 hx),show ltB fr x = true from hx]
    simp only [Bool.not_true,Bool.false_eq_true,if_false,List.drop_succ_cons]
    exact ih (List.pairwise_cons.1 h).2
  · have hn: ltB fr x = false := ltB_no.2 hx
    have hz: l.countP (ltB fr) = 0 := by
     rw [List.countP_eq_zero]
     intro y hy
     rw [show ltB fr y = false from ltB_no.2 (le_tr hx (le_of ((List.pairwise_cons.1 h).1 y hy)))]
     decide
    rw [hz,hn]
    simp only [Bool.false_eq_true,if_false,Bool.not_false,if_true,Nat.add_zero,List.drop_zero]
    congr 1
    refine (List.filter_eq_self.2 fun y hy => ?_).symm
    rw [show ltB fr y = false from ltB_no.2 (le_tr hx (le_of ((List.pairwise_cons.1 h).1 y hy)))]
    rfl
theorem subs_skip {a: Abs} {h: Nat} {hi lo fr: ByteArray} {rs es: List ByteArray} {cs: List Int} {ps: List Nat} (k: Subs (Sub a h) hi lo rs cs es ps): (∀ r ∈ rs,r.size ≠ 0) -> rs.Pairwise ltP -> ∃ es1 es2 ps2,es = es1 ++ es2 /\ (∀ e ∈ es1,ltP e fr) /\ SubA a h (cs.drop (rs.countP (leB fr))) es2 ps2 := by
 induction k with
 | @one lo c es ps hP =>
  intro _ _
  refine ⟨[],es,ps,rfl,by simp, ?_⟩
  have := SubA.cons hP .nil
  simpa using this
 | @more lo r c es1 es2 rs cs ps1 ps2 hP t ih =>
  intro hz hw
  rcases lt_or fr r with hr | hr
  · have hc: (r :: rs).countP (leB fr) = 0 := by
     rw [List.countP_eq_zero]
     intro q hq
     rw [show leB fr q = false from leB_no.2 (by
      rcases List.mem_cons.1 hq with rfl | hq
      · exact hr
      · exact lt_tr hr ((List.pairwise_cons.1 hw).1 q hq))]
     decide
    rw [hc]
    exact ⟨[],_,_,rfl,by simp, .cons hP t.all⟩
  · obtain ⟨f1,f2,q2,e1,e2,e3⟩ := ih (fun q hq => hz q (by simp [hq])) (List.pairwise_cons.1 hw).2
    refine ⟨es1 ++ f1,f2,q2,by rw [e1]; simp,fun e he => ?_, ?_⟩
    · rcases List.mem_append.1 he with he | he
      · exact lt_le ((hP.bounds e he).2.resolve_left (hz r (by simp))) hr
      · exact e2 e he
    · rw [List.countP_cons,if_pos (leB_iff.2 hr)]
      exact e3
section
variable {σ γ: Type} {C: L4.St σ} {ct: σ -> γ} {ph: γ -> ByteArray -> γ × Bool} {wg: γ -> Nat} {M: Nat} {gf: FuncId} {ff cf: Array Value} {fr tt: ByteArray} {k: Nat} {a: Abs}
theorem feed_append (x y: List ByteArray): ∀ g: γ,feed tt ph (x ++ y) g = if (feed tt ph x g).2 then ((feed tt ph x g).1,true) else feed tt ph y (feed tt ph x g).1 := by
 induction x with
 | nil => intro g; rfl
 | cons z x ih =>
  intro g
  rw [List.cons_append,feed,feed]
  split
  · rfl
  · split
    · exact ih _
    · rfl
theorem vl_feed {h: Nat} (ih: ∀ (c: Nat) (lo hi: ByteArray) (es: List ByteArray) (ps: List Nat) (g: γ) (b': γ × Bool),Sub a h c lo hi es ps -> Vs a fr (tellE fr tt ph) (fun b => b.2) h c (g,false) b' -> b' = feed tt ph (fromL fr es) g) {cs: List Int} {es: List ByteArray} {ps: List Nat} (k: SubA a h cs es ps): ∀ (g: γ) (b': γ × Bool),Vl (Vs a fr (tellE fr tt ph) (fun b => b.2) h) (fun b => b.2) cs (g,false) b' -> b' = feed tt ph (fromL fr es) g := by
 induction k with
 | nil =>
  intro g b' hv
  cases hv
  rfl
 | @cons c cs lo hi es1 es2 ps1 ps2 hs t ih2 =>
  intro g b' hv
  rw [fromL_append,feed_append]
  generalize hcc: (c: Int) :: cs = l at hv
  cases hv with
  | nil => cases hcc
  | @stop c' _ _ _ hP he =>
   simp only [List.cons.injEq] at hcc
   obtain ⟨h1,_⟩ := hcc
   have: c = c' := by omega
   subst this
   have e := ih c lo hi es1 ps1 g _ hs hP
   rw [<- e,he]
   simp only [if_true]
   exact Prod.ext rfl he
  | @more c' _ _ b1 _ hP he tv =>
   simp only [List.cons.injEq] at hcc
   obtain ⟨h1,h2⟩ := hcc
   have: c = c' := by omega
   subst this
   subst h2
   have e := ih c lo hi es1 ps1 g b1 hs hP
   rw [<- e,he]
   simp only [Bool.false_eq_true,if_false]
   refine ih2 b1.1 b' ?_
   have eb: b1 = (b1.1,false) := Prod.ext rfl he
   rw [<- eb]
   exact tv
theorem vs_feed: ∀ (h c: Nat) (lo hi: ByteArray) (es: List ByteArray) (ps: List Nat) (g: γ) (b': γ × Bool),Sub a h c lo hi es ps -> Vs a fr (tellE fr tt ph) (fun b => b.2) h c (g,false) b' -> b' = feed tt ph (fromL fr es) g := by
 intro h
 induction h with
 | zero => intro _ _ _ _ _ _ _ k; exact k.elim
 | succ h ih =>
  intro c lo hi es ps g b' hs hv
  obtain ⟨n,ps',hn,rfl,hb,hc⟩ := hs
  obtain ⟨m,hm,hd⟩ := hv
  have e := hm.uniq hn
  subst e
  obtain ⟨r1,r2⟩ := shaped_recs hn.shaped
  rcases hc with ⟨h0,hl,rfl,_⟩ | ⟨h0,hl,hsu⟩
  · rcases hd with ⟨_,_,rfl⟩ | ⟨h1,_,_⟩
    · unfold tellE
      rw [hl,drop_from r2]
      simp
    · exact absurd h0 h1
  · rcases hd with ⟨h1,_,_⟩ | ⟨_,_,hvl⟩
    · exact absurd h1 h0
    · obtain ⟨es1,es2,ps2,e1,e2,e3⟩ := subs_skip (fr := fr) hsu (fun r hr => by have := (r1 r hr).1; omega) r2
      have et: tellE fr tt ph (g,false) c m = (g,false) := by unfold tellE; rw [hl]; rfl
      rw [et] at hvl
      rw [e1,fromL_append,fromL_low e2,List.nil_append]
      exact vl_feed ih e3 g b' hvl
theorem teller (F: Fed C ct ph wg M gf ff cf): Teller (walkSt C k fr tt (.func (.func gf) ff cf)) (fun b => (ct b.1,b.2)) (tellE fr tt ph) (fun b => b.2) (fun b => wg b.1) M 68 69 #[.pointer (some ⟨k,0,none⟩)] #[] #[.pointer (some ⟨k,0,none⟩)] #[] where
 gt := fun _ _ => rfl
 ge := fun _ _ => rfl
 tell := fun b W at_ n a c a' c' hP hNR ha hs _ hw => by
  obtain ⟨c0,o0⟩ := b
  exact tell_any F hP hNR ha hs hw
 enough := fun b W hP => by
  obtain ⟨c0,o0⟩ := b
  exact enough_any hP
 wts := fun b at_ n => by
  unfold tellE leafN
  cases n.leaf
  · simp
  · have := feed_wg (tt := tt) F.wgs (n.recs.drop (n.recs.countP (ltB fr))) b.1
    simp only [if_true]
    rw [List.length_drop] at this
    omega
theorem each_any (F: Fed C ct ph wg M gf ff cf) {s: Ar} {t r h: Nat} {es: List ByteArray} {ps: List Nat} {c: σ} {w: World} (hT: TW s t r h es ps w) (hp: C.P c w) (d1: ∀ q,C.own c q -> ¬ s.own q) (d2: ∀ q,C.own c q -> q ≠ t) (hM: wg (ct c) + es.length + ps.length <= M) :
 Calls Tryz.prog 44 #[.pointer (some ⟨t,0,none⟩), .string fr, .string tt, .func (.func gf) ff cf] w fun e w' => e = .returned (.tuple #[]) /\ ∃ c',C.P c' w' /\ ct c' = (feed tt ph (fromL fr es) (ct c)).1 /\ L4.Moves C c c' w w' := by
 have HT := thid hT
 have HP := thid hp
 have HF := thid F
 have HD := thid (And.intro d1 d2)
 have HOV := thid (over_ok hT.tr (hT.tp.tall hT.ok).2.2)
 have hmf: ∀ (fn: Fn) (first cap: Array Value) (w: World),(Instr.makeFunc fn first cap).run Tryz.prog w = .ok (.func fn first cap) w := fun _ _ _ _ => rfl
 have hfe := fun (fn: Fn) (first cap: Array Value) (w: World) => eql_func_nil w 96 fn first cap Tryz.underlying96
 clear hT hp F d1 d2
 go_enter Tryz.func44,Tryz.ntmps44
 go_wp2_with fail
 refine HOV.out.mono ?_
 rintro e w1 ⟨rfl,B1⟩
 have HB1 := thid B1
 clear HOV B1
 go_wp2_with fail
 have hb2 := tbelow_on HB1.out (tbelow w1 (.cells #[.string fr, .string tt, .func (.func gf) ff cf, .bool false] 121))
 have own1: ∀ q,C.own c q -> q < w.heap.size := fun q hq => C.lt c w q HP.out hq
 have own2: ∀ q,s.own q -> q < w.heap.size := fun q hq => L4.arSt.lt s w q HT.out.ar hq
 have tlt: t < w.heap.size := (Array.getElem?_eq_some_iff.1 HT.out.tr.blk).1
 have z1 := HB1.out.size
 have HTH := thid (through_any (teller (k := w1.heap.size) (fr := fr) (tt := tt) HF.out) (b := (c,false)) (fr := fr) (HT.out.on hb2) ⟨C.below HP.out hb2,heap_alloc_new w1 (.cells #[.string fr, .string tt, .func (.func gf) ff cf, .bool false] 121),fun x => by have := own1 _ x; omega⟩ (fun q hq ho => by
  rcases hq with hq | hq
  · exact HD.out.1 q hq ho
  · have := own2 q ho; omega) (fun q hq => by
  rcases hq with hq | hq
  · exact HD.out.2 q hq
  · omega) hM)
 have HB2 := thid hb2
 clear hb2
 refine HTH.out.mono ?_
 rintro e w4 ⟨rfl,b',hv,hp',hm⟩
 have HFI: Hid (∃ c',C.P c' w4 /\ ct c' = (feed tt ph (fromL fr es) (ct c)).1 /\ L4.Moves C c c' w w4) := by
  have e := vs_feed h r e0 e0 es ps (ct c) _ HT.out.tp.sub hv
  refine ⟨b'.1,hp'.1,congrArg Prod.fst e,only_join (Only.of_below HB2.out) hm.only (fun q hq => ?_),fun q hq => ?_⟩
  · rcases hq with hq | hq
    · exact Or.inl hq
    · exact Or.inr (by omega)
  · rcases hm.own q (Or.inl hq) with hq | hq
    · rcases hq with hq | hq
      · exact Or.inl hq
      · exact Or.inr (by omega)
    · exact Or.inr (Nat.le_trans HB2.out.size hq)
 clear hv hp' hm HTH HB2 HB1 HT HP
 go_wp2
 go_end0
 exact ⟨rfl,HFI.out⟩
end
end Go.Proofs.YtdnkbdjhccckhaaGreat
namespace Go.Proofs.YtdnkbdjhccckhaaGreat
open Go.RowKit
open L4 (Ar ArP Abs arV nv)
def lstSt (o: Nat): L4.St (Value × List ByteArray) where
 own b q := q = o \/ b.1.ownBlock = some q
 P b W := W.heap[o]? = some (.cells #[b.1] 33 (0,0)) /\ W.ownsRow 0 9 1 b.1 b.2.length (L5.svs b.2)
 keep b w w' h hk _ := ⟨(hk o (Or.inl rfl)).trans h.1,L5.owns_of_block h.2 fun q hq => hk q (Or.inr hq)⟩
 lt b w q h hq := by
  rcases hq with rfl | hq
  · exact (Array.getElem?_eq_some_iff.1 h.1).1
  · exact (h.2.lt q hq).2
 tag b w q cs h hq := by
  intro e
  rcases hq with rfl | hq
  · rw [h.1] at e; simp at e
  · exact row_ne e h.2 (by decide) hq
theorem all1_any {o: Nat} {v: Value} {xs: List ByteArray} {s: ByteArray} {w: World} (k: (lstSt o).P (v,xs) w) (hx: xs.length <= 100000) :
 Calls Tryz.prog 45 #[.string s, .pointer (some ⟨o,0,none⟩)] w fun e w' => e = .returned (.bool true) /\ ∃ v',(lstSt o).P (v',xs ++ [s]) w' /\ L4.Moves (lstSt o) (v,xs) (v',xs ++ [s]) w w' := by
 have HK := thid k
 have ol := (Array.getElem?_eq_some_iff.1 k.1).1
 have c0: w.cell? ⟨o,0,none⟩ = some v := by rw [cell_of_row _ _ _ _ _ _ k.1]; rfl
 have hf: ∀ i,w.frozen? ⟨o,i,none⟩ = false := fun i => frozen_of_row _ _ _ _ _ k.1
 have k2: w.ownsRow 0 9 1 v xs.length (L5.svs xs) := k.2
 obtain ⟨va,vc,rfl⟩ := own_slice k2
 clear k k2
 go_enter Tryz.func45,Tryz.ntmps45
 have HB1 := thid (tbelow w (.cells #[.string s] 9))
 go_wp2_with (first
  | (at_builtin
     revert HB1)
  | fail)
 intro HB1
 have HK1 := thid ((lstSt o).below HK.out HB1.out)
 refine L5.append_row (z := .string ⟨#[]⟩) (by_ := 16) Tryz.underlying33 (by kernel_rfl) (by decide) rfl 0 (Nat.zero_le _) rfl _ _ rfl (.slice va xs.length vc) xs.length (L5.svs xs) [.string s] rfl HK1.out.2 (by omega) 1 (by omega) ⟨w.heap.size,0,none⟩ 1 rfl rfl (fun i u hi => by
  rw [Addr.add_lit,cell_of_row _ _ _ _ _ _ (heap_alloc_new _ _)]
  simpa using hi) (fun u hu => by simp at hu; subst hu; rfl) ?_
 intro v' w5 hown hg hat
 have hno: (Value.slice va xs.length vc).ownBlock ≠ some o := row_ne HK1.out.1 HK1.out.2 (by decide)
 have b5: w5.heap[o]? = some (.cells #[.slice va xs.length vc] 33 (0,0)) := (hg.block o (Nat.lt_of_lt_of_le ol HB1.out.size) (fun e => hno e.symm)).trans HK1.out.1
 have c5: w5.cell? ⟨o,0,none⟩ = some (.slice va xs.length vc) := by rw [cell_of_row _ _ _ _ _ _ b5]; rfl
 have f5: ∀ i,w5.frozen? ⟨o,i,none⟩ = false := fun i => frozen_of_row _ _ _ _ _ b5
 have l5 := (Array.getElem?_eq_some_iff.1 b5).1
 obtain ⟨ad,cp,rfl⟩ := L5.owns_at hown
 have HF: Hid ((lstSt o).P (.slice ad (xs.length + 1) cp,xs ++ [s]) (w5.setCell ⟨o,0,none⟩ (.slice ad (xs.length + 1) cp)) /\ L4.Moves (lstSt o) (.slice va xs.length vc,xs) (.slice ad (xs.length + 1) cp,xs ++ [s]) w (w5.setCell ⟨o,0,none⟩ (.slice ad (xs.length + 1) cp))) := by
  refine ⟨⟨heap_setCell_same w5 o 0 _ _ _ b5, ?_⟩,⟨hg.os.trans HB1.out.os,hg.tape.trans HB1.out.tape,hg.output.trans HB1.out.output, ?_,fun q hq hs => ?_⟩,fun q hq => ?_⟩
  · have h1 := ownsRow_setCell_other hown (a := ⟨o,0,none⟩) (row_ne b5 hown (by decide)) (.slice ad (xs.length + 1) cp)
    show World.ownsRow _ 0 9 1 (.slice ad (xs.length + 1) cp) (xs ++ [s]).length (L5.svs (xs ++ [s]))
    rw [List.length_append,show L5.svs (xs ++ [s]) = L5.svs xs ++ [.string s] by simp [L5.svs]]
    exact h1
  · have z1 := HB1.out.size; have z2 := hg.size; simp [World.setCell]; omega
  · rw [heap_setCell_other _ _ _ _ (fun e => hs (Or.inl e)),hg.block q (Nat.lt_of_lt_of_le hq HB1.out.size) (fun e => hs (Or.inr e.symm)),HB1.out.block q hq]
  · rcases hq with hq | hq
    · exact Or.inl (Or.inl hq)
    · rcases hat q hq with hq | hq
      · exact Or.inl (Or.inr hq)
      · exact Or.inr (Nat.le_trans HB1.out.size hq)
 clear hown hg hat b5 HK HK1 HB1 c0 hf
 go_wp2
 go_ret
 exact ⟨rfl,_,HF.out⟩
theorem all_fed (o: Nat): Fed (lstSt o) (fun b => b.2) (fun (g: List ByteArray) x => (g ++ [x],true)) List.length 100000 45 #[] #[.pointer (some ⟨o,0,none⟩)] where
 gt := fun _ _ => rfl
 call := fun c W x hP hM _ => by
  obtain ⟨v,xs⟩ := c
  refine (all1_any (s := x) hP (by have: xs.length + 1 <= 100000 := hM; omega)).mono ?_
  rintro e w' ⟨rfl,v',h1,h2⟩
  exact ⟨rfl,(v',xs ++ [x]),h1,rfl,h2⟩
 wgs := fun c x => by simp
theorem feed_all {tt: ByteArray} (ht: tt.size = 0) (l: List ByteArray): ∀ g: List ByteArray,feed tt (fun (g: List ByteArray) x => (g ++ [x],true)) l g = (g ++ l,false) := by
 induction l with
 | nil => intro g; simp [feed]
 | cons x l ih =>
  intro g
  rw [feed,if_neg (fun h => h.1 ht)]
  simp only [if_true]
  rw [ih]
  simp
theorem from_all (es: List ByteArray): fromL ⟨#[]⟩ es = es := by
 unfold fromL
 refine List.filter_eq_self.2 fun y _ => ?_
 rw [show L5.ltB ⟨#[]⟩ y = false from ltB_no.2 (le_e0 y)]
 rfl
theorem owns_raise {W: World} {B B': Nat} {e: TypeId} {m n: Nat} {v: Value} {xs: List Value} (h: W.ownsRow B e m v n xs) (hb: ∀ q,v.ownBlock = some q -> B' <= q): W.ownsRow B' e m v n xs := by
 refine ⟨h.1, ?_⟩
 rcases h.2 with hn | ⟨g,cap,cur,rfl,_,rest⟩
 · exact .inl hn
 · exact .inr ⟨g,cap,cur,rfl,hb g rfl,rest⟩
theorem all_any {s: Ar} {t r h: Nat} {es: List ByteArray} {ps: List Nat} {w: World} (hT: TW s t r h es ps w) (hM: es.length <= 90000) :
 Calls Tryz.prog 16 #[.pointer (some ⟨t,0,none⟩)] w fun e w' => ∃ a c,e = .returned (.slice a es.length c) /\ w'.ownsRow w.heap.size 9 1 (.slice a es.length c) es.length (L5.svs es) /\ Below w.heap.size w w' := by
 have hb := tbelow w (.cells #[.slice none 0 0] 33)
 have hps := pages_le hT.ok hT.tp.nodup hT.tp.sub.pages
 have hnew: (lstSt w.heap.size).P (.slice none 0 0,[]) (w.alloc (.cells #[.slice none 0 0] 33)) := ⟨heap_alloc_new _ _,⟨rfl,Or.inl ⟨rfl,rfl⟩⟩⟩
 have own0: ∀ q,(lstSt w.heap.size).own (.slice none 0 0,[]) q -> q = w.heap.size := fun q hq => by
  rcases hq with hq | hq
  · exact hq
  · simp [Value.ownBlock] at hq
 have HEA := thid (each_any (fr := ⟨#[]⟩) (tt := ⟨#[]⟩) (all_fed w.heap.size) (hT.on hb) hnew (fun q hq ho => by
  have := own0 q hq
  have := L4.arSt.lt s w q hT.ar ho
  omega) (fun q hq => by
  have := own0 q hq
  have := (Array.getElem?_eq_some_iff.1 hT.tr.blk).1
  omega) (by show ([]: List ByteArray).length + es.length + ps.length <= 100000; simp; omega))
 have HB := thid hb
 have hmf: ∀ (fn: Fn) (first cap: Array Value) (w: World),(Instr.makeFunc fn first cap).run Tryz.prog w = .ok (.func fn first cap) w := fun _ _ _ _ => rfl
 clear hT hb hnew
 go_enter Tryz.func16,Tryz.ntmps16
 go_wp2_with fail
 refine HEA.out.mono ?_
 rintro e w4 ⟨rfl,⟨v',xs⟩,hp,hct,hm⟩
 have hxs: xs = es := by
  have: xs = (feed ⟨#[]⟩ (fun (g: List ByteArray) x => (g ++ [x],true)) (fromL ⟨#[]⟩ es) []).1 := hct
  rw [this,feed_all rfl,from_all]
  rfl
 subst hxs
 have c0: w4.cell? ⟨w.heap.size,0,none⟩ = some v' := by rw [cell_of_row _ _ _ _ _ _ hp.1]; rfl
 have hp2: w4.ownsRow 0 9 1 v' xs.length (L5.svs xs) := hp.2
 obtain ⟨a,c,rfl⟩ := own_slice hp2
 have HF: Hid (w4.ownsRow w.heap.size 9 1 (.slice a xs.length c) xs.length (L5.svs xs) /\ Below w.heap.size w w4) := by
  have hz := HB.out.size
  refine ⟨owns_raise hp.2 fun q hq => ?_,HB.out.trans (hm.only.below HB.out.size fun q hq x => ?_)⟩
  · rcases hm.own q (Or.inr hq) with hq | hq
    · have := own0 q hq; omega
    · omega
  · have := own0 q x; omega
 clear hp hm HEA HB hct
 go_wp2
 go_ret
 exact ⟨a,c,rfl,HF.out⟩
end Go.Proofs.YtdnkbdjhccckhaaGreat
namespace Go.Proofs.YtdnkbdjhccckhaaGreat
open Go.RowKit
open L4 (Ar ArP Abs arV nv)
open L5 (ltP ltB leB)
def pgSt (o: Nat): L4.St (Value × List Nat) where
 own b q := q = o \/ b.1.ownBlock = some q
 P b W := W.heap[o]? = some (.cells #[b.1] 55 (0,0)) /\ W.ownsRow 0 3 1 b.1 b.2.length (b.2.map nv)
 keep b w w' h hk _ := ⟨(hk o (Or.inl rfl)).trans h.1,L5.owns_of_block h.2 fun q hq => hk q (Or.inr hq)⟩
 lt b w q h hq := by
  rcases hq with rfl | hq
  · exact (Array.getElem?_eq_some_iff.1 h.1).1
  · exact (h.2.lt q hq).2
 tag b w q cs h hq := by
  intro e
  rcases hq with rfl | hq
  · rw [h.1] at e; simp at e
  · exact row_ne e h.2 (by decide) hq
theorem pages1_any {o: Nat} {v: Value} {xs: List Nat} {at_: Nat} {lf: Bool} {ra ka: Option Addr} {rn rc kn kc: Nat} {w: World} (k: (pgSt o).P (v,xs) w) (hx: xs.length <= 100000) :
 Calls Tryz.prog 79 #[.int .i64 (at_: Int), .agg #[.bool lf, .slice ra rn rc, .slice ka kn kc], .pointer (some ⟨o,0,none⟩)] w fun e w' => e = .returned (.tuple #[]) /\ ∃ v',(pgSt o).P (v',xs ++ [at_]) w' /\ L4.Moves (pgSt o) (v,xs) (v',xs ++ [at_]) w w' := by
 have HK := thid k
 have ol := (Array.getElem?_eq_some_iff.1 k.1).1
 have c0: w.cell? ⟨o,0,none⟩ = some v := by rw [cell_of_row _ _ _ _ _ _ k.1]; rfl
 have hf: ∀ i,w.frozen? ⟨o,i,none⟩ = false := fun i => frozen_of_row _ _ _ _ _ k.1
 have k2: w.ownsRow 0 3 1 v xs.length (xs.map nv) := k.2
 obtain ⟨va,vc,rfl⟩ := own_slice k2
 clear k k2
 go_enter Tryz.func79,Tryz.ntmps79
 have HB1 := thid (tbelow_on (tbelow w (.cells #[.bool lf, .slice ra rn rc, .slice ka kn kc] 69)) (tbelow (w.alloc (.cells #[.bool lf, .slice ra rn rc, .slice ka kn kc] 69)) (.cells #[.int .i64 (at_: Int)] 3)))
 go_wp2_with (first
  | (at_builtin
     revert HB1)
  | fail)
 intro HB1
 have HK1 := thid ((pgSt o).below HK.out HB1.out)
 refine L5.append_row (z := .int .i64 0) (by_ := 8) Tryz.underlying55 (by kernel_rfl) (by decide) rfl 0 (Nat.zero_le _) rfl _ _ rfl (.slice va xs.length vc) xs.length (xs.map nv) [nv at_] rfl HK1.out.2 (by omega) 1 (by omega) ⟨w.heap.size + 1,0,none⟩ 1 rfl rfl (fun i u hi => by
  rw [Addr.add_lit,show w.heap.size + 1 = (w.alloc (.cells #[.bool lf, .slice ra rn rc, .slice ka kn kc] 69)).heap.size by simp,cell_of_row _ _ _ _ _ _ (heap_alloc_new _ _)]
  simpa [nv] using hi) (fun u hu => by simp at hu; subst hu; rfl) ?_
 intro v' w5 hown hg hat
 have hno: (Value.slice va xs.length vc).ownBlock ≠ some o := row_ne HK1.out.1 HK1.out.2 (by decide)
 have b5: w5.heap[o]? = some (.cells #[.slice va xs.length vc] 55 (0,0)) := (hg.block o (Nat.lt_of_lt_of_le ol HB1.out.size) (fun e => hno e.symm)).trans HK1.out.1
 have c5: w5.cell? ⟨o,0,none⟩ = some (.slice va xs.length vc) := by rw [cell_of_row _ _ _ _ _ _ b5]; rfl
 have f5: ∀ i,w5.frozen? ⟨o,i,none⟩ = false := fun i => frozen_of_row _ _ _ _ _ b5
 have l5 := (Array.getElem?_eq_some_iff.1 b5).1
 obtain ⟨ad,cp,rfl⟩ := L5.owns_at hown
 have HF: Hid ((pgSt o).P (.slice ad (xs.length + 1) cp,xs ++ [at_]) (w5.setCell ⟨o,0,none⟩ (.slice ad (xs.length + 1) cp)) /\ L4.Moves (pgSt o) (.slice va xs.length vc,xs) (.slice ad (xs.length + 1) cp,xs ++ [at_]) w (w5.setCell ⟨o,0,none⟩ (.slice ad (xs.length + 1) cp))) := by
  refine ⟨⟨heap_setCell_same w5 o 0 _ _ _ b5, ?_⟩,⟨hg.os.trans HB1.out.os,hg.tape.trans HB1.out.tape,hg.output.trans HB1.out.output, ?_,fun q hq hs => ?_⟩,fun q hq => ?_⟩
  · have h1 := ownsRow_setCell_other hown (a := ⟨o,0,none⟩) (row_ne b5 hown (by decide)) (.slice ad (xs.length + 1) cp)
    show World.ownsRow _ 0 3 1 (.slice ad (xs.length + 1) cp) (xs ++ [at_]).length ((xs ++ [at_]).map nv)
    rw [List.length_append,show (xs ++ [at_]).map nv = xs.map nv ++ [nv at_] by simp]
    exact h1
  · have z1 := HB1.out.size; have z2 := hg.size; simp [World.setCell]; omega
  · rw [heap_setCell_other _ _ _ _ (fun e => hs (Or.inl e)),hg.block q (Nat.lt_of_lt_of_le hq HB1.out.size) (fun e => hs (Or.inr e.symm)),HB1.out.block q hq]
  · rcases hq with hq | hq
    · exact Or.inl (Or.inl hq)
    · rcases hat q hq with hq | hq
      · exact Or.inl (Or.inr hq)
      · exact Or.inr (Nat.le_trans HB1.out.size hq)
 clear hown hg hat b5 HK HK1 HB1 c0 hf
 go_wp2
 go_end0
 exact ⟨rfl,_,HF.out⟩
theorem pages2_any (w: World): Calls Tryz.prog 80 #[] w fun e w' => e = .returned (.bool false) /\ Below w.heap.size w w' := by
 go_enter Tryz.func80,Tryz.ntmps80
 go_wp2
 go_ret
 exact ⟨rfl,by first | exact Below.refl _ _ | exact (Below.refl _ _).drew⟩
def tellP (g: List Nat) (at_: Nat) (_: L5.No): List Nat := g ++ [at_]
theorem pages_teller (o: Nat): Teller (pgSt o) (fun b => b.2) tellP (fun _ => false) List.length 100000 79 80 #[] #[.pointer (some ⟨o,0,none⟩)] #[] #[] where
 gt := fun _ _ => rfl
 ge := fun _ _ => rfl
 tell := fun b W at_ n a c a' c' hP _ _ _ _ hw => by
  obtain ⟨v,xs⟩ := b
  refine (pages1_any (at_ := at_) (lf := n.leaf) (ra := a) (rn := n.recs.length) (rc := c) (ka := a') (kn := n.kids.length) (kc := c') hP (by have: xs.length + leafN n + 1 <= 100000 := hw; omega)).mono ?_
  rintro e w' ⟨rfl,v',h1,h2⟩
  exact ⟨rfl,(v',xs ++ [at_]),h1,rfl,h2⟩
 enough := fun b W _ => pages2_any W
 wts := fun b at_ n => by unfold tellP; simp
theorem count_e0 {l: List ByteArray} (h: ∀ s ∈ l,1 <= s.size): l.countP (leB e0) = 0 := by
 rw [List.countP_eq_zero]
 intro r hr hle
 have h1 := h r hr
 unfold leB at hle
 have h2 := le_e0 r
 unfold leP at h2
 rw [h2] at hle
 simp only [Bool.false_or,beq_iff_eq] at hle
 rw [ba_ext hle,e0_size] at h1
 omega
theorem vl_pages {a: Abs} {h: Nat} (ih: ∀ (c: Nat) (lo hi: ByteArray) (es: List ByteArray) (ps: List Nat) (g b': List Nat),Sub a h c lo hi es ps -> Vs a e0 tellP (fun _ => false) h c g b' -> b' = g ++ ps) {cs: List Int} {es: List ByteArray} {ps: List Nat} (k: SubA a h cs es ps): ∀ (g b': List Nat),Vl (Vs a e0 tellP (fun _ => false) h) (fun _ => false) cs g b' -> b' = g ++ ps := by
 induction k with
 | nil =>
  intro g b' hv
  cases hv
  simp
 | @cons c cs lo hi es1 es2 ps1 ps2 hs t ih2 =>
  intro g b' hv
  generalize hcc: (c: Int) :: cs = l at hv
  cases hv with
  | nil => cases hcc
  | stop hP he => cases he
  | @more c' _ _ b1 _ hP he tv =>
   simp only [List.cons.injEq] at hcc
   obtain ⟨h1,h2⟩ := hcc
   have: c = c' := by omega
   subst this
   subst h2
   have e := ih c lo hi es1 ps1 g b1 hs hP
   rw [ih2 b1 b' tv,e,List.append_assoc]
theorem vs_pages {a: Abs}: ∀ (h c: Nat) (lo hi: ByteArray) (es: List ByteArray) (ps: List Nat) (g b': List Nat),Sub a h c lo hi es ps -> Vs a e0 tellP (fun _ => false) h c g b' -> b' = g ++ ps := by
 intro h
 induction h with
 | zero => intro _ _ _ _ _ _ _ k; exact k.elim
 | succ h ih =>
  intro c lo hi es ps g b' hs hv
  obtain ⟨n,ps',hn,rfl,hb,hc⟩ := hs
  obtain ⟨m,hm,hd⟩ := hv
  have e := hm.uniq hn
  subst e
  obtain ⟨r1,r2⟩ := shaped_recs hn.shaped
  rcases hc with ⟨h0,hl,rfl,rfl⟩ | ⟨h0,hl,hsu⟩
  · rcases hd with ⟨_,_,rfl⟩ | ⟨h1,_,_⟩
    · rfl
    · exact absurd h0 h1
  · rcases hd with ⟨h1,_,_⟩ | ⟨_,_,hvl⟩
    · exact absurd h1 h0
    · rw [count_e0 fun s hs => (r1 s hs).1,List.drop_zero] at hvl
      rw [vl_pages ih hsu.all _ _ hvl]
      unfold tellP
      simp
def sortP (ps: List Nat): List Int := (ps.map fun n: Nat => (n: Int)).mergeSort fun x y => decide (x <= y)
theorem sortP_len (ps: List Nat): (sortP ps).length = ps.length := by unfold sortP; rw [List.length_mergeSort]; simp
theorem pages_any {s: Ar} {t r h: Nat} {es: List ByteArray} {ps: List Nat} {w: World} (hT: TW s t r h es ps w) (hM: es.length <= 90000) :
 Calls Tryz.prog 59 #[.pointer (some ⟨t,0,none⟩)] w fun e w' => ∃ a c,e = .returned (.tuple #[.slice a ps.length c, .int .i64 0]) /\ w'.ownsRow w.heap.size 3 1 (.slice a ps.length c) ps.length (L5.ivs (sortP ps)) /\ Below w.heap.size w w' := by
 have hb := tbelow w (.cells #[.slice none 0 0] 55)
 have hps := pages_le hT.ok hT.tp.nodup hT.tp.sub.pages
 have hne: ps ≠ [] := by
  have hh := hT.tp.sub
  cases h with
  | zero => exact hh.elim
  | succ h => obtain ⟨n,ps',_,rfl,_⟩ := hh; simp
 have hnew: (pgSt w.heap.size).P (.slice none 0 0,[]) (w.alloc (.cells #[.slice none 0 0] 55)) := ⟨heap_alloc_new _ _,⟨rfl,Or.inl ⟨rfl,rfl⟩⟩⟩
 have own0: ∀ q,(pgSt w.heap.size).own (.slice none 0 0,[]) q -> q = w.heap.size := fun q hq => by
  rcases hq with hq | hq
  · exact hq
  · simp [Value.ownBlock] at hq
 have HEA := thid (through_any (fr := e0) (pages_teller w.heap.size) (hT.on hb) hnew (fun q hq ho => by
  have := own0 q hq
  have := L4.arSt.lt s w q hT.ar ho
  omega) (fun q hq => by
  have := own0 q hq
  have := (Array.getElem?_eq_some_iff.1 hT.tr.blk).1
  omega) (by show ([]: List Nat).length + es.length + ps.length <= 100000; simp; omega))
 have HB := thid hb
 have HSB := thid hT.tp.sub
 have hmf: ∀ (fn: Fn) (first cap: Array Value) (w: World),(Instr.makeFunc fn first cap).run Tryz.prog w = .ok (.func fn first cap) w := fun _ _ _ _ => rfl
 clear hT hb hnew
 unfold e0 at HEA
 go_enter Tryz.func59,Tryz.ntmps59
 go_wp2_with fail
 refine HEA.out.mono ?_
 rintro e w4 ⟨rfl,⟨v',xs⟩,hv,hp,hm⟩
 have hxs: xs = ps := by
  have := vs_pages h r _ _ es ps [] xs HSB.out hv
  simpa using this
 subst hxs
 have c0: w4.cell? ⟨w.heap.size,0,none⟩ = some v' := by rw [cell_of_row _ _ _ _ _ _ hp.1]; rfl
 have hp2: w4.ownsRow 0 3 1 v' xs.length (xs.map nv) := hp.2
 rcases hp2.2 with ⟨hn,hz⟩ | ⟨g,cap,cur,rfl,_,hg,hcap,hmax,hcs,htk⟩
 · exact absurd (List.length_eq_zero_iff.1 (by simpa using hz)) hne
 have hzl: (xs.map fun n: Nat => (n: Int)).length = xs.length := by simp
 have HH: Hid (Sort.Holds (Value.int .i64) w4 g 0 (xs.map fun n: Nat => (n: Int)).toArray) := holds_of_blockI hg (by rw [hzl,List.map_map]; rw [Nat.mul_one] at htk; exact htk)
 have HSO := thid (Tryz.slices_Sort_int g 0 cap (xs.map fun n: Nat => (n: Int)) w4 HH.out (Array.getElem?_eq_some_iff.1 hg).1 (by rw [hzl]; omega))
 rw [hzl] at HSO
 have hgw: w.heap.size <= g /\ g ≠ w.heap.size := by
  refine ⟨?_,fun e => ?_⟩
  · rcases hm.own g (Or.inr rfl) with hq | hq
    · have := own0 g hq; omega
    · have := HB.out.size; omega
  · rw [e,hp.1] at hg; simp at hg
 have HB4: Hid (Below w.heap.size w w4) := HB.out.trans (hm.only.below HB.out.size fun q hq x => by have := own0 q x; omega)
 have HV := thid hp.1
 have HG := thid hg
 clear hp2 hp hm HEA HB hg HH
 go_wp2_with fail
 refine HSO.out.mono ?_
 rintro e w5 ⟨rfl,n5,os5,rfl⟩
 have hgb := grownBy_sortedI (w := w4) (g := g) (n := n5) (os := os5) (sortP xs).toArray
 have HF: Hid ((Sort.grow (Sort.putRow (Value.int .i64) (Sort.ahead w4 n5) g 0 (sortP xs).toArray) os5).ownsRow w.heap.size 3 1 (.slice (some ⟨g,0,none⟩) xs.length cap) xs.length (L5.ivs (sortP xs)) /\ Below w.heap.size w (Sort.grow (Sort.putRow (Value.int .i64) (Sort.ahead w4 n5) g 0 (sortP xs).toArray) os5)) := by
  have h1 := ownsRow_sortedI (n := n5) (os := os5) (ss := xs.map fun n: Nat => (n: Int)) (ts := sortP xs) (by rw [sortP_len,hzl]) hgw.1 HG.out (by rw [hzl]; exact hcap) hmax hcs
  rw [hzl] at h1
  exact ⟨h1,HB4.out.grown hgb HB4.out.size (fun k hk => by cases hk; exact hgw.1)⟩
 have c1: (Sort.grow (Sort.putRow (Value.int .i64) (Sort.ahead w4 n5) g 0 (sortP xs).toArray) os5).cell? ⟨w.heap.size,0,none⟩ = some (.slice (some ⟨g,0,none⟩) xs.length cap) := by
  rw [cell_of_row _ _ _ _ _ _ ((hgb.block w.heap.size (Array.getElem?_eq_some_iff.1 HV.out).1 (fun e => hgw.2 (by cases e; rfl))).trans HV.out)]; rfl
 have l1 := Nat.lt_of_lt_of_le (Array.getElem?_eq_some_iff.1 HV.out).1 hgb.size
 unfold sortP at c1 l1 hgb
 clear HV HG HSO HB4 c0
 go_wp2
 go_ret2
 exact ⟨_,_,rfl,HF.out⟩
theorem tpages_any {s: Ar} {t r h: Nat} {es: List ByteArray} {ps: List Nat} {w: World} (hT: TW s t r h es ps w) (hM: es.length <= 90000) :
 Calls Tryz.prog 39 #[.pointer (some ⟨t,0,none⟩)] w fun e w' => ∃ a c,e = .returned (.slice a ps.length c) /\ w'.ownsRow w.heap.size 3 1 (.slice a ps.length c) ps.length (L5.ivs (sortP ps)) /\ Below w.heap.size w w' := by
 have HT := thid hT
 have HOV := thid (over_ok hT.tr (hT.tp.tall hT.ok).2.2)
 clear hT
 go_enter Tryz.func39,Tryz.ntmps39
 go_wp2_with fail
 refine HOV.out.mono ?_
 rintro e w1 ⟨rfl,B1⟩
 have HPG := thid (pages_any (HT.out.on B1) hM)
 have HB1 := thid B1
 clear HOV B1
 go_wp2_with fail
 refine HPG.out.mono ?_
 rintro e w2 ⟨a,c,rfl,o2,B2⟩
 have HF: Hid (w2.ownsRow w.heap.size 3 1 (.slice a ps.length c) ps.length (L5.ivs (sortP ps)) /\ Below w.heap.size w w2) := ⟨L5.owns_base o2 HB1.out.size,tbelow_on HB1.out B2⟩
 clear o2 B2 HPG HB1
 go_wp2
 go_ret
 exact ⟨_,_,rfl,HF.out⟩
end Go.Proofs.YtdnkbdjhccckhaaGreat
namespace Go.Proofs.YtdnkbdjhccckhaaGreat
open Go.RowKit
open L4 (Ar ArP Abs arV nv)
def bA: ByteArray := ⟨#[97]⟩
def bB: ByteArray := ⟨#[98]⟩
end Go.Proofs.YtdnkbdjhccckhaaGreat
namespace Go.Proofs.YtdnkbdjhccckhaaGreat
open Go.RowKit
open L4 (Ar ArP Abs arV nv)
open L5 (ltP)
theorem leaf0_shaped: leaf0.shaped = true := by decide
theorem leaf0_size: leaf0.size <= 1024 := by decide
theorem tnew {s: Ar} {w: World} (hA: ArP s w) (ho: s.abs.Ok) (hl: 0 < s.abs.left) :
 Calls Tryz.prog 7 #[arV s.p] w fun e w' => e = .returned (.tuple #[.pointer (some ⟨w.heap.size,0,none⟩), .int .i64 0]) /\ ∃ s' r,TW s' w.heap.size r 1 [] [r] w' /\ s'.p = s.p /\ Grew s.abs s'.abs [] [r] /\ Only (fun k => s.own k \/ k = w.heap.size) w w' /\ (∀ k,s'.own k -> s.own k \/ w.heap.size <= k) := by
 refine (new_ok hA ho hl).mono ?_
 rintro e w' ⟨rfl,s',hp,hab,hok,hA',hT,hon,hown⟩
 obtain ⟨n1,n2⟩ := next_pos ho
 obtain ⟨⟨z,a1⟩,a2⟩ := at_alloc ho
 obtain ⟨u1,u2⟩ := used_alloc ho
 have hab': s'.abs = layN s.abs.alloc s.abs.next leaf0 := hab
 have hH: Holds s'.abs s.abs.next leaf0 := by rw [hab']; exact Holds.lay a1 leaf0_shaped leaf0_size leaf0_small
 have hB: Body (Sub s'.abs 0) 0 leaf0 e0 e0 [] [] := ⟨fun r hr => by simp [leaf0] at hr,Or.inl ⟨rfl,rfl,rfl,rfl⟩⟩
 have hS: Sub s'.abs 1 s.abs.next e0 e0 [] [s.abs.next] := ⟨leaf0,[],hH,rfl,hB⟩
 have hTr: TrC w' w.heap.size s'.p s.abs.next 1 ([]: List ByteArray).length := by rw [hp]; exact hT
 have hTP: TreeP s'.abs s.abs.next 1 ([]: List ByteArray).length [] [s.abs.next] := ⟨hS,rfl,by simp⟩
 refine ⟨rfl,s',s.abs.next,⟨hA',hok,hTr,hTP⟩,hp,⟨hok, ?_,by simp,fun p hp => absurd hp (by simp),fun p hp => ?_,fun p _ hc' => ?_, ?_⟩,hon,hown⟩
 · rw [hab',(layN_used _ _ _).2.1,u2]
 · simp at hp; subst hp; exact Or.inr n2
 · obtain ⟨c,hc⟩ := hc'
   have hne: p ≠ s.abs.next := fun e => by rw [e,n2] at hc; cases hc
   rw [hab']
   unfold layN
   rw [at_lay_ne hne n1,a2 p hne]
 · rw [hab',(layN_used _ _ _).1,u1]
   rfl
theorem same_strs {l: List ByteArray} {a b: Option Addr} {c d: Nat} {w: World} (h1: L5.Rd w a c (L5.svs l)) (h2: L5.Rd w b d (L5.svs l)) (hl: l.length <= 100000) :
 Calls Tryz.prog 36 #[.slice a l.length c, .slice b l.length d] w fun e w' => e = .returned (.bool true) /\ Below w.heap.size w w' := by
 have H1 := thid h1
 have H2 := thid h2
 clear h1 h2
 go_enter Tryz.func36,Tryz.ntmps36
 go_wp2_with fail
 go_loopw [5] (fun i wr => ∃ j: Nat,j <= l.length /\ i = .int .i64 (j: Int) /\ Hid (Below w.heap.size w wr)) (fun i _ => l.length - (intOf i).toNat)
 case atStart => exact ⟨0,Nat.zero_le _,rfl,Below.refl _ _⟩
 case round =>
  obtain ⟨j,hj,rfl,HB⟩ := hrel
  by_cases hlt: j < l.length
  · have hlt': (j: Int) < (l.length: Int) := by omega
    obtain ⟨x1,o1,rfl,l1,c1⟩ := H1.out.str j hlt
    obtain ⟨x2,o2,rfl,l2,c2⟩ := H2.out.str j hlt
    generalize l[j] = y at *
    have e1 := (HB.out.cell (p := ⟨x1,o1 + j,none⟩) l1).trans c1
    have e2 := (HB.out.cell (p := ⟨x2,o2 + j,none⟩) l2).trans c2
    have m1: x1 < wr.heap.size := Nat.lt_of_lt_of_le l1 HB.out.size
    have m2: x2 < wr.heap.size := Nat.lt_of_lt_of_le l2 HB.out.size
    have hyy: (y.toList != y.toList) = false := by simp
    go_wp2_with fail
    go_quiet (fail)
    go_wp2
    exact ⟨⟨j + 1,by omega,by go_num,by first | exact HB | exact below_drewN HB.out _⟩,by simp [intOf]; omega⟩
  · have hlt': (l.length: Int) <= (j: Int) := by omega
    go_wp2
    go_ret
    exact ⟨rfl,HB.out⟩
end Go.Proofs.YtdnkbdjhccckhaaGreat
namespace Go.Proofs.YtdnkbdjhccckhaaGreat
open Go.RowKit
open L4 (Ar ArP Abs arV nv)
open L5 (ltP ltB leB)
def xA: ByteArray := ⟨#[97]⟩
def xB: ByteArray := ⟨#[98]⟩
theorem xlt_ab: Op.bytesLess xA.toList xB.toList = true := by rw [ByteArray.toList_eq,ByteArray.toList_eq]; decide
theorem xlt_ba: Op.bytesLess xB.toList xA.toList = false := by rw [ByteArray.toList_eq,ByteArray.toList_eq]; decide
theorem xlt_bb: Op.bytesLess xB.toList xB.toList = false := by rw [ByteArray.toList_eq]; decide
theorem xne: xA ≠ xB := fun e => by have := xlt_ab; rw [e,xlt_bb] at this; cases this
theorem x_ins1: insK xB [] = [xB] := rfl
theorem x_ins2: insK xA [xB] = [xA,xB] := by
 have: [xB].countP (ltB xA) = 0 := by simp [ltB,xlt_ba]
 unfold insK
 rw [this]
 rfl
theorem x_del3: delK xB [xA,xB] = [xA] := by
 have: [xA,xB].countP (ltB xB) = 1 := by simp [ltB,xlt_ab,xlt_bb]
 unfold delK
 rw [this]
 rfl
theorem Subs.somes {P: Nat -> ByteArray -> ByteArray -> List ByteArray -> List Nat -> Prop} {hi lo: ByteArray} {rs es: List ByteArray} {cs: List Int} {ps: List Nat} (k: Subs P hi lo rs cs es ps): (∀ c lo hi es q,(∀ p ∈ q,p ∈ ps) -> P c lo hi es q -> es ≠ []) -> rs.length + 1 <= es.length := by
 induction k with
 | one hP =>
  intro H
  have := List.length_pos_iff.2 (H _ _ _ _ _ (fun p hp => hp) hP)
  simp
  omega
 | more hP t ih =>
  intro H
  have h1 := List.length_pos_iff.2 (H _ _ _ _ _ (fun p hp => List.mem_append_left _ hp) hP)
  have h2 := ih fun c lo hi es q hq hs => H c lo hi es q (fun p hp => List.mem_append_right _ (hq p hp)) hs
  rw [List.length_append,List.length_cons]
  omega
theorem Ruly.one {a: Abs} {h r: Nat} {es: List ByteArray} {ps: List Nat} (k: Ruly a r ps) (hs: Sub a h r e0 e0 es ps) (he: es.length <= 1): h = 1 := by
 have hta := hs.tall
 rcases k.lush with hl | hl
 · omega
 · cases h with
   | zero => exact hs.elim
   | succ h =>
    obtain ⟨n,ps',hn,rfl,_,hc⟩ := hs
    rcases hc with ⟨h0,_⟩ | ⟨_,hlf,hsu⟩
    · omega
    · have h1 := hsu.somes fun c lo hi es q hq hs => hs.some_ fun p hp => hl p (by simp [hq p hp])
      have h2 := (shaped_kids hn.shaped hlf).2
      have h3 := k.root n hn
      omega
structure Lone (w0: World) (s: Ar) (t r h: Nat) (es: List ByteArray) (ps: List Nat) (w: World): Prop where
 tw: TW s t r h es ps w
 ru: Ruly s.abs r ps
 bel: Below w0.heap.size w0 w
 own: ∀ k,s.own k -> w0.heap.size <= k
 tl: w0.heap.size <= t
theorem Lone.on {w0 w w': World} {s: Ar} {t r h: Nat} {es: List ByteArray} {ps: List Nat} (k: Lone w0 s t r h es ps w) (hb: Below w.heap.size w w'): Lone w0 s t r h es ps w' := ⟨k.tw.on hb,k.ru,tbelow_on k.bel hb,k.own,k.tl⟩
theorem Lone.tree {ins: Prop} {w0 w w': World} {s s': Ar} {t r h r' h': Nat} {es es': List ByteArray} {ps ps': List Nat} (k: Lone w0 s t r h es ps w) (g: TTo ins s t h es ps w s' r' h' es' ps' w'): Lone w0 s' t r' h' es' ps' w' := by
 obtain ⟨g1,g2,g3,g4,g5,g6,_⟩ := g
 refine ⟨g1,g2,k.bel.trans (g5.below k.bel.size fun q hq e => ?_),fun q hq => ?_,k.tl⟩
 · rcases e with e | e
   · have := k.own q e; omega
   · have := k.tl; omega
 · rcases g6 q hq with e | e
   · exact k.own q e
   · exact Nat.le_trans k.bel.size e
theorem Lone.new {q: Nat} {w0 w1 w2 w3: World} {s s': Ar} {r: Nat} (h0: Below w0.heap.size w0 w1) (hF: L4.Fresh q w1 s w2) (t1: TW s' w2.heap.size r 1 [] [r] w3) (o1: Only (fun k => s.own k \/ k = w2.heap.size) w2 w3) (n1: ∀ k,s'.own k -> s.own k \/ w2.heap.size <= k): Lone w0 s' w2.heap.size r 1 [] [r] w3 := by
 obtain ⟨_,_,f3,f4⟩ := hF
 have b2 := h0.trans (f3.mono h0.size)
 have hru: Ruly s'.abs r [r] := by
  refine ⟨Or.inl rfl,fun n hn => ?_⟩
  obtain ⟨m,ps',hm,_,_,hc⟩ := t1.tp.sub
  rcases hc with ⟨_,hl,_⟩ | ⟨h0,_⟩
  · rw [hn.uniq hm,shaped_leaf hm.shaped hl]; simp
  · exact absurd rfl h0
 refine ⟨t1,hru,b2.trans (o1.below b2.size fun k hk e => ?_),fun k hk => ?_,b2.size⟩
 · rcases e with e | e
   · have := f4 k e
     have := h0.size
     omega
   · have := b2.size
     omega
 · rcases n1 k hk with e | e
   · exact Nat.le_trans h0.size (f4 k e)
   · exact Nat.le_trans b2.size e
theorem awake2_walk (w: World): Calls Tryz.prog 4 #[] w fun e w' => e = .returned (.bool true) /\ Below w.heap.size w w' := by
 go_enter Tryz.func4,Tryz.ntmps4
 go_wp2_with fail
 refine (L4.new_ok 20 (by decide) _).mono ?_
 rintro e w1 ⟨s,rfl,hF⟩
 have hok0: s.abs.Ok := by
  rw [hF.2.1]
  exact ⟨by simp,by simp,by simp,by simp,by simp,by decide⟩
 have hl0: 0 < s.abs.left := by rw [hF.2.1]; decide
 have hq0: s.abs.q = 20 /\ s.abs.used = 0 := by rw [hF.2.1]; exact ⟨rfl,rfl⟩
 have HF := thid hF
 have HN := thid (tnew hF.1 hok0 hl0)
 clear hF
 unfold arV at HN ⊢
 go_wp2_with fail
 refine HN.out.mono ?_
 rintro e w2 ⟨rfl,s2,r2,t2,p2,g2,o2,n2⟩
 have hq2 := g2.q
 have hu2 := g2.used
 simp at hu2
 have HM2 := thid (Lone.new (Below.refl _ w) HF.out t2 o2 n2)
 clear HF HN t2 p2 g2 o2 n2 hok0 hl0
 generalize w1.heap.size = t at *
 have hle2: 2 <= s2.abs.left := by unfold L4.Abs.left; omega
 have HI := thid (tinsert_ruly (k := xB) HM2.out.tw HM2.out.ru (by simp))
 unfold xB at HI
 go_wp2_with fail
 refine HI.out.mono ?_
 rintro e w3 ⟨c3,s3,r3,h3,es3,ps3,rfl,i3,t3⟩
 have hc3: c3 = 0 /\ es3 = [xB] := by
  rcases i3 with ⟨h1,_⟩ | ⟨_,⟨h1,_⟩ | ⟨_,⟨h1,_⟩ | ⟨_,e1,e2⟩⟩⟩
  · exact absurd h1 (by decide)
  · cases h1
  · omega
  · exact ⟨e1,e2.trans x_ins1⟩
 obtain ⟨rfl,rfl⟩ := hc3
 have hm3 := t3.2.2.2.2.2.2.more
 have hu3 := t3.2.2.2.2.2.2.used
 have hq3 := t3.2.2.2.1.q
 have hh3 := t3.2.2.2.2.2.2.tall [] (fun p hp hz => by
  obtain ⟨n,hn,hl,_⟩ := hz
  obtain ⟨m,ps',hm,_,_,hc⟩ := HM2.out.tw.tp.sub
  have ep: p = r2 := by simpa using hp
  rw [ep] at hn
  rcases hc with ⟨_,hl2,_⟩ | ⟨h0,_⟩
  · rw [hn.uniq hm,hl2] at hl; cases hl
  · exact absurd rfl h0)
 have HM3 := thid (HM2.out.tree t3)
 clear HM2 HI i3 t3 hle2
 have hle3: h3 + 1 <= s3.abs.left := by simp at hm3 hu3; unfold L4.Abs.left; omega
 have HI := thid (tinsert_ruly (k := xA) HM3.out.tw HM3.out.ru (by simp))
 unfold xA at HI
 go_wp2_with fail
 refine HI.out.mono ?_
 rintro e w4 ⟨c4,s4,r4,h4,es4,ps4,rfl,i4,t4⟩
 have hc4: c4 = 0 /\ es4 = [xA,xB] := by
  rcases i4 with ⟨h1,_⟩ | ⟨_,⟨h1,_⟩ | ⟨_,⟨h1,_⟩ | ⟨_,e1,e2⟩⟩⟩
  · exact absurd h1 (by decide)
  · exact absurd (List.mem_singleton.1 h1: xA = xB) xne
  · omega
  · exact ⟨e1,e2.trans x_ins2⟩
 obtain ⟨rfl,rfl⟩ := hc4
 have HM4 := thid (HM3.out.tree t4)
 clear HM3 HI i4 t4 hle3 hm3 hu3 hq3 hh3 hq2 hu2 hq0
 go_wp2_with fail
 refine (all_any HM4.out.tw (by simp)).mono ?_
 rintro e w5 ⟨a,c,rfl,ho,hb⟩
 have HM5 := thid (HM4.out.on hb)
 have hrd := L5.owns_rd_slice ho
 obtain ⟨b,of,rfl,hbl,hbc⟩ := hrd.2.2 0 (.string xA) rfl
 have hcc: 2 <= c := hrd.1
 have hbc': w5.cell? ⟨b,of,none⟩ = some (.string ⟨#[97]⟩) := hbc
 have e2: [xA,xB].length = 2 := rfl
 rw [e2]
 clear ho hb hrd HM4 hbc
 have HI := thid (tdelete_tree (k := xB) HM5.out.tw HM5.out.ru (by simp))
 unfold xB at HI
 go_wp2_with fail
 refine HI.out.mono ?_
 rintro e w6 ⟨c6,s6,r6,h6,es6,ps6,rfl,i6,t6⟩
 have hc6: c6 = 0 /\ es6 = [xA] := by
  rcases i6 with ⟨h1,_⟩ | ⟨_,e1,e2⟩
  · exact absurd (by simp) h1
  · exact ⟨e1,e2.trans x_del3⟩
 obtain ⟨rfl,rfl⟩ := hc6
 have HM6 := thid (HM5.out.tree t6)
 have hh6: h6 = 1 := HM6.out.ru.one HM6.out.tw.tp.sub (by simp)
 subst hh6
 clear HM5 hbc' hbl hcc HI i6 t6
 have HLN := thid (len_ok HM6.out.tw.tr)
 rw [show [xA].length = 1 from rfl] at HLN
 go_wp2_with fail
 refine HLN.out.mono ?_
 rintro e w7 ⟨rfl,hb⟩
 have HM7 := thid (HM6.out.on hb)
 clear hb HM6 HLN
 go_wp2_with fail
 refine (height_ok HM7.out.tw.tr).mono ?_
 rintro e w8 ⟨rfl,hb⟩
 have HM8 := thid (tbelow_on HM7.out.bel hb)
 clear hb HM7
 go_wp2
 go_ret
 exact ⟨rfl,HM8.out⟩
end Go.Proofs.YtdnkbdjhccckhaaGreat
