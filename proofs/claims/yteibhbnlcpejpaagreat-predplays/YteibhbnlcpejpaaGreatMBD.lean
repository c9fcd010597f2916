import Derived.Deep.Draws
import Derived.Test.YteibhbnlcpejpaaGreatMAR
set_option maxRecDepth 100000
set_option maxHeartbeats 4000000
namespace Go.Proofs.YteibhbnlcpejpaaGreat
open Go.RowKit
structure Only (S: Nat -> Prop) (w w': World): Prop where
 os: w'.os = w.os
 tape: w'.tape = w.tape
 output: w'.output = w.output
 size: w.heap.size <= w'.heap.size
 block: ∀ k,k < w.heap.size -> ¬ S k -> w'.heap[k]? = w.heap[k]?
theorem Only.refl (S: Nat -> Prop) (w: World): Only S w w := ⟨rfl,rfl,rfl,Nat.le_refl _,fun _ _ _ => rfl⟩
theorem Only.trans {S: Nat -> Prop} {a b c: World} (h: Only S a b) (k: Only S b c): Only S a c :=
 ⟨k.os.trans h.os,k.tape.trans h.tape,k.output.trans h.output,Nat.le_trans h.size k.size,
  fun i hi hs => (k.block i (Nat.lt_of_lt_of_le hi h.size) hs).trans (h.block i hi hs)⟩
theorem Only.weaken {S T: Nat -> Prop} {a b: World} (h: Only S a b) (hST: ∀ k,k < a.heap.size -> S k -> T k): Only T a b :=
 ⟨h.os,h.tape,h.output,h.size,fun i hi hs => h.block i hi fun x => hs (hST i hi x)⟩
theorem Only.alloc {S: Nat -> Prop} {a w: World} (h: Only S a w) (o: Obj): Only S a (w.alloc o) :=
 h.trans ⟨rfl,rfl,rfl,by simp,fun k hk _ => Below.heap_alloc _ _ _ hk⟩
theorem Only.setCell {S: Nat -> Prop} {a w: World} (h: Only S a w) {p: Addr} (hp: a.heap.size <= p.block \/ S p.block) (u: Value): Only S a (w.setCell p u) := by
 refine ⟨h.os,h.tape,h.output,by simpa [World.setCell] using h.size,fun k hk hs => ?_⟩
 have hne: k ≠ p.block := fun e => by rcases hp with hp | hp; omega; exact hs (e ▸ hp)
 rw [Below.heap_setCell _ _ _ _ hne]
 exact h.block k hk hs
theorem Only.drew {S: Nat -> Prop} {a w: World} (h: Only S a w): Only S a w.drew := ⟨h.os,h.tape,h.output,h.size,h.block⟩
theorem Only.grown {S: Nat -> Prop} {a w w': World} {row: Option Nat} (h: Only S a w) (hg: w.grownBy w' row) (hr: ∀ k,row = some k -> a.heap.size <= k \/ S k): Only S a w' := by
 refine ⟨hg.os.trans h.os,hg.tape.trans h.tape,hg.output.trans h.output,Nat.le_trans h.size hg.size,fun k hk hs => ?_⟩
 rw [hg.block k (Nat.lt_of_lt_of_le hk h.size) fun e => ?_]
 · exact h.block k hk hs
 · rcases hr k e.symm with h | h
   · omega
   · exact hs h
theorem Only.cell {S: Nat -> Prop} {w w': World} (h: Only S w w') {p: Addr} (hp: p.block < w.heap.size) (hs: ¬ S p.block): w'.cell? p = w.cell? p := World.cell?_of_block (w := w) (h.block p.block hp hs)
theorem Only.frozen {S: Nat -> Prop} {w w': World} (h: Only S w w') {p: Addr} (hp: p.block < w.heap.size) (hs: ¬ S p.block): w'.frozen? p = w.frozen? p := World.frozen?_of_block (w := w) (h.block p.block hp hs)
theorem Only.below {S: Nat -> Prop} {w w': World} (h: Only S w w') {B: Nat} (hB: B <= w.heap.size) (hs: ∀ k,k < B -> ¬ S k): Below B w w' :=
 ⟨h.os,h.tape,h.output,h.size,fun k hk => h.block k (by omega) (hs k hk)⟩
theorem Only.of_below {S: Nat -> Prop} {w w': World} (h: Below w.heap.size w w'): Only S w w' :=
 ⟨h.os,h.tape,h.output,h.size,fun k hk _ => h.block k hk⟩
def OffC (p: Nat -> Prop) (k: CondL): Prop := (k.ts = [] \/ ∀ b o,k.a = some ⟨b,o,none⟩ -> p b) /\ (k.l = [] \/ ∀ b o,k.b = some ⟨b,o,none⟩ -> p b) /\ ∀ x ∈ k.l,∀ m,OffN p m x
theorem OffC.mono {p q: Nat -> Prop} {k: CondL} (hpq: ∀ b,p b -> q b) (h: OffC p k): OffC q k := ⟨h.1.imp id fun h b o e => hpq b (h b o e),h.2.1.imp id fun h b o e => hpq b (h b o e),fun x hx m => (h.2.2 x hx m).mono hpq⟩
def PlCQ (n: Nat) (k: CondL) (w: World) (e: Ending) (W: World): Prop := ∃ k': CondL,e = .returned (cdV k') /\ k'.ts = k.ts /\ k'.l.length = k.l.length /\ (∀ (j: Nat) x y,k.l[j]? = some x -> k'.l[j]? = some y -> LikeN n x y) /\ CdIn W k' /\ OffC (fun b => w.heap.size <= b) k' /\ Below w.heap.size w W
theorem infoRT: (Tryz.prog.info? 180).map (fun i => (i.zero,i.size,i.bytes)) = some (some (tlV tlz),11,88) := by kernel_rfl
structure PcI (p: Nat) (U W: World) (v v1: Value) (j: Nat) (ts: List Tl): Prop where
 only: Only (· = p) U W
 box: W.heap[p]? = some (.cells #[v,v1] 85 (0,0))
 own: W.ownsRow (p + 1) 180 11 v j (Rw.flat tlC (ts.take j))
theorem PcI.step {p: Nat} {U W V W2: World} {v v1 v2: Value} {j: Nat} {ts: List Tl} (h: PcI p U W v v1 j ts) (hU: U.heap.size = p + 1) (hb: Below W.heap.size W V) (O2: W2.ownsRow (p + 1) 180 11 v2 (j + 1) (Rw.flat tlC (ts.take (j + 1)))) (G2: V.grownBy W2 v.ownBlock): PcI p U (W2.setCell ⟨p,0,none⟩ v2) v2 v1 (j + 1) ts := by
 have hp := (Array.getElem?_eq_some_iff.1 h.box).1
 have hn: v.ownBlock ≠ some p := fun e => by have := (h.own.lt p e).1; omega
 have hbx := (hb.block _ hp).trans h.box
 have hB2: W2.heap[p]? = some (.cells #[v,v1] 85 (0,0)) := (G2.block p (Array.getElem?_eq_some_iff.1 hbx).1 hn.symm).trans hbx
 refine ⟨?_, ?_, ?_⟩
 · have h1: Only (· = p) U V := h.only.trans ((Only.of_below hb).weaken fun _ _ x => x)
   exact (h1.grown G2 fun k hk => Or.inl (by have := (h.own.lt k hk).1; omega)).setCell (Or.inr rfl) v2
 · have := heap_setCell_same W2 p 0 #[v,v1] 85 v2 hB2
   simpa using this
 · exact Rw.owns_below O2 fun q hq => heap_setCell_other _ _ _ _ (by have := (O2.lt q hq).1; show q ≠ p; omega)
theorem plainC_end {n: Nat} {k: CondL} {w w0 w1 U wr W3: World} {a': Option Addr} {c': Nat} {av: Option Addr} {cv: Nat} (hB: Below w.heap.size w w1) (hU: Below w1.heap.size w1 U) (hU1: U.heap.size = w1.heap.size + 1) (hT: TsOk k.ts) (hlc: w.heap.size + 1 < w1.heap.size) (HY: PlainsNP n k.l w0 (.returned (.slice a' k.l.length c')) w1) (hw0: w0.heap.size = w.heap.size + 2) (hlen: k.l.length <= 1599289640401)
 (ho: Only (· = w1.heap.size) U wr) (hown: wr.ownsRow (w1.heap.size + 1) 180 11 (.slice av k.ts.length cv) k.ts.length (Rw.flat tlC k.ts)) (hs: wr.heap.size <= W3.heap.size) (h3: ∀ q,q ≠ w.heap.size + 1 -> W3.heap[q]? = wr.heap[q]?) (hb3: Below (w.heap.size + 1) wr W3): PlCQ n k w (.returned (.agg #[.slice av k.ts.length cv, .slice a' k.l.length c'])) W3 := by
 obtain ⟨a1,c1,l',e,hl',hS',hoff,hk',hL',hb'⟩ := HY
 cases e
 have key: ∀ b,b < w1.heap.size -> w.heap.size + 2 <= b -> W3.heap[b]? = w1.heap[b]? := fun b hb h2 => (h3 b (by omega)).trans ((ho.block b (by omega) (by omega)).trans (hU.block b hb))
 have hsz: w1.heap.size <= W3.heap.size := by have := ho.size; omega
 refine ⟨⟨av,cv,k.ts,a',c',l'⟩, ?_,rfl,hl',hL',⟨?_,hT, ?_, ?_, ?_⟩,⟨Or.inr fun b o e => ?_,hoff.imp id fun h b o e => (by have := h b o e; omega),fun x hx m => (hk' x hx m).2.mono fun b hb => (by omega)⟩, ?_⟩
 · show Ending.returned _ = .returned (.agg #[.slice av k.ts.length cv, .slice a' l'.length c'])
   rw [hl']
 · exact (Rw.owns_slg tlC_len (by decide) (Rw.owns_below hown fun q hq => h3 q (by have := (hown.lt q hq).1; omega))).2.1
 · show Rw.SlG nC 7 W3 a' l'
   rcases hoff with e | e
   · rw [e]; exact Or.inl rfl
   · exact hS'.turn hsz fun b o ea hlt => key b hlt (by have := e b o ea; omega)
 · show l'.length <= _
   rw [hl']; exact hlen
 · exact fun x hx m => (hk' x hx m).1.turn (hk' x hx m).2 hsz fun b hlt hb => key b hlt (by omega)
 · rcases Rw.owns_addr hown with ⟨rfl,_⟩ | ⟨g,rfl⟩
   · cases e
   · have hg := (hown.lt g rfl).1
     have e2: some (⟨g,0,none⟩: Addr) = some ⟨b,o,none⟩ := e
     simp only [Option.some.injEq,Addr.mk.injEq] at e2
     omega
 · exact hB.trans ((hU.mono hB.size).trans ((ho.below (B := w.heap.size) (by have := hB.size; omega) fun q hq e => by have := hB.size; omega).trans (hb3.mono (by omega))))
theorem plainQ_walk (n: Nat) (k: CondL) {w: World} (hI: CdIn w k) (hts: k.ts.length <= 1000) (hd: ∀ x ∈ k.l,deepN n x = false): Calls Tryz.prog 27 #[cdV k] w (PlCQ n k w) := by
 have HI := Rw.dh (fun W (hb: Below w.heap.size w W) => hI.on hb)
 have HP := Rw.dh (fun W (hb: Below w.heap.size w W) => nplains_walk n (nplain_walk n) (c := k.d) (hI.ns.below hb) (fun x hx => (hI.ins x hx n).on hb) hd hI.len)
 have HT := Rw.dh hI.ok
 have HLn := Rw.dh hI.len
 clear hI hd
 obtain ⟨ta,tc,ts,la,lc,l⟩ := k
 simp only at HP HT hts HLn
 unfold cdV
 go_enter Tryz.func27,Tryz.ntmps27
 go_wp2_with fail
 refine (HP.out _ (below_two w _ _)).mono ?_
 rintro e w1 ⟨a',c',l',rfl,hl',hS',ho',hk',hL',hb'⟩
 have hB := below_on (below_two w (.cells #[.slice ta ts.length tc, .slice la l.length lc] 78) (.cells #[.slice none 0 0, .slice none 0 0] 85)) hb'
 have hc := (hb'.block w.heap.size (by simp; omega)).trans ((Below.heap_alloc _ _ _ (by simp)).trans (Rw.heap_new w _))
 have hr := (hb'.block (w.heap.size + 1) (by simp)).trans (heap_two w _ _)
 have HY: Hid (PlainsNP n l (w.alloc (.cells #[.slice ta ts.length tc, .slice la l.length lc] 78) |>.alloc (.cells #[.slice none 0 0, .slice none 0 0] 85)) (.returned (.slice a' l.length c')) w1) := ⟨a',c',l',rfl,hl',hS',ho',hk',hL',hb'⟩
 have hlc := (Array.getElem?_eq_some_iff.1 hr).1
 have d0: w1.cell? ⟨w.heap.size,0,none⟩ = some (.slice ta ts.length tc) := by rw [cell_of_row _ _ _ _ _ _ hc]; rfl
 have HB := Rw.dh hB
 have HC := Rw.dh hc
 have HRs := Rw.dh hr
 have HT1 := Rw.dh (fun W hb => (HI.out W hb).ts)
 simp only at HT1
 have d1: (w1.alloc (.cells #[.slice none 0 0, .slice a' l.length c'] 85)).cell? ⟨w.heap.size,0,none⟩ = some (.slice ta ts.length tc) := ((Rw.below_alloc w1 _).cell (p := ⟨w.heap.size,0,none⟩) (by show w.heap.size < w1.heap.size; omega)).trans d0
 clear d0
 clear hl' hS' ho' hk' hL' hb' hB hc hr HP HI
 go_wp2_with fail
 refine Rw.to_letter (F := fun U => Below w1.heap.size w1 U /\ U.heap.size = w1.heap.size + 1 /\ U.heap[w1.heap.size]? = some (.cells #[.slice none 0 0, .slice a' l.length c'] 85 (0,0))) ⟨Rw.below_alloc _ _,by simp,Rw.heap_new _ _⟩ ?_
 rintro U ⟨hU,hus,hx⟩
 have HUs := Rw.dh hus
 have HU := Rw.dh hU
 have hUl := (Array.getElem?_eq_some_iff.1 hx).1
 have HX: Hid (PcI w1.heap.size U U (.slice none 0 0) (.slice a' l.length c') 0 ts) := ⟨Only.refl _ _,hx,World.ownsRow_nil _ _ _ _⟩
 have HTw: Hid (∀ W,Only (· = w1.heap.size) U W -> Rw.SlG tlC 11 W ta ts) := fun W ho => HT1.out W (HB.out.trans (hU.trans (ho.below hU.size fun k hk e => by omega) |>.mono HB.out.size))
 clear hU hx hus
 have hU1: U.heap.size = w1.heap.size + 1 := HUs.out
 go_loopw [13] (fun i wr => ∃ (j: Nat) (v: Value),j <= ts.length /\ i = .int .i64 (j: Int) /\ Hid (PcI w1.heap.size U wr v (.slice a' l.length c') j ts)) (fun i _ => ts.length - (intOf i).toNat)
 case atStart => exact ⟨0,_,Nat.zero_le _,rfl,HX⟩
 case round =>
  obtain ⟨j,v,hj,rfl,HR⟩ := hrel
  have z0: wr.cell? ⟨w1.heap.size,0,none⟩ = some v := by rw [cell_of_row _ _ _ _ _ _ HR.out.box]; rfl
  have z1: wr.cell? ⟨w1.heap.size,1,none⟩ = some (.slice a' l.length c') := by rw [cell_of_row _ _ _ _ _ _ HR.out.box]; rfl
  have hlz := (Array.getElem?_eq_some_iff.1 HR.out.box).1
  by_cases hlt: j < ts.length
  · obtain ⟨b,o,t,rfl,hb,hx,hc⟩ := (HTw.out wr HR.out.only).at hlt
    have HXt := Rw.dh hx
    have c0: wr.cell? ⟨b,o + j * 11,none⟩ = some (.int .i64 t.col) := hc 0 _ rfl
    have c1: wr.cell? ⟨b,o + j * 11 + 1,none⟩ = some (.bool t.lo.has) := hc 1 _ rfl
    have c2: wr.cell? ⟨b,o + j * 11 + 2,none⟩ = some (.bool t.lo.incl) := hc 2 _ rfl
    have c3: wr.cell? ⟨b,o + j * 11 + 3,none⟩ = some (.int .i64 t.lo.v.k) := hc 3 _ rfl
    have c4: wr.cell? ⟨b,o + j * 11 + 4,none⟩ = some (.int .i64 t.lo.v.n) := hc 4 _ rfl
    have c5: wr.cell? ⟨b,o + j * 11 + 5,none⟩ = some (.string t.lo.v.s) := hc 5 _ rfl
    have c6: wr.cell? ⟨b,o + j * 11 + 6,none⟩ = some (.bool t.hi.has) := hc 6 _ rfl
    have c7: wr.cell? ⟨b,o + j * 11 + 7,none⟩ = some (.bool t.hi.incl) := hc 7 _ rfl
    have c8: wr.cell? ⟨b,o + j * 11 + 8,none⟩ = some (.int .i64 t.hi.v.k) := hc 8 _ rfl
    have c9: wr.cell? ⟨b,o + j * 11 + 9,none⟩ = some (.int .i64 t.hi.v.n) := hc 9 _ rfl
    have c10: wr.cell? ⟨b,o + j * 11 + 10,none⟩ = some (.string t.hi.v.s) := hc 10 _ rfl
    have z0': (wr.alloc (.cells #[.int .i64 t.col, .bool t.lo.has, .bool t.lo.incl, .int .i64 t.lo.v.k, .int .i64 t.lo.v.n, .string t.lo.v.s, .bool t.hi.has, .bool t.hi.incl, .int .i64 t.hi.v.k, .int .i64 t.hi.v.n, .string t.hi.v.s] 175)).cell? ⟨w1.heap.size,0,none⟩ = some v := ((Rw.below_alloc wr _).cell (p := ⟨w1.heap.size,0,none⟩) hlz).trans z0
    clear hc hx z0 z1
    go_wp2_with (at_builtin; revert HR)
    intro HR
    refine Rw.to_letter (F := fun V => Below wr.heap.size wr V /\ Rw.Src V (some ⟨wr.heap.size + 1,0,none⟩) 1 1 (tlC t)) ⟨below_two wr _ _,Rw.src_new _ (tlC t) _ 1 1 (by simp)⟩ ?_
    rintro V ⟨hV,sV⟩
    refine append_bigN Tryz.underlying83 infoRT rfl (by decide) rfl _ _ rfl (w1.heap.size + 1) (by have := hV.size; omega) v j (Rw.flat tlC (ts.take j)) rfl (Rw.owns_on HR.out.own hV) _ 1 1 (tlC t) rfl sV rfl (tlC_one _) (by unfold maxLen; omega) (by omega) ?_
    intro v2 W2 O2 G2 hv2
    obtain ⟨av,cv,rfl⟩ := Rw.owns_slice O2
    have HR2: Hid (PcI w1.heap.size U (W2.setCell ⟨w1.heap.size,0,none⟩ (.slice av (j + 1) cv)) (.slice av (j + 1) cv) (.slice a' l.length c') (j + 1) ts) := HR.out.step hU1 hV (by
     obtain ⟨hjl,hkj⟩ := List.getElem?_eq_some_iff.1 HXt.out
     rw [List.take_succ_eq_append_getElem hjl,hkj,Rw.flat_append]
     simpa [Rw.flat] using O2) G2
    have hbx := (hV.block _ hlz).trans HR.out.box
    have hB2 := (G2.block w1.heap.size (Array.getElem?_eq_some_iff.1 hbx).1 (fun e => by have := (HR.out.own.lt _ e.symm).1; omega)).trans hbx
    have y0: W2.cell? ⟨w1.heap.size,0,none⟩ = some v := by rw [cell_of_row _ _ _ _ _ _ hB2]; rfl
    have y1: W2.frozen? ⟨w1.heap.size,0,none⟩ = false := frozen_of_row _ _ _ _ _ hB2
    have y2 := (Array.getElem?_eq_some_iff.1 hB2).1
    clear O2 G2 hv2 hB2 hbx hV sV HR z0' c0 c1 c2 c3 c4 c5 c6 c7 c8 c9 c10
    go_wp2_with fail
    exact ⟨⟨j + 1,_,hlt,by go_num,HR2⟩,by simp [intOf]; omega⟩
  · have hjs: j = ts.length := by omega
    subst hjs
    have hown := HR.out.own
    rw [List.take_length] at hown
    obtain ⟨av,cv,rfl⟩ := Rw.owns_slice hown
    have hrb: wr.heap[w.heap.size + 1]? = some (.cells #[.slice none 0 0, .slice none 0 0] 85 (0,0)) := (HR.out.only.block _ (by omega) (by omega)).trans ((HU.out.block _ hlc).trans HRs.out)
    have r0: wr.cell? ⟨w.heap.size + 1,0,none⟩ = some (.slice none 0 0) := by rw [cell_of_row _ _ _ _ _ _ hrb]; rfl
    have r1: wr.cell? ⟨w.heap.size + 1,1,none⟩ = some (.slice none 0 0) := by rw [cell_of_row _ _ _ _ _ _ hrb]; rfl
    have f0: wr.frozen? ⟨w.heap.size + 1,0,none⟩ = false := frozen_of_row _ _ _ _ _ hrb
    have f1: wr.frozen? ⟨w.heap.size + 1,1,none⟩ = false := frozen_of_row _ _ _ _ _ hrb
    have hrl := (Array.getElem?_eq_some_iff.1 hrb).1
    have HE := Rw.dh (fun (W3: World) hs h3 hb => plainC_end (k := ⟨ta,tc,ts,la,lc,l⟩) (W3 := W3) HB.out HU.out hU1 HT.out hlc HY.out (by simp) HLn.out HR.out.only hown hs h3 hb)
    clear hrb hown HR HY
    go_wp2
    refine bodyPost_ret (v := .agg #[.slice av ts.length cv, .slice a' l.length c']) (by simp [results,Tryz.results27,go_sem,r0,r1]) rfl (HE.out _ (by simp) (fun q hq => by rw [heap_setCell_other _ _ _ _ hq,heap_setCell_other _ _ _ _ hq]) (((Below.refl _ wr).setCell (p := ⟨w.heap.size + 1,0,none⟩) (Nat.le_refl _) _).setCell (p := ⟨w.heap.size + 1,1,none⟩) (Nat.le_refl _) _))
end Go.Proofs.YteibhbnlcpejpaaGreat
