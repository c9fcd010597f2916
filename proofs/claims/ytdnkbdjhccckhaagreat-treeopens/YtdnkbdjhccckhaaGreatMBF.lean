import Derived.Test.YtdnkbdjhccckhaaGreatMAT
import Derived.Test.YtdnkbdjhccckhaaGreatMAR
set_option maxRecDepth 100000
set_option maxHeartbeats 4000000
namespace Go.Proofs.YtdnkbdjhccckhaaGreat
open Go.RowKit
open L4 (Ar ArP Abs arV nv)
theorem laid_keeps (Ld: List Lay): ∀ {a: Abs} {n: Nat},(∃ c,a.at (n: Int) = some c) -> ∃ c,(Ld.foldl (fun a y => a.lay y.at_ (some (L5.pageL y.n.toNd))) a).at (n: Int) = some c := by
 induction Ld with
 | nil => intro a n h; exact h
 | cons y l ih =>
  rintro a n ⟨c,hc⟩
  exact ih (at_lay hc _)
structure Wpg (B: Nat) (s: Ar) (t x r h l xr xh xl: Nat) (tk ld gn: Value) (T: List Nat) (Ld: List Lay) (G: List Nat) (w: World) (pv: Value) (bl: List Nat) (wr: World): Prop where
 es: Es B s t x r h l xr xh xl tk ld gn T Ld G wr
 row: wr.ownsRow B 81 1 pv bl.length (bl.map pgV)
 blk: ∀ (i b: Nat) (y: Lay),bl[i]? = some b -> Ld[i]? = some y -> L5.Blk wr b (L5.pageL y.n.toNd)
 stp: Stp B s s t x w wr
theorem Wpg.on {B: Nat} {s: Ar} {t x r h l xr xh xl: Nat} {tk ld gn: Value} {T: List Nat} {Ld: List Lay} {G: List Nat} {w: World} {pv: Value} {bl: List Nat} {wr wr': World} (k: Wpg B s t x r h l xr xh xl tk ld gn T Ld G w pv bl wr) (hb: Below wr.heap.size wr wr'): Wpg B s t x r h l xr xh xl tk ld gn T Ld G w pv bl wr' :=
 ⟨k.es.below hb,L5.owns_of_block k.row fun q hq => hb.block q (k.row.lt q hq).2,fun i b y h1 h2 => (hb.block b (L5.Blk.lt (k.blk i b y h1 h2))).trans (k.blk i b y h1 h2),k.stp.trans (Stp.below hb)⟩
theorem Wpg.more {B: Nat} {s: Ar} {t x r h l xr xh xl: Nat} {tk ld gn: Value} {T: List Nat} {Ld: List Lay} {G: List Nat} {w: World} {pv pv': Value} {bl: List Nat} {b: Nat} {wr wr': World} {m: Nat} (k: Wpg B s t x r h l xr xh xl tk ld gn T Ld G w pv bl wr) (hg: wr.grownBy wr' pv.ownBlock) (hm: m = bl.length + 1) (ho: wr'.ownsRow B 81 1 pv' m (bl.map pgV ++ [pgV b])) (hb: ∀ y: Lay,Ld[bl.length]? = some y -> L5.Blk wr b (L5.pageL y.n.toNd)) :
 Wpg B s t x r h l xr xh xl tk ld gn T Ld G w pv' (bl ++ [b]) wr' := by
 subst hm
 have keepB: ∀ (q: Nat) (cs: Array Value) (e: TypeId),wr.heap[q]? = some (.cells cs e (0,0)) -> e ≠ 81 -> wr'.heap[q]? = wr.heap[q]? := fun q cs e hq he => hg.block q (Array.getElem?_eq_some_iff.1 hq).1 (fun x => row_ne hq k.row he x.symm)
 have row: ∀ {e: TypeId} {m: Nat} {v: Value} {n: Nat} {xs: List Value},wr.ownsRow B e m v n xs -> e ≠ 81 -> wr'.ownsRow B e m v n xs := fun hr he => L5.owns_of_block hr fun q hq => by
  obtain ⟨cur,hc⟩ := L4.owns_tag hr hq
  exact keepB q _ _ hc he
 have e := k.es
 refine ⟨⟨L4.arSt.keep s wr wr' e.ar (fun q hq => by
  obtain ⟨cur,t',h1,h2⟩ := e.ar.tag hq
  exact keepB q _ _ h1 (by rcases h2 with h2 | h2 | h2 <;> rw [h2] <;> decide)) (fun q cs hq => keepB q cs _ hq (by decide)),⟨(keepB t _ _ e.tr.blk (by decide)).trans e.tr.blk⟩,(keepB x _ _ e.ed (by decide)).trans e.ed,Nat.le_trans e.bs hg.size,row e.rt (by decide),row e.rl (by decide),row e.rg (by decide),fun y hy => row (e.rr y hy) (by decide),fun y hy => row (e.rk y hy) (by decide),e.a1,e.a2,e.a3⟩,by rw [List.map_append,List.length_append]; exact ho,fun i c y h1 h2 => ?_,k.stp.trans ⟨⟨hg.os,hg.tape,hg.output,hg.size,fun q hq hn => hg.block q hq (fun x => hn (Or.inr (Or.inr (Or.inr (k.row.lt q x.symm).1))))⟩,fun _ x => Or.inl x⟩⟩
 have hK: L5.Blk wr c (L5.pageL y.n.toNd) := by
  by_cases hi: i < bl.length
  · rw [List.getElem?_append_left hi] at h1
    exact k.blk i c y h1 h2
  · have hl := (List.getElem?_eq_some_iff.1 h1).1
    have hi2: i = bl.length := by simp at hl; omega
    subst hi2
    simp at h1
    subst h1
    exact hb y h2
 exact (keepB c _ _ hK (by decide)).trans hK
structure Wqg (B: Nat) (s s2: Ar) (t x r h l xr xh xl: Nat) (tk ld gn: Value) (T: List Nat) (Ld: List Lay) (G: List Nat) (w: World) (pv: Value) (bl: List Nat) (wr: World): Prop where
 es: Es B s2 t x r h l xr xh xl tk ld gn T Ld G wr
 row: wr.ownsRow B 81 1 pv bl.length (bl.map pgV)
 blk: ∀ (i b: Nat) (y: Lay),bl[i]? = some b -> Ld[i]? = some y -> L5.Blk wr b (L5.pageL y.n.toNd)
 stp: Stp B s s2 t x w wr
theorem Wqg.on {B: Nat} {s s2: Ar} {t x r h l xr xh xl: Nat} {tk ld gn: Value} {T: List Nat} {Ld: List Lay} {G: List Nat} {w: World} {pv: Value} {bl: List Nat} {wr wr': World} (k: Wqg B s s2 t x r h l xr xh xl tk ld gn T Ld G w pv bl wr) (hb: Below wr.heap.size wr wr'): Wqg B s s2 t x r h l xr xh xl tk ld gn T Ld G w pv bl wr' :=
 ⟨k.es.below hb,L5.owns_of_block k.row fun q hq => hb.block q (k.row.lt q hq).2,fun i b y h1 h2 => (hb.block b (L5.Blk.lt (k.blk i b y h1 h2))).trans (k.blk i b y h1 h2),k.stp.trans (Stp.below hb)⟩
theorem Wqg.moves {B: Nat} {s s2 s3: Ar} {t x r h l xr xh xl: Nat} {tk ld gn: Value} {T: List Nat} {Ld: List Lay} {G: List Nat} {w: World} {pv: Value} {bl: List Nat} {wr wr': World} (k: Wqg B s s2 t x r h l xr xh xl tk ld gn T Ld G w pv bl wr) (hA: ArP s3 wr') (hp: s3.p = s2.p) (hm: L4.Moves L4.arSt s2 s3 wr wr'): Wqg B s s3 t x r h l xr xh xl tk ld gn T Ld G w pv bl wr' :=
 ⟨k.es.moves hA hp hm,L5.owns_of_block k.row fun q hq => hm.only.block q (k.row.lt q hq).2 (row_not_own k.es.ar k.row (by decide) (by decide) (by decide) hq),fun i b y h1 h2 => (hm.only.block b (L5.Blk.lt (k.blk i b y h1 h2)) (not_own k.es.ar (k.blk i b y h1 h2) (by decide) (by decide) (by decide))).trans (k.blk i b y h1 h2),k.stp.trans (Stp.moves k.es.bs hm)⟩
theorem Wqg.page {B: Nat} {s s2: Ar} {t x r h l xr xh xl: Nat} {tk ld gn: Value} {T: List Nat} {Ld: List Lay} {G: List Nat} {w: World} {pa: Option Addr} {pc m: Nat} {bl: List Nat} {wr: World} (k: Wqg B s s2 t x r h l xr xh xl tk ld gn T Ld G w (.slice pa m pc) bl wr) {j: Nat} (hj: j < bl.length): ∃ q,(∃ qb,pa = some ⟨qb,0,none⟩ /\ qb < wr.heap.size /\ wr.cell? ⟨qb,j,none⟩ = some (pgV q)) /\ bl[j]? = some q := by
 refine ⟨bl[j], ?_,List.getElem?_eq_getElem hj⟩
 rcases k.row.2 with ⟨e,h0⟩ | ⟨g,cap,cur,e,hbg,hg,hnc,hcm,hcs,htake⟩
 · omega
 · cases e
   refine ⟨g,rfl,(Array.getElem?_eq_some_iff.1 hg).1, ?_⟩
   rw [cell_of_row _ _ _ _ _ _ hg]
   have e: (bl.map pgV)[j]? = some (pgV bl[j]) := by simp [hj]
   rw [<- htake,List.getElem?_take,if_pos (by omega)] at e
   simpa using e
theorem write_any {B: Nat} {s: Ar} {t x r h l xr xh xl: Nat} {tk ld gn: Value} {T: List Nat} {Ld: List Lay} {G: List Nat} {w: World} (k: Es B s t x r h l xr xh xl tk ld gn T Ld G w) (ho: s.abs.Ok) (hL: Ld.length <= 10000) (hn: ∀ y ∈ Ld,y.n.small /\ y.n.shaped = true /\ y.n.size <= 1024) (hat: ∀ y ∈ Ld,∃ c,s.abs.at (y.at_: Int) = some c) (hgn: G.Nodup) (hgu: ∀ n ∈ G,∃ c,s.abs.at (n: Int) = some c) (hgl: G.length <= 10000) :
 Calls Tryz.prog 50 #[.pointer (some ⟨x,0,none⟩)] w fun e w' => e = .returned (.tuple #[]) /\ ∃ s',s'.p = s.p /\ s'.abs = G.foldl (fun a n => a.free n) (Ld.foldl (fun a y => a.lay y.at_ (some (L5.pageL y.n.toNd))) s.abs) /\ s'.abs.Ok /\ ArP s' w' /\ TrC w' t s.p xr xh xl /\ Stp B s s' t x w w' := by
 have HK := thid k
 obtain ⟨ad,cp,rfl⟩ := own_slice k.rl
 obtain ⟨d0,d1,d2,d3,d4,d5,d6,dl,df⟩ := k.ed.cells
 clear k
 go_enter Tryz.func50,Tryz.ntmps50
 go_wp2_with fail
 go_loopw [2,16] (fun pv i wr => ∃ j: Nat,j <= Ld.length /\ i = .int .i64 (j: Int) /\ ∃ bl: List Nat,Hid (bl.length = j) /\ Hid (Wpg B s t x r h l xr xh xl tk (.slice ad Ld.length cp) gn T Ld G w pv bl wr)) (fun _ i _ => Ld.length - (intOf i).toNat)
 case atStart => exact ⟨0,Nat.zero_le _,rfl,[],rfl,⟨HK.out,⟨rfl,Or.inl ⟨rfl,rfl⟩⟩,fun i b y h1 => by simp at h1,Stp.refl _ _ _ _ _⟩⟩
 case round =>
  clear HK d0 d1 d2 d3 d4 d5 d6 dl df
  obtain ⟨j,hj,rfl,bl,HBL,HW⟩ := hrel
  by_cases hlt: j < Ld.length
  · have hlt': (j: Int) < (Ld.length: Int) := by omega
    obtain ⟨g,cp',e,hgl,g0,g1,g2,g3,g4⟩ := row5 HW.out.es.rl hlt
    cases e
    have hmem := List.getElem_mem hlt
    obtain ⟨hsm,hshp,hsz⟩ := hn _ hmem
    have hrr := HW.out.es.rr _ hmem
    have hrk := HW.out.es.rk _ hmem
    have HY: Hid (Ld[j]? = some Ld[j]) := List.getElem?_eq_getElem hlt
    generalize Ld[j] = y at *
    obtain ⟨ra,rc,er⟩ := own_slice hrr
    obtain ⟨ka,kc,ek⟩ := own_slice hrk
    rw [er] at g2 hrr
    rw [ek] at g3 hrk
    have HRR := thid hrr
    have HRK := thid hrk
    unfold nv at g0 g4
    go_wp2_with fail
    have HB1 := thid (tbelow wr (.cells #[.int .i64 (y.at_: Int), .bool y.n.leaf, .slice ra y.n.recs.length rc, .slice ka y.n.kids.length kc, .int .i64 (y.kid: Int)] 104))
    have HW1 := thid (HW.out.on HB1.out)
    have HNR := thid (L5.NR.mk (L5.owns_rd_slice (L5.owns_below HRR.out HB1.out)) (L5.owns_rd_slice (L5.owns_below HRK.out HB1.out)))
    clear HW HB1 HRR HRK g0 g1 g2 g3 g4 hrr hrk er ek
    generalize wr.alloc (.cells #[.int .i64 (y.at_: Int), .bool y.n.leaf, .slice ra y.n.recs.length rc, .slice ka y.n.kids.length kc, .int .i64 (y.kid: Int)] 104) = W1 at HW1 HNR ⊢
    refine (L5.encode_ok (n := y.n) HNR.out hsm hshp hsz).mono ?_
    rintro e w2 ⟨b2,rfl,hb2,K2,B2⟩
    have HW2 := thid (HW1.out.on B2)
    have HK2 := thid K2
    clear HW1 HNR B2 K2
    go_wp2_with (first
     | (go_at_call 53; refine (L1.check_ok _).mono ?_; rintro e w3 ⟨rfl,rfl⟩)
     | (at_builtin
        revert HW2)
     | fail)
    intro HW2
    have HB3 := thid (tbelow w3 (.cells #[pgV b2] 81))
    have HW3 := thid (HW2.out.on HB3.out)
    have hbl := HBL.out
    refine append_wide (z := .slice none 0 0) (by_ := 24) Tryz.underlying126 (by kernel_rfl) (by decide) rfl B HW3.out.es.bs rfl _ _ rfl u2 bl.length (bl.map pgV) [pgV b2] rfl HW3.out.row (by omega) 1 (by omega) ⟨w3.heap.size,0,none⟩ 1 rfl rfl (fun i u hi => by
     match i with
     | 0 => cases hi; simp [go_sem,pgV]
     | i + 1 => cases hi) (fun u hu => by simp at hu; subst hu; rfl) ?_
    intro v4 w4 hown hg _
    have HW4 := thid (HW3.out.more hg rfl hown (fun y' hy' => by
     rw [hbl,HY.out] at hy'
     cases hy'
     exact (HB3.out.block _ (L5.Blk.lt HK2.out)).trans HK2.out))
    clear HW2 HB3 HW3 HK2 hown hg
    go_wp2
    exact ⟨⟨j + 1,by omega,by go_num,bl ++ [b2],by show _ = _; simp [hbl],HW4⟩,by simp [intOf]; omega⟩
  · have hlt': (Ld.length: Int) <= (j: Int) := by omega
    have hjl: j = Ld.length := by omega
    subst hjl
    obtain ⟨d0,d1,d2,d3,d4,d5,d6,dl,df⟩ := HW.out.es.ed.cells
    obtain ⟨pa,pc,rfl⟩ := own_slice HW.out.row
    go_wp2_with fail
    go_loopw [38] (fun i w2 => ∃ j: Nat,j <= Ld.length /\ i = .int .i64 (j: Int) /\ ∃ s2: Ar,Hid (s2.p = s.p) /\ Hid (s2.abs = (Ld.take j).foldl (fun a y => a.lay y.at_ (some (L5.pageL y.n.toNd))) s.abs) /\ Hid s2.abs.Ok /\ Hid (∀ y ∈ Ld,∃ c,s2.abs.at (y.at_: Int) = some c) /\ Hid (Wqg B s s2 t x r h l xr xh xl tk (.slice ad Ld.length cp) gn T Ld G w (.slice pa bl.length pc) bl w2)) (fun i _ => Ld.length - (intOf i).toNat)
    case atStart => exact ⟨0,Nat.zero_le _,rfl,s,rfl,rfl,ho,hat,⟨HW.out.es,HW.out.row,HW.out.blk,HW.out.stp⟩⟩
    case round =>
     clear d0 d1 d2 d3 d4 d5 d6 dl df HW
     obtain ⟨j,hj,rfl,s2,HP2,HA2,HO2,HT2,HQ⟩ := hrel
     by_cases hlt: j < Ld.length
     · have hlt': (j: Int) < (Ld.length: Int) := by omega
       obtain ⟨g,cp',e,hgl,g0,g1,g2,g3,g4⟩ := row5 HQ.out.es.rl hlt
       cases e
       have hmem := List.getElem_mem hlt
       obtain ⟨c1,hc1⟩ := HT2.out _ hmem
       have hrr := HQ.out.es.rr _ hmem
       have hrk := HQ.out.es.rk _ hmem
       have HY: Hid (Ld[j]? = some Ld[j]) := List.getElem?_eq_getElem hlt
       generalize Ld[j] = y at *
       obtain ⟨ra,rc,er⟩ := own_slice hrr
       obtain ⟨ka,kc,ek⟩ := own_slice hrk
       rw [er] at g2
       rw [ek] at g3
       unfold nv at g0 g4
       obtain ⟨q,⟨qb,rfl,hql,hqc⟩,hqb⟩ := HQ.out.page (j := j) (by rw [HBL.out]; exact hlt)
       have HB1 := thid (tbelow wr (.cells #[.int .i64 (y.at_: Int), .bool y.n.leaf, .slice ra y.n.recs.length rc, .slice ka y.n.kids.length kc, .int .i64 (y.kid: Int)] 104))
       have hjb: (j: Int) < (bl.length: Int) := by rw [HBL.out]; exact hlt'
       go_wp2_with fail
       have HQ1 := thid (HQ.out.on HB1.out)
       have hqc1 := (HB1.out.cell (p := ⟨qb,j,none⟩) hql).trans hqc
       have p0: (wr.alloc (.cells #[.int .i64 (y.at_: Int), .bool y.n.leaf, .slice ra y.n.recs.length rc, .slice ka y.n.kids.length kc, .int .i64 (y.kid: Int)] 104)).cell? ⟨wr.heap.size,0,none⟩ = some (.int .i64 (y.at_: Int)) := by simp [go_sem]
       have pl: wr.heap.size < (wr.alloc (.cells #[.int .i64 (y.at_: Int), .bool y.n.leaf, .slice ra y.n.recs.length rc, .slice ka y.n.kids.length kc, .int .i64 (y.kid: Int)] 104)).heap.size := by simp
       have hql1: qb < (wr.alloc (.cells #[.int .i64 (y.at_: Int), .bool y.n.leaf, .slice ra y.n.recs.length rc, .slice ka y.n.kids.length kc, .int .i64 (y.kid: Int)] 104)).heap.size := by simp; omega
       clear HQ HB1 g0 g1 g2 g3 g4 hrr hrk er ek hqc hgl hql
       generalize wr.alloc (.cells #[.int .i64 (y.at_: Int), .bool y.n.leaf, .slice ra y.n.recs.length rc, .slice ka y.n.kids.length kc, .int .i64 (y.kid: Int)] 104) = W1 at *
       generalize wr.heap.size = pq at *
       obtain ⟨e0,e1,e2,e3,e4,e5,e6,el,ef⟩ := HQ1.out.es.ed.cells
       obtain ⟨t0,t1,t2,t3,tl,tf⟩ := HQ1.out.es.tr.cells
       unfold pgV at hqc1
       refine wp_region_quiet_tail (fun w' => ∃ n,w' = World.drewN W1 n) 13 (by kernel_rfl) (by kernel_rfl) ⟨1,rfl⟩ ?_
       simp only [List.take_succ_cons,List.take_zero,List.drop_succ_cons,List.drop_zero]
       repeat (go_big_quiet_step (fail))
       refine wpQuiet_nil ?_
       rintro _ ⟨nq,rfl⟩
       have HQ2 := thid (HQ1.out.on (below_drewN (Below.refl _ _) nq))
       clear HQ1 e0 e1 e2 e3 e4 e5 e6 el ef t0 t1 t2 t3 tl tf p0 pl hqc1 hql1
       generalize W1.drewN nq = W2 at HQ2 ⊢
       go_wp2_with fail
       have hKq := HQ2.out.blk j q y hqb HY.out
       have hpl: (L5.pageL y.n.toNd).length = 1024 := L5.pageL_length (by rw [L5.toNd_size]; exact (hn y hmem).2.2)
       have hBS: L4.BS W2 q (.slice (some ⟨q,0,none⟩) 1024 1024) (L5.pageL y.n.toNd) := ⟨by rw [hpl],_,hKq⟩
       refine (L4.store_ok (s := s2) HQ2.out.es.ar HO2.out hc1 hBS hpl).mono ?_
       rintro e w4 ⟨rfl,s4,hA4,hp4,hab4,hm4⟩
       have HQ4 := thid (HQ2.out.moves hA4 hp4 hm4)
       clear HQ2 hBS hKq hA4 hm4
       go_wp2
       have hlay: s4.abs.Ok := by rw [hab4]; exact HO2.out.lay hc1 hpl
       refine ⟨⟨j + 1,by omega,by go_num,s4,hp4.trans HP2.out, ?_,hlay, ?_,HQ4⟩,by simp [intOf]; omega⟩
       · show _ = _
         obtain ⟨hj',hy'⟩ := List.getElem?_eq_some_iff.1 HY.out
         rw [hab4,HA2.out,List.take_succ_eq_append_getElem hj',List.foldl_append,hy']
         rfl
       · intro y' hy'
         obtain ⟨c',hc'⟩ := HT2.out y' hy'
         rw [hab4]
         exact at_lay hc' _
     · have hlt': (Ld.length: Int) <= (j: Int) := by omega
       have hjl: j = Ld.length := by omega
       subst hjl
       obtain ⟨d0,d1,d2,d3,d4,d5,d6,dl,df⟩ := HQ.out.es.ed.cells
       obtain ⟨ga,gc,rfl⟩ := own_slice HQ.out.es.rg
       go_wp2_with fail
       rw [List.take_length] at HA2
       have HG0 := thid (fun n (hn: n ∈ G) => laid_keeps Ld (hgu n hn))
       go_loopw [63] (fun i w2 => ∃ j: Nat,j <= G.length /\ i = .int .i64 (j: Int) /\ ∃ s3: Ar,Hid (s3.p = s.p) /\ Hid (s3.abs = (G.take j).foldl (fun a n => a.free n) (Ld.foldl (fun a y => a.lay y.at_ (some (L5.pageL y.n.toNd))) s.abs)) /\ Hid s3.abs.Ok /\ Hid (∀ n ∈ G.drop j,∃ c,s3.abs.at (n: Int) = some c) /\ Hid (Es B s3 t x r h l xr xh xl tk (.slice ad Ld.length cp) (.slice ga G.length gc) T Ld G w2 /\ Stp B s s3 t x w w2)) (fun i _ => G.length - (intOf i).toNat)
       case atStart => exact ⟨0,Nat.zero_le _,rfl,s2,HP2,HA2,HO2,fun n hn => by rw [HA2.out]; exact HG0.out n (by simpa using hn),HQ.out.es,HQ.out.stp⟩
       case round =>
        clear HQ d0 d1 d2 d3 d4 d5 d6 dl df HA2 HP2 HO2 HT2
        obtain ⟨j,hj,rfl,s3,HP3,HA3,HO3,HU3,HE3⟩ := hrel
        by_cases hlt: j < G.length
        · have hlt': (j: Int) < (G.length: Int) := by omega
          obtain ⟨d0,d1,d2,d3,d4,d5,d6,dl,df⟩ := HE3.out.1.ed.cells
          obtain ⟨t0,t1,t2,t3,tl,tf⟩ := HE3.out.1.tr.cells
          obtain ⟨gb,go,rfl,gbl,gbc⟩ := (L5.owns_rd_slice HE3.out.1.rg).2.2 j (nv G[j]) (by simp [hlt])
          have hdr: G.drop j = G[j] :: G.drop (j + 1) := List.drop_eq_getElem_cons hlt
          have htk: G.take (j + 1) = G.take j ++ [G[j]] := (List.take_append_getElem hlt).symm
          have hnotin: G[j] ∉ G.drop (j + 1) := by
           have hd2: (G.drop j).Nodup := hgn.sublist (List.drop_sublist _ _)
           rw [hdr] at hd2
           exact (List.nodup_cons.1 hd2).1
          have HTK := thid htk
          have HDR := thid hdr
          have HNI := thid hnotin
          clear htk hdr hnotin
          generalize G[j] = y at *
          obtain ⟨c,hc⟩ := HU3.out y (by rw [HDR.out]; simp)
          have HFR := thid (L4.free_ok HE3.out.1.ar HO3.out hc)
          unfold nv at gbc
          have hcap: G.length <= gc := by
           obtain ⟨_,_,e,_,hcc⟩ := L4.owns_slice HE3.out.1.rg
           injection e with _ e1 e2
           omega
          unfold arV at HFR
          go_wp2_with fail
          refine HFR.out.mono ?_
          rintro e w4 ⟨rfl,s4,hA4,hp4,hab4,hm4⟩
          have HE4 := thid (HE3.out.1.moves hA4 hp4 hm4)
          have HS4 := thid (HE3.out.2.trans (Stp.moves (t := t) (x := x) HE3.out.1.bs hm4))
          have hab5: s4.abs = s3.abs.free y := by rw [hab4]; simp
          have HOK4: Hid s4.abs.Ok := by
           show s4.abs.Ok
           rw [hab4]
           exact HO3.out.free hc
          have HD: Hid (s4.p = s.p) /\ Hid (s4.abs = (G.take (j + 1)).foldl (fun a n => a.free n) (Ld.foldl (fun a y => a.lay y.at_ (some (L5.pageL y.n.toNd))) s.abs)) /\ Hid s4.abs.Ok /\ Hid (∀ n ∈ G.drop (j + 1),∃ c,s4.abs.at (n: Int) = some c) := by
           refine ⟨hp4.trans HP3.out, ?_,HOK4,fun n hn => ?_⟩
           · show s4.abs = _
             rw [hab5,HTK.out,List.foldl_append,HA3.out]
             rfl
           · obtain ⟨c',hc'⟩ := HU3.out n (by rw [HDR.out]; simp [hn])
             refine ⟨c', ?_⟩
             rw [hab5]
             have hne: n ≠ y := fun e => HNI.out (e ▸ hn)
             have: (s3.abs.free y).at (n: Int) = (s3.abs.lay y none).at (n: Int) := rfl
             rw [this,at_lay_ne hne (at_pos hc)]
             exact hc'
          clear HFR hA4 hm4 hab4 HE3 d0 d1 d2 d3 d4 d5 d6 dl df t0 t1 t2 t3 tl tf gbl gbc HOK4
          go_wp2
          exact ⟨⟨j + 1,by omega,by go_num,s4,HD.1,HD.2.1,HD.2.2.1,HD.2.2.2,HE4.out,HS4.out⟩,by simp [intOf]; omega⟩
        · have hlt': (G.length: Int) <= (j: Int) := by omega
          have hjl: j = G.length := by omega
          subst hjl
          rw [List.take_length] at HA3
          obtain ⟨d0,d1,d2,d3,d4,d5,d6,dl,df⟩ := HE3.out.1.ed.cells
          obtain ⟨t0,t1,t2,t3,tl,tf⟩ := HE3.out.1.tr.cells
          have txn := tag_ne HE3.out.1.tr.blk HE3.out.1.ed (by decide)
          go_wp2_with fail
          refine wp_region_quiet_tail (fun w' => ∃ n,w' = World.drewN wr n) 8 (by kernel_rfl) (by kernel_rfl) ⟨1,rfl⟩ ?_
          simp only [List.take_succ_cons,List.take_zero,List.drop_succ_cons,List.drop_zero]
          repeat (go_big_quiet_step (fail))
          refine wpQuiet_nil ?_
          rintro _ ⟨nq,rfl⟩
          have hbd: Below wr.heap.size wr (wr.drewN nq) := below_drewN (Below.refl _ _) nq
          have HE5 := thid (HE3.out.1.below hbd)
          obtain ⟨z1,z2,z3⟩ := head_set x HE5.out.ar HE5.out.tr (B := B) xr xh xl
          have Z1 := thid z1
          have Z2 := thid z2
          have Z3 := thid ((HE3.out.2.trans (Stp.below hbd)).trans z3)
          clear HE3 HE5 z1 z2 z3 hbd
          go_wp2
          go_end0
          exact ⟨rfl,s3,HP3.out,HA3.out,HO3.out,Z1.out,by rw [<- HP3.out]; exact Z2.out,Z3.out⟩
end Go.Proofs.YtdnkbdjhccckhaaGreat
namespace Go.Proofs.YtdnkbdjhccckhaaGreat
open Go.RowKit
open L4 (Ar ArP Abs arV nv)
open L1 (caughtW caught_any undoW Came faultV stopped OnlyAt)
def DoneG (N: Nat) (s: Ar) (t x r h l xr xh xl: Nat) (A: Abs) (W1 w1: World): Prop := ∃ (s': Ar) (tk ld gn: Value) (T: List Nat) (Ld: List Lay) (G: List Nat),s'.p = s.p /\ s'.abs.Ok /\ Es N s' t x r h l xr xh xl tk ld gn T Ld G w1 /\ G.Nodup /\ (∀ n ∈ G,∃ c,s'.abs.at (n: Int) = some c) /\ G.length <= 10000 /\ Ld.length <= 10000 /\ (∀ y ∈ Ld,y.n.small /\ y.n.shaped = true /\ y.n.size <= 1024) /\ (∀ y ∈ Ld,∃ c,s'.abs.at (y.at_: Int) = some c) /\ G.foldl (fun a n => a.free n) (Ld.foldl (fun a y => a.lay y.at_ (some (L5.pageL y.n.toNd))) s'.abs) = A /\ Stp N s s' t x W1 w1
theorem change1_rel {N: Nat} {s: Ar} {t x r h l: Nat} {R: Nat -> Nat -> Nat -> Abs -> Prop} {w: World} {b0 b2: Nat} {g: FuncId} {cap: Array Value} (hg: ∀ args w,(callFunc g args).run Tryz.prog w = .ok (.enter g args) w) (h0: w.cell? ⟨b0,0,none⟩ = some (.func (.func g) #[] cap)) (h2: w.cell? ⟨b2,0,none⟩ = some (.pointer (some ⟨x,0,none⟩)))
 (hb2: ∀ (s': Ar) (w1: World),Stp N s s' t x w w1 -> w1.cell? ⟨b2,0,none⟩ = some (.pointer (some ⟨x,0,none⟩)) /\ b2 < w1.heap.size)
 (H: Calls Tryz.prog g (#[.pointer (some ⟨x,0,none⟩)] ++ cap) w fun e w1 => e = .returned (.tuple #[]) /\ ∃ xr xh xl A,R xr xh xl A /\ DoneG N s t x r h l xr xh xl A w w1) :
 Calls Tryz.prog 49 #[.pointer (some ⟨b0,0,none⟩), .pointer (some ⟨b2,0,none⟩)] w fun e w' => e = .returned (.tuple #[]) /\ ∃ xr xh xl A,R xr xh xl A /\ Fin N s t x xr xh xl A w w' := by
 have HH := thid H
 clear H
 go_enter Tryz.func49,Tryz.ntmps49
 go_wp2_with fail
 refine HH.out.mono ?_
 rintro e w1 ⟨rfl,xr,xh,xl,A,hR,s',tk,ld,gn,T,Ld,G,hp,hok,hE,g1,g2,g3,hL,hn,hat,hf,hst⟩
 obtain ⟨d2,dl2⟩ := hb2 s' w1 hst
 have HW := thid (write_any hE hok hL hn hat g1 g2 g3)
 have HST := thid hst
 clear h0 h2 hb2 HH hE hst hn hat
 go_wp2_with fail
 refine HW.out.mono ?_
 rintro e w2 ⟨rfl,s2,hp2,hab2,hok2,hA2,hT2,hst2⟩
 have HF: Hid (∃ xr xh xl A,R xr xh xl A /\ Fin N s t x xr xh xl A w w2) := ⟨xr,xh,xl,A,hR,s2,hp2.trans hp,hab2.trans hf,hok2,hA2,by rw [<- hp]; exact hT2,HST.out.trans hst2⟩
 clear HW HST hA2 hT2 hst2 d2 dl2
 go_wp2
 go_end0
 exact ⟨rfl,HF.out⟩
theorem change_rel {s: Ar} {t r h l: Nat} {R: Nat -> Nat -> Nat -> Abs -> Prop} {w: World} (hA: ArP s w) (ht: TrC w t s.p r h l) (g: FuncId) (hg: ∀ args w,(callFunc g args).run Tryz.prog w = .ok (.enter g args) w) (cap: Array Value)
 (H: ∀ (N x: Nat) (W: World),w.heap.size <= x -> Below w.heap.size w W -> Es N s t x r h l r h l (.slice none 0 0) (.slice none 0 0) (.slice none 0 0) [] [] [] W -> Calls Tryz.prog g (#[.pointer (some ⟨x,0,none⟩)] ++ cap) W fun e w1 => e = .returned (.tuple #[]) /\ ∃ xr xh xl A,R xr xh xl A /\ DoneG N s t x r h l xr xh xl A W w1) :
 Calls Tryz.prog 20 #[.pointer (some ⟨t,0,none⟩), .func (.func g) #[] cap] w fun e w' => e = .returned (.int .i64 0) /\ ∃ xr xh xl A,R xr xh xl A /\ ∃ s': Ar,s'.p = s.p /\ s'.abs = A /\ s'.abs.Ok /\ ArP s' w' /\ TrC w' t s.p xr xh xl /\ Only (fun k => s.own k \/ k = t) w w' /\ (∀ k,s'.own k -> s.own k \/ w.heap.size <= k) := by
 obtain ⟨c0,c1,c2,c3,ct,cf⟩ := ht.cells
 have HA := thid hA
 have HT := thid ht
 have HH := thid H
 clear hA ht H
 have hmf: ∀ (fn: Fn) (first cap: Array Value) (w: World),(Instr.makeFunc fn first cap).run Tryz.prog w = .ok (.func fn first cap) w := fun _ _ _ _ => rfl
 go_enter Tryz.func20,Tryz.ntmps20
 go_wp2_with fail
 have B3: Below w.heap.size w (((w.alloc (.cells #[.func (.func g) #[] cap] 70)).alloc (.cells #[.pointer (some ⟨t,0,none⟩), .int .i64 (r: Int), .int .i64 (h: Int), .int .i64 (l: Int), .slice none 0 0, .slice none 0 0, .slice none 0 0] 66)).alloc (.cells #[.pointer (some ⟨w.heap.size + 1,0,none⟩)] 63)) := ((tbelow w _).alloc (by simp) _).alloc (by simp; omega) _
 have z3: (((w.alloc (.cells #[.func (.func g) #[] cap] 70)).alloc (.cells #[.pointer (some ⟨t,0,none⟩), .int .i64 (r: Int), .int .i64 (h: Int), .int .i64 (l: Int), .slice none 0 0, .slice none 0 0, .slice none 0 0] 66)).alloc (.cells #[.pointer (some ⟨w.heap.size + 1,0,none⟩)] 63)).heap.size = w.heap.size + 3 := by simp
 have k0: (((w.alloc (.cells #[.func (.func g) #[] cap] 70)).alloc (.cells #[.pointer (some ⟨t,0,none⟩), .int .i64 (r: Int), .int .i64 (h: Int), .int .i64 (l: Int), .slice none 0 0, .slice none 0 0, .slice none 0 0] 66)).alloc (.cells #[.pointer (some ⟨w.heap.size + 1,0,none⟩)] 63)).cell? ⟨w.heap.size,0,none⟩ = some (.func (.func g) #[] cap) := by simp [go_sem]
 have k1: EdC (((w.alloc (.cells #[.func (.func g) #[] cap] 70)).alloc (.cells #[.pointer (some ⟨t,0,none⟩), .int .i64 (r: Int), .int .i64 (h: Int), .int .i64 (l: Int), .slice none 0 0, .slice none 0 0, .slice none 0 0] 66)).alloc (.cells #[.pointer (some ⟨w.heap.size + 1,0,none⟩)] 63)) (w.heap.size + 1) t r h l (.slice none 0 0) (.slice none 0 0) (.slice none 0 0) := by
  have h1 := heap_alloc_new (w.alloc (.cells #[.func (.func g) #[] cap] 70)) (.cells #[.pointer (some ⟨t,0,none⟩), .int .i64 (r: Int), .int .i64 (h: Int), .int .i64 (l: Int), .slice none 0 0, .slice none 0 0, .slice none 0 0] 66)
  rw [show (w.alloc (.cells #[.func (.func g) #[] cap] 70)).heap.size = w.heap.size + 1 by simp] at h1
  exact ((tbelow _ _).block _ (by simp)).trans h1
 have k2: (((w.alloc (.cells #[.func (.func g) #[] cap] 70)).alloc (.cells #[.pointer (some ⟨t,0,none⟩), .int .i64 (r: Int), .int .i64 (h: Int), .int .i64 (l: Int), .slice none 0 0, .slice none 0 0, .slice none 0 0] 66)).alloc (.cells #[.pointer (some ⟨w.heap.size + 1,0,none⟩)] 63)).cell? ⟨w.heap.size + 1 + 1,0,none⟩ = some (.pointer (some ⟨w.heap.size + 1,0,none⟩)) := by simp [go_sem]
 have HB3 := thid B3
 have HK1 := thid k1
 clear B3 k1 c0 c1 c2 c3 ct cf hmf
 generalize ((w.alloc (.cells #[.func (.func g) #[] cap] 70)).alloc (.cells #[.pointer (some ⟨t,0,none⟩), .int .i64 (r: Int), .int .i64 (h: Int), .int .i64 (l: Int), .slice none 0 0, .slice none 0 0, .slice none 0 0] 66)).alloc (.cells #[.pointer (some ⟨w.heap.size + 1,0,none⟩)] 63) = W at *
 have HU := thid (L1.below_catchW W: Below W.heap.size W (undoW W))
 have zu: (undoW W).heap.size = w.heap.size + 6 := by simp [z3]
 have HBU := thid (HB3.out.trans (HU.out.mono HB3.out.size))
 have HE: Hid (Es (w.heap.size + 6) s t (w.heap.size + 1) r h l r h l (.slice none 0 0) (.slice none 0 0) (.slice none 0 0) [] [] [] (undoW W)) :=
  ⟨L4.arSt.below HA.out HBU.out,HT.out.on HBU.out,HK1.out.on HU.out,Nat.le_of_eq zu.symm,⟨rfl,Or.inl ⟨rfl,rfl⟩⟩,⟨rfl,Or.inl ⟨rfl,rfl⟩⟩,⟨rfl,Or.inl ⟨rfl,rfl⟩⟩,fun y hy => by simp at hy,fun y hy => by simp at hy,fun k _ => ⟨by simp [Value.ownBlock],by simp [Value.ownBlock],fun y hy => by simp at hy⟩,fun k hk => by simp [Value.ownBlock] at hk,fun k hk => by simp [Value.ownBlock] at hk⟩
 have HG := thid (HH.out (w.heap.size + 6) (w.heap.size + 1) (undoW W) (by omega) HBU.out HE.out)
 have own_lt: ∀ k,s.own k -> k < w.heap.size := fun k hk => L4.arSt.lt s w k HA.out hk
 have t_lt: t < w.heap.size := (Array.getElem?_eq_some_iff.1 HT.out.blk).1
 have HC := thid (change1_rel (R := R) (N := w.heap.size + 6) (x := w.heap.size + 1) (w := undoW W) (b0 := w.heap.size) (b2 := w.heap.size + 1 + 1) hg ((HU.out.cell (p := ⟨w.heap.size,0,none⟩) (by show w.heap.size < W.heap.size; omega)).trans k0) ((HU.out.cell (p := ⟨w.heap.size + 1 + 1,0,none⟩) (by show w.heap.size + 1 + 1 < W.heap.size; omega)).trans k2) (fun s' w1 hst => ⟨(hst.only.cell (p := ⟨w.heap.size + 1 + 1,0,none⟩) (by show w.heap.size + 1 + 1 < _; omega) (fun hk => by
  rcases hk with hk | hk | hk | hk
  · have := own_lt (w.heap.size + 1 + 1) hk; omega
  · have hk': w.heap.size + 1 + 1 = t := hk; omega
  · have hk': w.heap.size + 1 + 1 = w.heap.size + 1 := hk; omega
  · have hk': w.heap.size + 6 <= w.heap.size + 1 + 1 := hk; omega)).trans ((HU.out.cell (p := ⟨w.heap.size + 1 + 1,0,none⟩) (by show w.heap.size + 1 + 1 < W.heap.size; omega)).trans k2),by have := hst.only.size; omega⟩) HG.out)
 refine (undo_done 49 (fun _ _ => rfl) _ _ W (fun k => s.own k \/ k = t \/ k = w.heap.size + 1) (fun k hk x => by
  rcases x with x | x | x
  · have := own_lt k x; omega
  · omega
  · omega) (fun w1 => ∃ xr xh xl A,R xr xh xl A /\ Fin (w.heap.size + 6) s t (w.heap.size + 1) xr xh xl A (undoW W) w1) (HC.out.mono fun e w1 ⟨he,hF⟩ => ⟨he,hF, ?_⟩)).mono ?_
 · obtain ⟨_,_,_,_,_,s',_,_,_,_,_,hst⟩ := hF
   exact ⟨hst.only.os,hst.only.tape,hst.only.output,hst.only.size,fun k hk hs => hst.only.block k hk (fun x => by
    rcases x with x | x | x | x
    · exact hs (Or.inl x)
    · exact hs (Or.inr (Or.inl x))
    · exact hs (Or.inr (Or.inr x))
    · omega)⟩
 rintro e w2 ⟨rfl,w1,⟨xr,xh,xl,A,hR,s',hp,hab,hok,hA1,hT1,hst⟩,ho,hat⟩
 have hS: ∀ k,W.heap.size <= k -> k < W.heap.size + 3 -> ¬ (s.own k \/ k = t \/ k = w.heap.size + 1) := fun k hk _ x => by
  rcases x with x | x | x
  · have := own_lt k x; omega
  · omega
  · omega
 have HF: Hid (∃ xr xh xl A,R xr xh xl A /\ ∃ s': Ar,s'.p = s.p /\ s'.abs = A /\ s'.abs.Ok /\ ArP s' w2 /\ TrC w2 t s.p xr xh xl /\ Only (fun k => s.own k \/ k = t) w w2 /\ (∀ k,s'.own k -> s.own k \/ w.heap.size <= k)) := by
  refine ⟨xr,xh,xl,A,hR,s',hp,hab,hok,L4.arSt.keep s' w1 w2 hA1 (fun k hk => hat.block k (L4.arSt.lt _ _ _ hA1 hk) fun x => ?_) (L4.pk_of_only hat fun k hk _ => ?_),⟨(hat.block t (Array.getElem?_eq_some_iff.1 hT1.blk).1 fun x => ?_).trans hT1.blk⟩,⟨?_, ?_, ?_, ?_,fun k hk hs => ?_⟩,fun k hk => ?_⟩
  · rcases hst.own k hk with y | y
    · have := own_lt k y; omega
    · omega
  · obtain ⟨cs,tg,h1,h2⟩ := undoW_tags ho hS k hk
    exact ⟨cs,tg,h1,by rcases h2 with rfl | rfl <;> decide⟩
  · omega
  · rw [hat.os,ho.os,HBU.out.os]
  · rw [hat.tape,ho.tape,HBU.out.tape]
  · rw [hat.output,ho.output,HBU.out.output]
  · have a := hat.size; have b := ho.size; omega
  · have a := ho.size
    rw [hat.block k (by omega) (fun x => by omega),ho.block k (by omega) (fun x => by
     rcases x with x | x | x
     · exact hs (Or.inl x)
     · exact hs (Or.inr x)
     · omega)]
    exact HBU.out.block k hk
  · rcases hst.own k hk with y | y
    · exact Or.inl y
    · exact Or.inr (by omega)
 clear hat ho hst hA1 hT1 HG HC HH HE HBU HU HB3 HK1 k0 k2
 simp only [faultV]
 have ff := fun w => ffield 0 0 w
 go_wp2
 refine bodyPost_ret (v := .int .i64 0) (by simp [results,Tryz.results20,go_sem]) rfl ⟨rfl,HF.out⟩
end Go.Proofs.YtdnkbdjhccckhaaGreat
