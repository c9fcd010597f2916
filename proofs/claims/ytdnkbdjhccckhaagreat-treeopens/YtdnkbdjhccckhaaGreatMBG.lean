import Derived.Test.YtdnkbdjhccckhaaGreatMBE
import Derived.Test.YtdnkbdjhccckhaaGreatMBF
set_option maxRecDepth 100000
set_option maxHeartbeats 4000000
namespace Go.Proofs.YtdnkbdjhccckhaaGreat
open Go.RowKit
open L4 (Ar ArP Abs arV nv)
theorem prs_snoc (Ld: List Lay) (p: Nat) (n: L5.No) (a b: Value) (k: Nat): prs (Ld ++ [⟨p,n,a,b,k⟩]) = prs Ld ++ [(p,n)] := by simp [prs]
def NodeQ (m: L5.No) (gn: Value) (w: World) (e: Ending) (w': World): Prop := ∃ ra rc ka kc,e = .returned (.agg #[.bool m.leaf, .slice ra m.recs.length rc, .slice ka m.kids.length kc]) /\ (∃ bs,w'.ownsRow bs 3 1 (.slice ka m.kids.length kc) m.kids.length (L5.ivs m.kids)) /\ (∀ q,gn.ownBlock = some q -> (Value.slice ka m.kids.length kc).ownBlock ≠ some q) /\ Below w.heap.size w w'
theorem prs_at {Ld: List Lay} {j: Nat} (hj: j < Ld.length): (prs Ld)[j]? = some (Ld[j].at_,Ld[j].n) := by simp [prs,hj]
theorem node_first {a: Abs} {Ld: List Lay} {c: Nat} {m: L5.No} (hn: NodeAt a (prs Ld) c m) {j: Nat} (hj: j < Ld.length) (hb: ∀ i,(hi: i < j) -> Ld[i].at_ ≠ c) (he: Ld[j].at_ = c): Ld[j].n = m := by
 rcases hn with ⟨L1,L2,e,h1⟩ | ⟨h1,_⟩
 · have hlt: L1.length < Ld.length := by
    have := congrArg List.length e
    simp [prs] at this
    omega
   have hat: (Ld[L1.length].at_,Ld[L1.length].n) = (c,m) := by
    have := prs_at hlt
    rw [e] at this
    simpa using this.symm
   have: j = L1.length := by
    rcases Nat.lt_trichotomy j L1.length with h | h | h
    · exfalso
      have hp := prs_at hj
      rw [e,List.getElem?_append_left h] at hp
      exact h1 _ (List.mem_of_getElem? hp) he
    · exact h
    · exact absurd (congrArg Prod.fst hat) (hb L1.length h)
   subst this
   exact congrArg Prod.snd hat
 · exact absurd he (h1 (Ld[j].at_,Ld[j].n) (List.mem_of_getElem? (prs_at hj)))
theorem node_none {a: Abs} {Ld: List Lay} {c: Nat} {m: L5.No} (hn: NodeAt a (prs Ld) c m) (hb: ∀ i,(hi: i < Ld.length) -> Ld[i].at_ ≠ c): Holds a c m := by
 rcases hn with ⟨L1,L2,e,h1⟩ | ⟨_,h⟩
 · exfalso
   have hlt: L1.length < Ld.length := by
    have := congrArg List.length e
    simp [prs] at this
    omega
   have hat: (Ld[L1.length].at_,Ld[L1.length].n) = (c,m) := by
    have := prs_at hlt
    rw [e] at this
    simpa using this.symm
   exact hb _ hlt (congrArg Prod.fst hat)
 · exact h
theorem node_ok {B: Nat} {s: Ar} {t x r h l xr xh xl: Nat} {tk ld gn: Value} {T: List Nat} {Ld: List Lay} {G: List Nat} {w: World} (k: Es B s t x r h l xr xh xl tk ld gn T Ld G w) (ho: s.abs.Ok) (hL: Ld.length <= 10000) {c: Nat} {m: L5.No} (hn: NodeAt s.abs (prs Ld) c m) (hl: m.leaf = decide (xh = 1)) :
 Calls Tryz.prog 107 #[.pointer (some ⟨x,0,none⟩), .int .i64 (c: Int)] w (NodeQ m gn w) := by
 have HK := thid k
 have HN := thid hn
 obtain ⟨ad,cp,rfl⟩ := own_slice k.rl
 obtain ⟨d0,d1,d2,d3,d4,d5,d6,dl,df⟩ := k.ed.cells
 clear k hn
 go_enter Tryz.func107,Tryz.ntmps107
 go_wp2_with fail
 go_loopw [12] (fun i wr => ∃ j: Nat,j <= Ld.length /\ i = .int .i64 (j: Int) /\ Hid (L5.Dz w wr /\ ∀ i,(hi: i < j) -> (hj: j <= Ld.length) -> Ld[i].at_ ≠ c)) (fun i _ => Ld.length - (intOf i).toNat)
 case atStart => exact ⟨0,Nat.zero_le _,rfl,L5.Dz.new w,fun i hi => by omega⟩
 case round =>
  obtain ⟨j,hj,rfl,HR⟩ := hrel
  have HE := thid (HK.out.below HR.out.1.below)
  clear d0 d1 d2 d3 d4 d5 d6 dl df
  obtain ⟨d0,d1,d2,d3,d4,d5,d6,dl,df⟩ := HE.out.ed.cells
  by_cases hlt: j < Ld.length
  · have hlt': (j: Int) < (Ld.length: Int) := by omega
    obtain ⟨g,cp',e,hgl,g0,g1,g2,g3,g4⟩ := row5 HE.out.rl hlt
    cases e
    have hmem := List.getElem_mem hlt
    have hrr := HE.out.rr _ hmem
    have hrk := HE.out.rk _ hmem
    obtain ⟨y,hy0⟩: ∃ y,Ld[j] = y := ⟨_,rfl⟩
    have HF := thid (fun (he: Ld[j].at_ = c) => node_first HN.out hlt (fun i hi => HR.out.2 i hi hj) he)
    have HY: Hid (∀ i,(hi: i < j + 1) -> (hj: j + 1 <= Ld.length) -> y.at_ ≠ c -> Ld[i].at_ ≠ c) := fun i hi hj' hne => by
     rcases Nat.lt_succ_iff_lt_or_eq.1 hi with h | h
     · exact HR.out.2 i h hj
     · subst h; rw [hy0]; exact hne
    rw [hy0] at g0 g1 g2 g3 g4 hrr hrk HF
    obtain ⟨ra,rc,er⟩ := own_slice hrr
    obtain ⟨ka,kc,ek⟩ := own_slice hrk
    rw [er] at g2 hrr
    rw [ek] at g3 hrk
    have HRR := thid hrr
    have HRK := thid hrk
    have HAP := thid (fun q (hq: gn.ownBlock = some q) => HE.out.a3 q hq _ hmem)
    rw [hy0,ek] at HAP
    unfold nv at g0 g4
    have HB1 := thid (tbelow wr (.cells #[.int .i64 (y.at_: Int), .bool y.n.leaf, .slice ra y.n.recs.length rc, .slice ka y.n.kids.length kc, .int .i64 (y.kid: Int)] 104))
    have HP2 := thid (L5.owns_below HRK.out HB1.out)
    have HZ := thid (HR.out.1.on HB1.out)
    have z0 := (L5.node_cells HZ.out.z).1
    have z1 := (L5.node_cells HZ.out.z).2.1
    have z2 := (L5.node_cells HZ.out.z).2.2
    have zf: ∀ i,(wr.alloc (.cells #[.int .i64 (y.at_: Int), .bool y.n.leaf, .slice ra y.n.recs.length rc, .slice ka y.n.kids.length kc, .int .i64 (y.kid: Int)] 104)).frozen? ⟨w.heap.size,i,none⟩ = false := fun i => frozen_of_row _ _ _ _ _ HZ.out.z
    clear hmem hy0 hrr hrk er ek HRR HRK HE d0 d1 d2 d3 d4 d5 d6 dl df
    by_cases he: y.at_ = c
    · have hbe: ((y.at_: Int) == (c: Int)) = true := by simp [he]
      have hm := HF.out he
      subst hm
      clear hl he HF HY
      go_wp2
      refine L5.to_letter (F := fun W => L5.ROut w (.bool y.n.leaf) (.slice ra y.n.recs.length rc) (.slice ka y.n.kids.length kc) W /\ World.ownsRow W B 3 1 (.slice ka y.n.kids.length kc) y.n.kids.length (L5.ivs y.n.kids)) (⟨HZ.out.out (.bool y.n.leaf) (.slice ra y.n.recs.length rc) (.slice ka y.n.kids.length kc),L5.owns_put3 HP2.out (by decide) HZ.out.z _ _ _⟩) ?_
      clear z0 z1 z2 zf HZ HP2
      intro Wf hF
      obtain ⟨⟨g0,g1,g2,hB⟩,r2⟩ := hF
      refine bodyPost_ret (v := .agg #[.bool y.n.leaf, .slice ra y.n.recs.length rc, .slice ka y.n.kids.length kc]) ?_ rfl ⟨ra,rc,ka,kc,rfl,⟨_,r2⟩,HAP.out,hB⟩
      simp [results,Tryz.results107,go_sem,g0,g1,g2]
    · have hbe: ((y.at_: Int) == (c: Int)) = false := by simp; omega
      go_wp2
      go_roundw
      case rel => exact ⟨j + 1,hlt,by go_num,HZ.out,fun i hi hj' => HY.out i hi hj' he⟩
      case measure => simp [intOf]; omega
  · have hjs: j = Ld.length := by omega
    subst hjs
    have hH := node_none HN.out fun i hi => HR.out.2 i hi (Nat.le_refl _)
    have HLo := thid (fun nq => load_ok (w := wr.drewN nq) (HE.out.below (below_drewN (Below.refl _ _) nq)).ar ho (HE.out.below (below_drewN (Below.refl _ _) nq)).tr hH.page hH.shaped hH.size)
    have hxb: ((xh: Int) == 1) = decide (xh = 1) := by
     by_cases h: xh = 1
     · subst h; simp
     · simp [h]; omega
    have HZ := thid HR.out.1
    have HGN := thid (fun q (hq: gn.ownBlock = some q) => (HE.out.rg.lt q hq).2)
    rw [hl] at HLo
    have HLe := thid hl
    clear HR hH HE HN HK hl
    go_wp2_with fail
    refine wp_region_quiet_tail (fun w' => ∃ n,w' = World.drewN wr n) 11 (by kernel_rfl) (by kernel_rfl) ⟨1,rfl⟩ ?_
    simp only [List.take_succ_cons,List.take_zero,List.drop_succ_cons,List.drop_zero]
    repeat (go_big_quiet_step (first | rfl | fail))
    refine wpQuiet_nil ?_
    rintro _ ⟨nq,rfl⟩
    clear d0 d1 d2 d3 d4 d5 d6 dl df hxb
    go_wp2_with fail
    refine (HLo.out nq).mono ?_
    rintro e w2 ⟨v,rfl,a,c',a',c'',rfl,o1,o2,B2⟩
    have HZ2 := thid ((HZ.out.on (below_drewN (Below.refl _ _) nq)).on B2)
    have HO2 := thid o2
    clear HLo o1 o2 B2 HZ
    have z0 := (L5.node_cells HZ2.out.z).1
    have z1 := (L5.node_cells HZ2.out.z).2.1
    have z2 := (L5.node_cells HZ2.out.z).2.2
    have zf: ∀ i,w2.frozen? ⟨w.heap.size,i,none⟩ = false := fun i => frozen_of_row _ _ _ _ _ HZ2.out.z
    unfold L5.nodeV
    go_wp2
    refine L5.to_letter (F := fun W => L5.ROut w (.bool m.leaf) (.slice a m.recs.length c') (.slice a' m.kids.length c'') W /\ World.ownsRow W (wr.drewN nq).heap.size 3 1 (.slice a' m.kids.length c'') m.kids.length (L5.ivs m.kids)) (⟨HZ2.out.out (.bool m.leaf) (.slice a m.recs.length c') (.slice a' m.kids.length c''),L5.owns_put3 HO2.out (by decide) HZ2.out.z _ _ _⟩) ?_
    clear z0 z1 z2 zf HZ2 HO2
    intro Wf hF
    obtain ⟨⟨g0,g1,g2,hB⟩,r2⟩ := hF
    refine bodyPost_ret (v := .agg #[.bool m.leaf, .slice a m.recs.length c', .slice a' m.kids.length c'']) ?_ rfl ⟨a,c',a',c'',rfl,⟨_,r2⟩,(fun q hq e => by
     have h1 := HGN.out q hq
     have h2 := (r2.lt q e).1
     have h3: (wr.drewN nq).heap.size = wr.heap.size := rfl
     omega),hB⟩
    simp [results,Tryz.results107,go_sem,g0,g1,g2]
structure SetS (B: Nat) (s: Ar) (t x r h l xl: Nat) (tk ld gn: Value) (T: List Nat) (Ld: List Lay) (G: List Nat) (w: World) (at_: Nat) (n: L5.No) (xh p: Nat) (v0 v1 v2 v3 v4: Value) (c: Nat) (m: L5.No) (Gp: List Nat) (hc: Nat) (a1: Option Addr) (c1: Nat) (a2: Option Addr) (c2: Nat) (gn': Value) (wr: World): Prop where
 es: Es B s t x r h l c (hc + 1) xl tk ld gn' T Ld (G ++ Gp) wr
 stp: Stp B s s t x w wr
 nd: NdC wr p (.bool m.leaf) (.slice a1 m.recs.length c1) (.slice a2 m.kids.length c2)
 root: wr.heap[w.heap.size]? = some (.cells #[v0,v1,v2,v3,v4] 104 (0,0))
 kd: ∃ bs,wr.ownsRow bs 3 1 (.slice a2 m.kids.length c2) m.kids.length (L5.ivs m.kids)
 ka: ∀ q,gn'.ownBlock = some q -> (Value.slice a2 m.kids.length c2).ownBlock ≠ some q
 ok: SetOk s.abs (prs Ld) at_ hc m
 stl: ∀ G2 r' n2 hr,Stl s.abs (prs Ld) hc c m G2 r' n2 hr -> Stl s.abs (prs Ld) (xh - 1) at_ n (Gp ++ G2) r' n2 hr
 sz: hc + Gp.length + 1 = xh
 first: (Gp = [] /\ c = at_ /\ m = n /\ gn' = gn /\ wr.ownsRow B 9 1 (.slice a1 m.recs.length c1) m.recs.length (L5.svs m.recs) /\ wr.ownsRow B 3 1 (.slice a2 m.kids.length c2) m.kids.length (L5.ivs m.kids) /\ (∀ q,s.own q -> (Value.slice a2 m.kids.length c2).ownBlock ≠ some q) /\ (∀ q,tk.ownBlock = some q -> (Value.slice a2 m.kids.length c2).ownBlock ≠ some q) /\ (∀ q,gn.ownBlock = some q -> (Value.slice a2 m.kids.length c2).ownBlock ≠ some q)) \/ c ≠ at_
theorem Es.noded {B: Nat} {s: Ar} {t x r h l xr xh xl: Nat} {tk ld gn: Value} {T: List Nat} {Ld: List Lay} {G: List Nat} {w W: World} {p: Nat} {v0 v1 v2: Value} (k: Es B s t x r h l xr xh xl tk ld gn T Ld G w) (hp: NdC w p v0 v1 v2) (ho: Only (fun q => q = p) w W): Es B s t x r h l xr xh xl tk ld gn T Ld G W := by
 have oth: ∀ q,q < w.heap.size -> q ≠ p -> W.heap[q]? = w.heap[q]? := fun q h0 h1 => ho.block q h0 h1
 have row: ∀ {e: TypeId} {m: Nat} {v: Value} {n: Nat} {xs: List Value},w.ownsRow B e m v n xs -> e ≠ 69 -> W.ownsRow B e m v n xs := fun hr he => L5.owns_of_block hr fun q hq => oth q (hr.lt q hq).2 (fun e => row_ne hp hr (fun e => he e.symm) (e ▸ hq))
 exact ⟨L4.arSt.keep s w _ k.ar (fun q hq => oth q (L4.arSt.lt s w q k.ar hq) fun e => not_own k.ar hp (by decide) (by decide) (by decide) (e ▸ hq)) (fun q cs hq => oth q (Array.getElem?_eq_some_iff.1 hq).1 (tag_ne hq hp (by decide))),⟨(oth t (Array.getElem?_eq_some_iff.1 k.tr.blk).1 (tag_ne k.tr.blk hp (by decide))).trans k.tr.blk⟩,(oth x (Array.getElem?_eq_some_iff.1 k.ed).1 (tag_ne k.ed hp (by decide))).trans k.ed,Nat.le_trans k.bs ho.size,row k.rt (by decide),row k.rl (by decide),row k.rg (by decide),fun y hy => row (k.rr y hy) (by decide),fun y hy => row (k.rk y hy) (by decide),k.a1,k.a2,k.a3⟩
def SetQ (B: Nat) (s: Ar) (t x r h l xl: Nat) (tk: Value) (T: List Nat) (Ld: List Lay) (G: List Nat) (w: World) (at_: Nat) (n: L5.No) (xh: Nat) (w': World): Prop :=
 ∃ (ld' gn': Value) (Ld': List Lay) (G2: List Nat) (r': Nat) (n2: L5.No) (hr: Nat),Es B s t x r h l r' (hr + 1) xl tk ld' gn' T Ld' (G ++ G2) w' /\ Stp B s s t x w w' /\ Stl s.abs (prs Ld) (xh - 1) at_ n G2 r' n2 hr /\ prs Ld' = (if r' = at_ then prs Ld ++ [(at_,n2)] else prs Ld) /\ Ld'.length <= Ld.length + 1 /\ G2.length <= xh
theorem settle_any {B: Nat} {s: Ar} {t x r h l xh xl: Nat} {tk ld gn: Value} {T: List Nat} {Ld: List Lay} {G: List Nat} {w: World} {n: L5.No} {at_ kid: Nat} {ra ka: Option Addr} {rc kc: Nat} (k: Es B s t x r h l at_ xh xl tk ld gn T Ld G w) (ho: s.abs.Ok) (hL: Ld.length <= 9999) (hG: G.length + xh <= 9999) (hxh: 1 <= xh)
 (yr: w.ownsRow B 9 1 (.slice ra n.recs.length rc) n.recs.length (L5.svs n.recs)) (yk: w.ownsRow B 3 1 (.slice ka n.kids.length kc) n.kids.length (L5.ivs n.kids)) (b1: ∀ q,s.own q -> (Value.slice ka n.kids.length kc).ownBlock ≠ some q) (b2: ∀ q,tk.ownBlock = some q -> (Value.slice ka n.kids.length kc).ownBlock ≠ some q) (b3: ∀ q,gn.ownBlock = some q -> (Value.slice ka n.kids.length kc).ownBlock ≠ some q) (hs: SetOk s.abs (prs Ld) at_ (xh - 1) n) :
 Calls Tryz.prog 94 #[.pointer (some ⟨x,0,none⟩), .agg #[.int .i64 (at_: Int), .bool n.leaf, .slice ra n.recs.length rc, .slice ka n.kids.length kc, .int .i64 (kid: Int)]] w fun e w' => e = .returned (.tuple #[]) /\ SetQ B s t x r h l xl tk T Ld G w at_ n xh w' := by
 have HK := thid k
 have HR := thid yr
 have HKK := thid yk
 have HS := thid hs
 have HBB := thid (And.intro b1 (And.intro b2 b3))
 have HBS := thid k.bs
 clear k yr yk hs b1 b2 b3
 have HB1 := thid (tbelow w (.cells #[.int .i64 (at_: Int), .bool n.leaf, .slice ra n.recs.length rc, .slice ka n.kids.length kc, .int .i64 (kid: Int)] 104))
 have a1 := heap_alloc_new w (.cells #[.int .i64 (at_: Int), .bool n.leaf, .slice ra n.recs.length rc, .slice ka n.kids.length kc, .int .i64 (kid: Int)] 104)
 go_enter Tryz.func94,Tryz.ntmps94
 go_wp2_with fail
 have z3: (w.alloc (.cells #[.int .i64 (at_: Int), .bool n.leaf, .slice ra n.recs.length rc, .slice ka n.kids.length kc, .int .i64 (kid: Int)] 104)).heap.size = w.heap.size + 1 := by simp
 generalize w.alloc (.cells #[.int .i64 (at_: Int), .bool n.leaf, .slice ra n.recs.length rc, .slice ka n.kids.length kc, .int .i64 (kid: Int)] 104) = W at *
 have z0: W.cell? ⟨w.heap.size,0,none⟩ = some (.int .i64 (at_: Int)) := by rw [cell_of_row _ _ _ _ _ _ a1]; rfl
 have z1: W.cell? ⟨w.heap.size,1,none⟩ = some (.bool n.leaf) := by rw [cell_of_row _ _ _ _ _ _ a1]; rfl
 have z2: W.cell? ⟨w.heap.size,2,none⟩ = some (.slice ra n.recs.length rc) := by rw [cell_of_row _ _ _ _ _ _ a1]; rfl
 have z4: W.cell? ⟨w.heap.size,3,none⟩ = some (.slice ka n.kids.length kc) := by rw [cell_of_row _ _ _ _ _ _ a1]; rfl
 have lz: w.heap.size < W.heap.size := by omega
 go_region_held (fun w' => w'.cell? ⟨w.heap.size,0,none⟩ = some (.int .i64 (at_: Int)) /\ w'.cell? ⟨w.heap.size,1,none⟩ = some (.bool n.leaf) /\ w'.cell? ⟨w.heap.size,2,none⟩ = some (.slice ra n.recs.length rc) /\ w'.cell? ⟨w.heap.size,3,none⟩ = some (.slice ka n.kids.length kc)) (simp [go_sem, *]) (fail)
 have hb2: Below W.heap.size W (W.alloc (.cells #[.bool n.leaf, .slice ra n.recs.length rc, .slice ka n.kids.length kc] 69)).drew := (tbelow W (.cells #[.bool n.leaf, .slice ra n.recs.length rc, .slice ka n.kids.length kc] 69)).drew
 have HB2 := thid (tbelow_on HB1.out hb2)
 have a2: (W.alloc (.cells #[.bool n.leaf, .slice ra n.recs.length rc, .slice ka n.kids.length kc] 69)).drew.heap[w.heap.size + 1]? = some (.cells #[.bool n.leaf, .slice ra n.recs.length rc, .slice ka n.kids.length kc] 69 (0,0)) := by
  have h := heap_alloc_new W (.cells #[.bool n.leaf, .slice ra n.recs.length rc, .slice ka n.kids.length kc] 69)
  rw [z3] at h
  exact h
 have r2 := (hb2.block _ lz).trans a1
 clear z0 z1 z2 z4 z3 lz hb2 HB1 a1
 generalize (W.alloc (.cells #[.bool n.leaf, .slice ra n.recs.length rc, .slice ka n.kids.length kc] 69)).drew = V at *
 have HI: Hid (SetS B s t x r h l xl tk ld gn T Ld G w at_ n xh (w.heap.size + 1) (.int .i64 (at_: Int)) (.bool n.leaf) (.slice ra n.recs.length rc) (.slice ka n.kids.length kc) (.int .i64 (kid: Int)) at_ n [] (xh - 1) ra rc ka kc gn V) :=
  ⟨by rw [show xh - 1 + 1 = xh by omega,List.append_nil]; exact HK.out.below HB2.out,Stp.below HB2.out,a2,r2,⟨_,L5.owns_below HKK.out HB2.out⟩,HBB.out.2.2,HS.out,fun _ _ _ _ h => by simpa using h,by simp; omega,Or.inl ⟨rfl,rfl,rfl,rfl,L5.owns_below HR.out HB2.out,L5.owns_below HKK.out HB2.out,HBB.out.1,HBB.out.2.1,HBB.out.2.2⟩⟩
 clear HK HR HKK HS HBB HB2 a2 r2
 go_wp2_with fail
 go_loopw [4] (fun u4 wr => ∃ (c: Nat) (m: L5.No) (Gp: List Nat) (hc: Nat) (a1: Option Addr) (c1: Nat) (a2: Option Addr) (c2: Nat) (gn': Value),u4 = .int .i64 (c: Int) /\ Hid (SetS B s t x r h l xl tk ld gn T Ld G w at_ n xh (w.heap.size + 1) (.int .i64 (at_: Int)) (.bool n.leaf) (.slice ra n.recs.length rc) (.slice ka n.kids.length kc) (.int .i64 (kid: Int)) c m Gp hc a1 c1 a2 c2 gn' wr)) (fun _ wr => (match wr.cell? ⟨x,2,none⟩ with | some v => (intOf v).toNat | none => 0))
 case atStart => exact ⟨at_,n,[],xh - 1,ra,rc,ka,kc,gn,rfl,HI⟩
 case round =>
  clear HI
  obtain ⟨c,m,Gp,hc,a1,c1,a2,c2,gn',rfl,HI⟩ := hrel
  have g0: wr.cell? ⟨w.heap.size,0,none⟩ = some (.int .i64 (at_: Int)) := by rw [cell_of_row _ _ _ _ _ _ HI.out.root]; rfl
  have gl := (Array.getElem?_eq_some_iff.1 HI.out.root).1
  have n0: wr.cell? ⟨w.heap.size + 1,0,none⟩ = some (.bool m.leaf) := by rw [cell_of_row _ _ _ _ _ _ HI.out.nd]; rfl
  have n1: wr.cell? ⟨w.heap.size + 1,1,none⟩ = some (.slice a1 m.recs.length c1) := by rw [cell_of_row _ _ _ _ _ _ HI.out.nd]; rfl
  have n2: wr.cell? ⟨w.heap.size + 1,2,none⟩ = some (.slice a2 m.kids.length c2) := by rw [cell_of_row _ _ _ _ _ _ HI.out.nd]; rfl
  have nl := (Array.getElem?_eq_some_iff.1 HI.out.nd).1
  by_cases hk: m.kids.length = 1
  · have hk1: ((m.kids.length: Int) == 1) = true := by rw [hk]; rfl
    obtain ⟨d0,d1,d2,d3,d4,d5,d6,dl,df⟩ := HI.out.es.ed.cells
    obtain ⟨kk,hkk⟩: ∃ kk,m.kids = [kk] := by
     match hm: m.kids,hk with
     | [kk],_ => exact ⟨kk,rfl⟩
    have HKL := thid hk
    have HKK := thid hkk
    clear hk hkk
    go_wp2_with (first | (at_builtin; revert HI) | fail)
    intro HI
    have HB2 := thid (tbelow wr (.cells #[.int .i64 (c: Int)] 3))
    have HK2 := thid (HI.out.es.below HB2.out)
    have HC: Hid ((wr.alloc (.cells #[.int .i64 (c: Int)] 3)).cell? ⟨wr.heap.size,0,none⟩ = some (.int .i64 (c: Int))) := by
     show World.cell? _ _ = _
     rw [cell_of_row _ _ _ _ _ _ (heap_alloc_new _ _)]
     rfl
    have hsz := HI.out.sz
    refine list_gone rfl B HK2.out.bs _ _ rfl gn' (G ++ Gp).length _ (c: Int) rfl HK2.out.rg (by simp; omega) wr.heap.size 1 rfl HC.out ?_
    intro v2 w10 hown hgr hnw
    obtain ⟨gg,hgg⟩: ∃ gg,(G ++ Gp).length + 1 = gg := ⟨_,rfl⟩
    rw [hgg] at hown
    obtain ⟨ad2,cp2,rfl⟩ := own_slice hown
    obtain ⟨e1,e2,e3,e4⟩ := HI.out.es.gave (nx := c) HB2.out hgr hgg.symm hown hnw
    have x2: w10.heap[x]? = some (.cells #[.pointer (some ⟨t,0,none⟩), .int .i64 (c: Int), .int .i64 ((hc + 1: Nat): Int), .int .i64 (xl: Int),tk,ld,gn'] 66 (0,0)) := by
     rw [hgr.block x (Nat.lt_of_lt_of_le dl HB2.out.size) (fun e => row_ne HK2.out.ed HK2.out.rg (by decide) e.symm)]
     exact HK2.out.ed
    have y6: w10.cell? ⟨x,6,none⟩ = some gn' := (EdC.cells x2).2.2.2.2.2.2.1
    have yl := (EdC.cells x2).2.2.2.2.2.2.2.1
    have yf := (EdC.cells x2).2.2.2.2.2.2.2.2
    have HE10 := thid e1
    have HS10 := thid (HI.out.stp.trans e2)
    have HO10 := thid e3
    have HG10 := thid e4
    clear e1 e2 e3 e4 hown hgr hnw x2 d0 d1 d2 d3 d4 d5 d6 dl df g0 n0 n1 n2 HB2 HK2 HC
    have HXB: Hid (∀ q,w10.heap[q]? = wr.heap[q]? -> q ≠ x -> (w10.setCell ⟨x,6,none⟩ (.slice ad2 gg cp2)).heap[q]? = wr.heap[q]?) := fun q hq hx => by rw [heap_setCell_other _ _ _ _ hx]; exact hq
    obtain ⟨bs,hkd⟩ := HI.out.kd
    obtain ⟨kb,ko,hka,kbl,kc0⟩ := (L5.owns_rd_slice hkd).2.2 0 (.int .i64 kk) (by rw [HKK.out]; rfl)
    have hblk: ∀ {q: Nat},q < wr.heap.size -> q ≠ x -> gn'.ownBlock ≠ some q -> (w10.setCell ⟨x,6,none⟩ (.slice ad2 gg cp2)).heap[q]? = wr.heap[q]? := fun hq h1 h2 => HO10.out.block _ hq fun z => z.elim h1 h2
    have nd10: NdC (w10.setCell ⟨x,6,none⟩ (.slice ad2 gg cp2)) (w.heap.size + 1) (.bool m.leaf) (.slice a1 m.recs.length c1) (.slice a2 m.kids.length c2) := (hblk nl (tag_ne HI.out.nd HI.out.es.ed (by decide)) (row_ne HI.out.nd HI.out.es.rg (by decide))).trans HI.out.nd
    have rt10 := (hblk gl (tag_ne HI.out.root HI.out.es.ed (by decide)) (row_ne HI.out.root HI.out.es.rg (by decide))).trans HI.out.root
    have hob: (Value.slice a2 m.kids.length c2).ownBlock = some kb := by rw [hka]; rfl
    have kb10 := hblk kbl (fun e => row_ne HI.out.es.ed hkd (by decide) (e ▸ hob)) (fun e => HI.out.ka kb e hob)
    obtain ⟨hc',rfl⟩: ∃ hc',hc = hc' + 1 := by
     cases hc with
     | zero => exact absurd HKL.out HI.out.ok
     | succ hc' => exact ⟨hc',rfl⟩
    obtain ⟨pg,m2,hkp,hpne,hna,hsm,hsh,hmz,hml,hok2⟩ := HI.out.ok kk HKK.out
    subst hkp
    have q0: (w10.setCell ⟨x,6,none⟩ (.slice ad2 gg cp2)).cell? ⟨kb,ko,none⟩ = some (.int .i64 (pg: Int)) := by
     rw [World.cell?_of_block (w := wr) kb10]
     simpa using kc0
    have n2': (w10.setCell ⟨x,6,none⟩ (.slice ad2 gg cp2)).cell? ⟨w.heap.size + 1,2,none⟩ = some (.slice (some ⟨kb,ko,none⟩) 1 c2) := by rw [cell_of_row _ _ _ _ _ _ nd10,HKL.out,hka]; rfl
    have nl' := (Array.getElem?_eq_some_iff.1 nd10).1
    have kl': kb < (w10.setCell ⟨x,6,none⟩ (.slice ad2 gg cp2)).heap.size := Nat.lt_of_lt_of_le kbl HO10.out.size
    obtain ⟨d0,d1,d2,d3,d4,d5,d6,dl,df⟩ := HE10.out.ed.cells
    have hxn: x ≠ w.heap.size + 1 := (tag_ne nd10 HE10.out.ed (by decide)).symm
    have HND := thid nd10
    have HRT := thid rt10
    have HREST := thid (And.intro hna (And.intro hsm (And.intro hsh (And.intro hmz (And.intro hml (And.intro hok2 hpne))))))
    have HI2 := HI
    clear hblk HXB hkd hob kb10 kbl kc0 hgg nd10 rt10 hna hsm hsh hmz hml hok2 HG10 HO10 HI
    have hdw: wrap64 (((hc' + 1 + 1: Nat): Int) - 1) = ((hc' + 1: Nat): Int) := by unfold wrap64; omega
    go_wp2_with fail
    rw [show ((hc': Int) + 1) = ((hc' + 1: Nat): Int) by omega]
    obtain ⟨hE13,hS13⟩ := HE10.out.rooted pg (hc' + 1)
    have hrx: w.heap.size ≠ x := tag_ne HRT.out HE10.out.ed (by decide)
    have nd13: NdC (((w10.setCell ⟨x,6,none⟩ (.slice ad2 gg cp2)).setCell ⟨x,1,none⟩ (.int .i64 (pg: Int))).setCell ⟨x,2,none⟩ (.int .i64 ((hc' + 1: Nat): Int))) (w.heap.size + 1) (.bool m.leaf) (.slice a1 m.recs.length c1) (.slice a2 m.kids.length c2) := by
     unfold NdC
     rw [heap_setCell_other _ _ _ _ hxn.symm,heap_setCell_other _ _ _ _ hxn.symm]
     exact HND.out
    have rt13: (((w10.setCell ⟨x,6,none⟩ (.slice ad2 gg cp2)).setCell ⟨x,1,none⟩ (.int .i64 (pg: Int))).setCell ⟨x,2,none⟩ (.int .i64 ((hc' + 1: Nat): Int))).heap[w.heap.size]? = some (.cells #[.int .i64 (at_: Int), .bool n.leaf, .slice ra n.recs.length rc, .slice ka n.kids.length kc, .int .i64 (kid: Int)] 104 (0,0)) := by
     rw [heap_setCell_other _ _ _ _ hrx,heap_setCell_other _ _ _ _ hrx]
     exact HRT.out
    have HE13 := thid hE13
    have HS13 := thid (HS10.out.trans hS13)
    have HND13 := thid nd13
    have HRT13 := thid rt13
    clear hE13 hS13 nd13 rt13 HND HRT HS10 HE10 d0 d1 d2 d3 d4 d5 d6 dl df q0 n2' nl' kl' y6 yl yf hrx
    generalize ((w10.setCell ⟨x,6,none⟩ (.slice ad2 gg cp2)).setCell ⟨x,1,none⟩ (.int .i64 (pg: Int))).setCell ⟨x,2,none⟩ (.int .i64 ((hc' + 1: Nat): Int)) = W13 at *
    obtain ⟨hna,hsm,hsh,hmz,hml,hok2,hpne⟩ := HREST.out
    refine (node_ok HE13.out ho (by omega) hna (by rw [hml]; simp)).mono ?_
    rintro e w14 ⟨ra2,rc2,ka2,kc2,rfl,⟨bs2,hkd2⟩,hap2,hb14⟩
    have HE14 := thid (HE13.out.below hb14)
    have HS14 := thid (HS13.out.trans (Stp.below hb14))
    have HND14 := thid (HND13.out.on hb14)
    have HRT14 := thid ((hb14.block _ (Array.getElem?_eq_some_iff.1 HRT13.out).1).trans HRT13.out)
    have HKD := thid (And.intro hkd2 hap2)
    have hok3 := thid hok2
    have hpn := thid hpne
    have hna2 := thid hna
    clear HE13 HS13 HND13 HRT13 hkd2 hap2 hb14 HREST hna hsm hsh hmz hml hok2 hpne
    have z0: w14.cell? ⟨w.heap.size + 1,0,none⟩ = some (.bool m.leaf) := by rw [cell_of_row _ _ _ _ _ _ HND14.out]; rfl
    have z1: w14.cell? ⟨w.heap.size + 1,1,none⟩ = some (.slice a1 m.recs.length c1) := by rw [cell_of_row _ _ _ _ _ _ HND14.out]; rfl
    have z2: w14.cell? ⟨w.heap.size + 1,2,none⟩ = some (.slice a2 m.kids.length c2) := by rw [cell_of_row _ _ _ _ _ _ HND14.out]; rfl
    have zl := (Array.getElem?_eq_some_iff.1 HND14.out).1
    have zf: ∀ i,w14.frozen? ⟨w.heap.size + 1,i,none⟩ = false := fun i => frozen_of_row _ _ _ _ _ HND14.out
    have HSZ := thid hsz
    clear hsz
    go_wp2
    obtain ⟨nd15,o15⟩ := HND14.out.store (.bool m2.leaf) (.slice ra2 m2.recs.length rc2) (.slice ka2 m2.kids.length kc2)
    have hE15 := HE14.out.noded HND14.out o15
    have hxc := hE15.ed.cells.2.2.1
    refine ⟨⟨pg,m2,Gp ++ [c],hc',ra2,rc2,ka2,kc2, .slice ad2 gg cp2,rfl, ?_⟩, ?_⟩
    · refine ⟨by rw [<- List.append_assoc]; exact hE15,HS14.out.trans ⟨o15.weaken fun q _ e => Or.inr (Or.inr (Or.inr ?_)),fun _ hq => Or.inl hq⟩,nd15, ?_,⟨bs2, ?_⟩,HKD.out.2,hok3.out, ?_, ?_,Or.inr hpn.out⟩
      · rw [e]; have := HBS.out; omega
      · exact (o15.block _ (Array.getElem?_eq_some_iff.1 HRT14.out).1 (fun e => by omega)).trans HRT14.out
      · exact L5.owns_of_block HKD.out.1 fun q hq => o15.block q (HKD.out.1.lt q hq).2 fun e => row_ne HND14.out HKD.out.1 (by decide) (e ▸ hq)
      · intro G2 r' n2 hr st
        have := HI2.out.stl (c :: G2) r' n2 hr (.down HKK.out hna2.out.stl st)
        simpa using this
      · have := HSZ.out; simp; omega
    · rw [hxc]
      have hxc0 := HI2.out.es.ed.cells.2.2.1
      rw [hxc0]
      simp [intOf]
      omega
  · have hk1: ((m.kids.length: Int) == 1) = false := by rw [beq_eq_false_iff_ne]; omega
    have HDN := thid (HI.out.stl [] c m hc (.done hk))
    rcases HI.out.first with ⟨rfl,rfl,rfl,rfl,o1,o2,j1,j2,j3⟩ | hne
    · have HPU := thid (put_ok (at_ := c) HI.out.es (by omega) o1 o2 j1 j2 (fun q hq => j3 q hq))
      have HST := thid HI.out.stp
      have HSZ := thid HI.out.sz
      have hcc: ((c: Int) == (c: Int)) = true := by simp
      clear HI o1 o2 j1 j2 j3
      go_wp2_with fail
      refine HPU.out.mono ?_
      rintro e w3 ⟨rfl,ld',hE,hS⟩
      have HF: Hid (SetQ B s t x r h l xl tk T Ld G w c m xh w3) := ⟨ld',gn',_,[],c,m,hc,hE,HST.out.trans hS,by simpa using HDN.out,by rw [if_pos rfl]; exact prs_snoc _ _ _ _ _ _,by simp,by simp⟩
      clear hE hS HPU HST HDN
      go_wp2
      go_end0
      exact ⟨rfl,HF.out⟩
    · have hcn: ((c: Int) == (at_: Int)) = false := by rw [beq_eq_false_iff_ne]; omega
      have HF: Hid (SetQ B s t x r h l xl tk T Ld G w at_ n xh wr) := ⟨ld,gn',Ld,Gp,c,m,hc,HI.out.es,HI.out.stp,by simpa using HDN.out,by rw [if_neg hne],by omega,by have := HI.out.sz; omega⟩
      clear HI HDN
      go_wp2
      go_end0
      exact ⟨rfl,HF.out⟩
end Go.Proofs.YtdnkbdjhccckhaaGreat
