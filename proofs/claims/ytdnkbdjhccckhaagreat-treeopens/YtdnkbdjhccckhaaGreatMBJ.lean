import Derived.Test.YtdnkbdjhccckhaaGreatMBG
import Derived.Test.YtdnkbdjhccckhaaGreatMBH
import Derived.Test.YtdnkbdjhccckhaaGreatMBI
set_option maxRecDepth 100000
set_option maxHeartbeats 4000000
namespace Go.Proofs.YtdnkbdjhccckhaaGreat
open Go.RowKit
open L4 (Ar ArP Abs arV nv)
theorem lost_any {N B: Nat} {s: Ar} {t x r h l xr xh xl: Nat} {tk ld gn: Value} {T: List Nat} {Ld: List Lay} {G: List Nat} {w: World} {g off: Nat} {cs: Array Value} {u: Pl} {vr vk: Value} {n: L5.No} {at_ kid: Nat} {la lb: Option Addr} {lc ld': Nat} (hE: Es B s t x r h l xr xh xl tk ld gn T Ld G w) (ho: s.abs.Ok) (hL: Ld.length <= 10000) (hG: G.length <= 10000) (k: UpS N w g off cs u vr vk) (hNR: L5.NR w n la lc lb ld') (hus: u.n.shaped = true) (huz: u.n.size <= 1024) (hnz: n.size <= 1024) (hat: u.n.kids[u.kid]? = some (at_: Int)) (hkr: u.kid <= u.n.recs.length) (hbs: Beside s.abs u n.leaf) (zg: g < B) (zr: ∀ q,vr.ownBlock = some q -> q < B) (zk: ∀ q,vk.ownBlock = some q -> q < B /\ ¬ s.own q) :
 Calls Tryz.prog 95 #[.pointer (some ⟨x,0,none⟩), .pointer (some ⟨g,off,none⟩), .agg #[.int .i64 (at_: Int), .bool n.leaf, .slice la n.recs.length lc, .slice lb n.kids.length ld', .int .i64 (kid: Int)]] w fun e w' => ∃ b,e = .returned (.bool b) /\ LostQ N B s t x r h l xr xh xl tk ld gn T Ld G g off cs u vr vk at_ n w b w' := by
 by_cases h0: n.recs.length + n.kids.length = 0
 · have e1: n.recs.length = 0 := by omega
   have e2: n.kids.length = 0 := by omega
   rw [e1,e2]
   refine (lost_gone (lf := n.leaf) (at_ := at_) (v4 := .int .i64 (kid: Int)) hE hG k zg zr zk (List.getElem?_eq_some_iff.1 hat).1 (fun h => by omega) (small_size huz)).mono ?_
   rintro e w' ⟨rfl,gn',vr',vk',hg⟩
   exact ⟨true,rfl,[],at_,_, .gone h0,(fun e => by cases e),fun _ => ⟨Ld,ld,gn',vr',vk',by simp,by omega,hg.lose⟩⟩
 · exact lost_full hE ho hL hG k hNR h0 hus huz hnz hat hbs zg zr zk
theorem shrink_step {N t x r h l xl: Nat} {tk: Value} {T: List Nat} (m: Nat) (IH: ∀ m',m' < m -> ShrinkP N t x r h l xl tk T m'): ShrinkP N t x r h l xl tk T m := by
 intro B s xr xh ld gn Ld G Lw w n at_ g cp kid ra ka rc kc hlw hm hN hE hL hG hWS hW yr yk b1 b2 b3 ho hU hz hxh hset
 have HK := thid hE
 have HW := thid hW
 have HWS := thid hWS
 have HR := thid yr
 have HKK := thid yk
 have HIH := thid IH
 have HB0 := thid (And.intro b1 (And.intro b2 b3))
 have HCAP := thid hW.cap
 have HU := thid hU
 have HSET := thid hset
 clear hE hW yr yk hWS IH b1 b2 b3 hU hset
 go_enter Tryz.func71,Tryz.ntmps71
 go_wp2_with fail
 refine (parted_any hm HW.out).mono ?_
 rintro e w1 ⟨rfl,hb1⟩
 have HB1 := thid hb1
 clear hb1
 have HA1 := thid (tbelow w1 (.cells #[.int .i64 (at_: Int), .bool n.leaf, .slice ra n.recs.length rc, .slice ka n.kids.length kc, .int .i64 (kid: Int)] 104))
 have a1: (w1.alloc (.cells #[.int .i64 (at_: Int), .bool n.leaf, .slice ra n.recs.length rc, .slice ka n.kids.length kc, .int .i64 (kid: Int)] 104)).heap[w1.heap.size]? = some (.cells #[.int .i64 (at_: Int), .bool n.leaf, .slice ra n.recs.length rc, .slice ka n.kids.length kc, .int .i64 (kid: Int)] 104 (0,0)) := heap_alloc_new _ _
 have HB2 := thid (tbelow_on HB1.out HA1.out)
 rcases Nat.eq_zero_or_pos m with hm0 | hm0
 · subst hm0
   have hlz: Lw = [] := List.length_eq_zero_iff.1 hlw
   subst hlz
   obtain ⟨hx1,hx2⟩ := HSET.out [] [] at_ n .root
   subst hx1
   rw [List.append_nil] at hx2
   have HST := thid (settle_any (kid := kid) (HK.out.weaken hN |>.below HB2.out) ho (by omega) (by omega) hxh (L5.owns_below HR.out HB2.out) (L5.owns_below HKK.out HB2.out) HB0.out.1 HB0.out.2.1 HB0.out.2.2 hx2)
   clear HK HW HWS HR HKK HIH HB0 HU HSET hx2
   go_wp2_with fail
   refine HST.out.mono ?_
   rintro e w2 ⟨rfl,ld',gn',Ld',G2,r',n2,hr,q1,q2,q3,q4,q5,q6⟩
   have HF: Hid (ShrQ N s t x r h l xl tk T (([]: List Lay).reverse.map Lay.pl) at_ n at_ xh Ld G w w2) := by
    refine ⟨ld',gn',Ld',_,r',hr + 1,q1,(Stp.below HB2.out).trans q2,Or.inr ⟨[],[],G2,n,n2,hr, .root,by simpa using q3,by simp,rfl,by simpa using q4⟩,by omega,by simp; omega⟩
   clear q1 q2 q3 q4 HST HB1 HB2 HA1 a1
   go_wp2
   refine bodyPost_ret (v := .tuple #[]) (by simp [results,Tryz.results71,go_sem]) rfl ⟨rfl,HF.out⟩
 · obtain ⟨m',rfl⟩: ∃ m',m = m' + 1 := ⟨m - 1,by omega⟩
   have hmz: (((m' + 1: Nat): Int) == 0) = false := by rw [beq_eq_false_iff_ne]; omega
   obtain ⟨Lw',y,rfl⟩: ∃ Lw' y,Lw = Lw' ++ [y] := ⟨Lw.dropLast,Lw.getLast (by intro e; rw [e] at hlw; simp at hlw),(List.dropLast_concat_getLast _).symm⟩
   have hlw': Lw'.length = m' := by simpa using hlw
   have hrv: (Lw' ++ [y]).reverse.map Lay.pl = y.pl :: Lw'.reverse.map Lay.pl := by simp
   have HRV := thid hrv
   rw [hrv] at HU HSET
   clear hrv
   obtain ⟨⟨hul,hus,huz,hat,hkr,hbs⟩,hU'⟩ := HU.out
   obtain ⟨cs,hb,hc⟩ := HWS.out.blk
   obtain ⟨c0,c1,c2,c3,c4⟩ := hc m' y (by rw [List.getElem?_append_right (by omega),hlw']; simp)
   have glt := (Array.getElem?_eq_some_iff.1 hb).1
   have HLO := thid (fun (W: World) (hbW: Below w.heap.size w W) => lost_any (N := N) (kid := kid) (at_ := at_) (u := y.pl) (vr := y.vr) (vk := y.vk) (cs := cs) (off := m' * 5) (HK.out.below hbW) ho (by omega) (by omega) ⟨(hbW.block _ glt).trans hb,c0,c1,c2,c3,c4,(HWS.out.on hbW).rr y (by simp),(HWS.out.on hbW).rk y (by simp)⟩ (L5.NR.mk (n := n) (L5.owns_rd_slice (L5.owns_below HR.out hbW)) (L5.owns_rd_slice (L5.owns_below HKK.out hbW))) hus huz hz hat hkr hbs HWS.out.g2 (HWS.out.r1 y (by simp)) (HWS.out.r2 y (by simp)))
   have hgl: g < (w1.alloc (.cells #[.int .i64 (at_: Int), .bool n.leaf, .slice ra n.recs.length rc, .slice ka n.kids.length kc, .int .i64 (kid: Int)] 104)).heap.size := Nat.lt_of_lt_of_le glt HB2.out.size
   have HCS := thid (And.intro hb hc)
   have HUU := thid (And.intro hul (And.intro huz hU'))
   have hcap := HCAP.out
   clear hul hus huz hat hkr hbs hU' hb hc c0 c1 c2 c3 c4 HU
   have hwm: wrap64 (((m' + 1: Nat): Int) - 1) = (m': Int) := by unfold wrap64; omega
   go_wp2_with fail
   generalize w1.alloc (.cells #[.int .i64 (at_: Int), .bool n.leaf, .slice ra n.recs.length rc, .slice ka n.kids.length kc, .int .i64 (kid: Int)] 104) = W1 at *
   have z0: W1.cell? ⟨w1.heap.size,0,none⟩ = some (.int .i64 (at_: Int)) := by rw [cell_of_row _ _ _ _ _ _ a1]; rfl
   have z1: W1.cell? ⟨w1.heap.size,1,none⟩ = some (.bool n.leaf) := by rw [cell_of_row _ _ _ _ _ _ a1]; rfl
   have z2: W1.cell? ⟨w1.heap.size,2,none⟩ = some (.slice ra n.recs.length rc) := by rw [cell_of_row _ _ _ _ _ _ a1]; rfl
   have z3: W1.cell? ⟨w1.heap.size,3,none⟩ = some (.slice ka n.kids.length kc) := by rw [cell_of_row _ _ _ _ _ _ a1]; rfl
   have z4: W1.cell? ⟨w1.heap.size,4,none⟩ = some (.int .i64 (kid: Int)) := by rw [cell_of_row _ _ _ _ _ _ a1]; rfl
   have lz := (Array.getElem?_eq_some_iff.1 a1).1
   have HA := thid a1
   clear a1
   refine wp_region_quiet_tail (fun w' => ∃ n,w' = World.drewN W1 n) 7 (by kernel_rfl) (by kernel_rfl) ⟨1,rfl⟩ ?_
   simp only [List.take_succ_cons,List.take_zero,List.drop_succ_cons,List.drop_zero]
   repeat (go_big_quiet_step (first | rfl | fail))
   refine wpQuiet_nil ?_
   rintro _ ⟨nq,rfl⟩
   have HBn := thid (below_drewN HB2.out nq)
   have HAn: Hid ((W1.drewN nq).heap[w1.heap.size]? = some (.cells #[.int .i64 (at_: Int), .bool n.leaf, .slice ra n.recs.length rc, .slice ka n.kids.length kc, .int .i64 (kid: Int)] 104 (0,0))) := HA.out
   clear z0 z1 z2 z3 z4 lz HA HA1 HB1 HB2 hgl glt hwm
   generalize W1.drewN nq = W2 at *
   go_wp2_with fail
   refine (HLO.out _ HBn.out).mono ?_
   rintro e w3 ⟨b,rfl,yl,z,c,hLo,hf,ht⟩
   have HE2 := thid (HK.out.below HBn.out)
   have HS2 := thid (HWS.out.on HBn.out)
   have HR2 := thid (L5.owns_below HR.out HBn.out)
   have HK2 := thid (L5.owns_below HKK.out HBn.out)
   have HLO2 := thid hLo
   cases b with
   | false =>
    have hb3 := hf rfl
    have HB3 := thid (tbelow_on HBn.out hb3)
    have a3 := (hb3.block _ (Array.getElem?_eq_some_iff.1 HAn.out).1).trans HAn.out
    have z0: w3.cell? ⟨w1.heap.size,0,none⟩ = some (.int .i64 (at_: Int)) := by rw [cell_of_row _ _ _ _ _ _ a3]; rfl
    have z1: w3.cell? ⟨w1.heap.size,1,none⟩ = some (.bool n.leaf) := by rw [cell_of_row _ _ _ _ _ _ a3]; rfl
    have z2: w3.cell? ⟨w1.heap.size,2,none⟩ = some (.slice ra n.recs.length rc) := by rw [cell_of_row _ _ _ _ _ _ a3]; rfl
    have z3: w3.cell? ⟨w1.heap.size,3,none⟩ = some (.slice ka n.kids.length kc) := by rw [cell_of_row _ _ _ _ _ _ a3]; rfl
    have lz := (Array.getElem?_eq_some_iff.1 a3).1
    have HPU := thid (put_ok (at_ := at_) ((HK.out.below HB3.out).weaken hN) (by omega) (L5.owns_below HR.out HB3.out) (L5.owns_below HKK.out HB3.out) HB0.out.1 HB0.out.2.1 HB0.out.2.2)
    clear hf ht hLo hb3 a3 HAn HLO HIH HSET HE2 HS2 HR2 HK2
    go_wp2_with fail
    refine HPU.out.mono ?_
    rintro e w4 ⟨rfl,ld4,hE4,hS4⟩
    have HF: Hid (ShrQ N s t x r h l xl tk T ((Lw' ++ [y]).reverse.map Lay.pl) at_ n xr xh Ld G w w4) := by
     rw [Hid,HRV.out]
     have hsh: Shr s.abs (y.pl :: Lw'.reverse.map Lay.pl) at_ n [(at_,n)] [] none := by
      have := HLO2.out
      cases this with
      | none h0 hf => exact .stay h0 hf
     exact ⟨ld4,gn,_,G,xr,xh,hE4,(Stp.below HB3.out).trans hS4,Or.inl ⟨_,_,hsh,prs_snoc _ _ _ _ _ _,by simp,rfl,rfl⟩,by simp; omega,by omega⟩
    clear hE4 hS4 HPU HLO2 HB3 z0 z1 z2 z3 lz
    go_wp2
    go_end0
    exact ⟨rfl,HF.out⟩
   | true =>
    obtain ⟨Ld',ld',gn',vr',vk',e1,e2,hLs⟩ := ht rfl
    have hcu := hLo.cut
    obtain ⟨q1,q2,q3,q4,q5,q6⟩ := lost_way (cp := cp) HE2.out hN HS2.out hlw' (by omega) ((HBn.out.block _ (Array.getElem?_eq_some_iff.1 HCS.out.1).1).trans HCS.out.1) HCS.out.2 hLs hcu.2
    obtain ⟨ra8,rc8,rfl⟩ := own_slice hLs.rr
    obtain ⟨ka8,kc8,rfl⟩ := own_slice hLs.rk
    have HI := thid (HIH.out m' (by omega) B s xr xh ld' gn' Ld' (G ++ [z]) Lw' w3 c y.at_ g cp y.kid ra8 ka8 rc8 kc8 hlw' (by omega) hN hLs.es (by omega) (by simp; omega) q1 q2 hLs.rr hLs.rk q4 q5 q6 ho (by have: c.leaf = false := hcu.2.trans HUU.out.1; rw [this]; exact HUU.out.2.2) (Nat.le_trans hcu.1 HUU.out.2.1) hxh (fun L1 G1 r1 n1 hs => by
     have := HSET.out _ _ _ _ (hLo.shr _ _ _ hs)
     rw [e1,List.append_assoc]
     exact this))
    have HST := thid ((Stp.below (B := N) (s := s) (t := t) (x := x) HBn.out).trans q3)
    have HEQ := thid e1
    clear hf ht hLo hLs hcu q1 q2 q3 q4 q5 q6 e1 e2 HAn HLO HIH HSET HE2 HS2 HR2 HK2 HUU HCS
    go_wp2_with fail
    refine HI.out.mono ?_
    rintro e w4 ⟨rfl,ld4,gn4,Ld4,G4,xr4,xh4,hE4,hS4,hD4,l4,g4⟩
    have HF: Hid (ShrQ N s t x r h l xl tk T ((Lw' ++ [y]).reverse.map Lay.pl) at_ n xr xh Ld G w w4) := by
     rw [Hid,HRV.out]
     rw [HEQ.out] at hD4
     exact ⟨ld4,gn4,Ld4,G4,xr4,xh4,hE4,HST.out.trans hS4,hD4.step fun L1 G1 o hs => HLO2.out.shr _ _ _ hs,l4,g4⟩
    clear hE4 hS4 hD4 HI HST HLO2 HEQ
    go_wp2
    refine bodyPost_ret (v := .tuple #[]) (by simp [results,Tryz.results71,go_sem]) rfl ⟨rfl,HF.out⟩
theorem shrink_any {N t x r h l xl: Nat} {tk: Value} {T: List Nat} (m: Nat): ShrinkP N t x r h l xl tk T m := Nat.strongRecOn m fun m ih => shrink_step m ih
theorem delete_any {N: Nat} {s: Ar} {t x r h l: Nat} {k: ByteArray} {pre: List Pl} {y: Pl} {w: World} (hE: Es N s t x r h (l + 1) r h (l + 1) (.slice none 0 0) (.slice none 0 0) (.slice none 0 0) [] [] [] w) (ho: s.abs.Ok) (hp: Path s.abs k h r (pre ++ [y])) (hh: h <= 4096) (hsm: y.n.small) (hno: L5.isAt y.n.recs k (y.n.recs.countP (L5.ltB k)) = true) (hil: y.n.recs.countP (L5.ltB k) < y.n.recs.length) (hll: l <= 1000000)
 (hU: UpsOk s.abs pre.reverse y.at_ (lessRec y.n (y.n.recs.countP (L5.ltB k))).leaf) (hnz: (lessRec y.n (y.n.recs.countP (L5.ltB k))).size <= 1024) (hset: ∀ L1 G1 r1 n1,Shr s.abs pre.reverse y.at_ (lessRec y.n (y.n.recs.countP (L5.ltB k))) L1 G1 (some (r1,n1)) -> r1 = r /\ SetOk s.abs (prs [] ++ L1) r (h - 1) n1) :
 Calls Tryz.prog 47 #[.pointer (some ⟨x,0,none⟩), .string k] w fun e w1 => e = .returned (.tuple #[]) /\ ∃ (ld gn: Value) (Ld: List Lay) (G: List Nat) (r' h': Nat),Dels s.abs pre.reverse y.at_ (lessRec y.n (y.n.recs.countP (L5.ltB k))) r h (prs Ld) G r' h' /\ Es N s t x r h (l + 1) r' h' l (.slice none 0 0) ld gn [] Ld G w1 /\ Stp N s s t x w w1 /\ Ld.length <= 10000 /\ G.length <= 10000 := by
 have HE := thid hE
 obtain ⟨d0,d1,d2,d3,d4,d5,d6,dl,df⟩ := hE.ed.cells
 have HWY := thid (way_any hE.ar ho hE.tr hp hh)
 have HLN := thid hp.pos
 clear hE hp
 go_enter Tryz.func47,Tryz.ntmps47
 go_wp2_with fail
 refine HWY.out.mono ?_
 rintro e w1 ⟨v,Ld,rfl,hmap,hW,B1⟩
 have HWR := thid hW
 have HMAP := thid hmap
 have hLd: Ld.length = pre.length + 1 := by have := congrArg List.length hmap; simpa using this
 have hlast: Ld[pre.length]?.map Lay.pl = some y := by rw [<- List.getElem?_map,hmap]; simp
 obtain ⟨y0,hy0,hpl⟩ := Option.map_eq_some_iff.1 hlast
 obtain ⟨g,cap,hv,hg,g0,g1,g2,g3,g4⟩ := row5 hW.row (j := pre.length) (by omega)
 have hyy: Ld[pre.length] = y0 := by rw [List.getElem?_eq_getElem (by omega)] at hy0; exact Option.some.inj hy0
 rw [hyy] at g0 g1 g2 g3 g4
 have hmem: y0 ∈ Ld := List.mem_of_getElem? hy0
 have hny: y0.n = y.n := by rw [<- hpl]; rfl
 have hat_: y0.at_ = y.at_ := by rw [<- hpl]; rfl
 have hrr := hW.rr y0 hmem
 have hrk := hW.rk y0 hmem
 rw [<- hny] at hsm hno hil hU hnz hset
 rw [<- hat_] at hU hset
 have HY0 := thid hy0
 have HLD := thid hLd
 have HNY := thid hny
 have HATT := thid hat_
 have HPO := thid HLN.out
 obtain ⟨cc,hcc⟩: ∃ cc,v = .slice (some ⟨g,0,none⟩) (pre.length + 1) cc := ⟨cap,by rw [hv,hLd]⟩
 subst hcc
 obtain ⟨a,c,er⟩ := own_slice hrr
 obtain ⟨a',c',ek⟩ := own_slice hrk
 have HER := thid er
 rw [er] at g2 hrr
 rw [ek] at g3 hrk
 have HFN := thid (L5.find_walk (n := y0.n) (L5.NR.mk (L5.owns_rd_slice hrr) (L5.owns_rd_slice hrk)) hsm.recs k)
 rw [hno] at HFN
 unfold L5.nodeV at HFN
 have HB1 := thid B1
 have HBW1 := thid B1
 have HO1 := thid hrr
 have HO2 := thid hrk
 obtain ⟨cs,hbk⟩ := L4.owns_tag hW.row (k := g) (by rw [hv]; rfl)
 have hbb := (hW.row.lt g (by rw [hv]; rfl)).1
 have HBK1 := thid hbk
 have hcc: pre.length + 1 <= cc := by
  obtain ⟨_,_,e,_,hc⟩ := L4.owns_slice hW.row
  injection e with _ e1 e2
  omega
 have HE1 := thid (HE.out.below B1)
 have HLN2: Hid (pre.length + 1 = h) := by
  have := HLN.out.1
  show pre.length + 1 = h
  simpa using this
 have hml: pre.length + 1 <= 4096 := by have := HLN.out.1; simp at this; omega
 obtain ⟨m,hm⟩: ∃ m,Hid (pre.length = m) := ⟨_,rfl⟩
 rw [hm.out] at g0 g1 g2 g3 g4 hml hcc ⊢
 clear HWY hat_ d0 d1 d2 d3 d4 d5 d6 dl df hmap hW B1 hLd hlast hy0 hpl hyy hmem hny hv er ek hrr hrk HPO HLN hno
 obtain ⟨d0,d1,d2,d3,d4,d5,d6,dl,df⟩ := HE1.out.ed.cells
 unfold nv at g0 g4
 have hs1: ((m: Int) + 1) - 1 = (m: Int) := by omega
 go_wp2_with fail
 refine HFN.out.mono ?_
 rintro e w2 ⟨rfl,B2⟩
 have HB2 := thid B2
 have HE2 := thid (HE1.out.below B2)
 have HW2: Hid (WayL w2 m g cc y0.at_ y0.n (.slice a y0.n.recs.length c) (.slice a' y0.n.kids.length c') y0.kid) := (⟨hg,hcc,g0,g1,g2,g3,g4⟩: WayL w1 m g cc y0.at_ y0.n (.slice a y0.n.recs.length c) (.slice a' y0.n.kids.length c') y0.kid).on B2
 have HP1 := thid (L5.owns_below HO1.out B2)
 have HP2 := thid (L5.owns_below HO2.out B2)
 have hbk2: w2.heap[g]? = some (.cells cs 104 (0,0)) := (B2.block _ hg).trans hbk
 clear HFN HO1 HO2 HE1 B2 hbk d0 d1 d2 d3 d4 d5 d6 dl df g0 g1 g2 g3 g4
 obtain ⟨i,hi⟩: ∃ i,Hid (y0.n.recs.countP (L5.ltB k) = i) := ⟨_,rfl⟩
 rw [hi.out]
 have HE3 := thid HE2.out
 have HW3 := thid HW2.out
 have HQ1 := thid HP1.out
 have HQ2 := thid HP2.out
 have HB3 := thid (tbelow_on HB1.out HB2.out)
 have HB13 := thid HB2.out
 have hbk3 := hbk2
 clear HE2 HW2 HP1 HP2 HB2 HB1 hbk2
 revert HB3 HB13
 generalize w2 = w3 at *
 intro HB3 HB13
 obtain ⟨d0,d1,d2,d3,d4,d5,d6,dl,df⟩ := HE3.out.ed.cells
 obtain ⟨lb,hcp,q0,q1,q2,q3,q4⟩ := HW3.out
 have qf: ∀ i,w3.frozen? ⟨g,i,none⟩ = false := fun i => frozen_of_row _ _ _ _ _ hbk3
 have il: i < y0.n.recs.length := by rw [<- hi.out]; exact hil
 have HIN := thid (delete_str (i := i) (l := y0.n.recs) HQ1.out il)
 rw [show ((i + 1: Nat): Int) = (i: Int) + 1 by omega] at HIN
 have HA3 := thid (Below.refl w3.heap.size w3)
 have hi2: (i: Int) <= 1000 := by have := hsm.recs; omega
 go_wp2_with fail
 refine HIN.out.mono ?_
 rintro e w5 ⟨v',rfl,o5,hgr5,_⟩
 have hnb := row_ne hbk3 HQ1.out (by decide)
 have hbk5: w5.heap[g]? = some (.cells cs 104 (0,0)) := (hgr5.block g (Nat.lt_of_lt_of_le lb HA3.out.size) (fun e => hnb e.symm)).trans ((HA3.out.block g lb).trans hbk3)
 have hB5: Below w.heap.size w w5 := ⟨hgr5.os.trans (HA3.out.os.trans HB3.out.os),hgr5.tape.trans (HA3.out.tape.trans HB3.out.tape),hgr5.output.trans (HA3.out.output.trans HB3.out.output),Nat.le_trans HB3.out.size (Nat.le_trans HA3.out.size hgr5.size),fun q hq => by
  have z3 := HB3.out.size
  have z4 := HA3.out.size
  rw [hgr5.block q (by omega) (fun e => by have := (HQ1.out.lt q e.symm).1; omega),HA3.out.block q (by omega),HB3.out.block q hq]⟩
 have HKP: Hid (∀ q,q < w1.heap.size -> (Value.slice a y0.n.recs.length c).ownBlock ≠ some q -> w5.heap[q]? = w1.heap[q]?) := fun q hq hn => by
  have z3 := HB13.out.size
  have z4 := HA3.out.size
  rw [hgr5.block q (by omega) (fun e => hn e.symm),HA3.out.block q (by omega),HB13.out.block q hq]
 have HB15: Hid (w1.heap.size <= w5.heap.size) := by
  have z3 := HB13.out.size
  have z4 := HA3.out.size
  have z5 := hgr5.size
  show _ <= _
  omega
 have hbx: g ≠ x := tag_ne hbk3 HE3.out.ed (by decide)
 have hk5: w5.ownsRow w.heap.size 3 1 (.slice a' y0.n.kids.length c') y0.n.kids.length (L5.ivs y0.n.kids) := L5.owns_of_block HQ2.out fun q hq => by
  have z := (HQ2.out.lt q hq).2
  rw [hgr5.block q (Nat.lt_of_lt_of_le z HA3.out.size) (fun e => rows_ne HQ2.out HQ1.out (by decide) q hq e.symm),HA3.out.block q z]
 have e0: cs[m * 5]? = some (.int .i64 (y0.at_: Int)) := (cell_of_row _ _ _ _ _ _ hbk3).symm.trans q0
 have e1: cs[m * 5 + 1]? = some (.bool y0.n.leaf) := (cell_of_row _ _ _ _ _ _ hbk3).symm.trans q1
 have e2: cs[m * 5 + 2]? = some (.slice a y0.n.recs.length c) := (cell_of_row _ _ _ _ _ _ hbk3).symm.trans q2
 have e3: cs[m * 5 + 3]? = some (.slice a' y0.n.kids.length c') := (cell_of_row _ _ _ _ _ _ hbk3).symm.trans q3
 have e4: cs[m * 5 + 4]? = some (.int .i64 (y0.kid: Int)) := (cell_of_row _ _ _ _ _ _ hbk3).symm.trans q4
 have HBE := thid HE.out.bs
 have hrl := lessRec_len y0.n il
 rw [<- hrl] at o5
 have o5: w5.ownsRow w.heap.size 9 1 v' (lessRec y0.n i).recs.length (L5.svs (lessRec y0.n i).recs) := o5
 obtain ⟨ra,rc,rfl⟩ := own_slice o5
 have HE5 := thid (HE.out.below hB5)
 have HB6 := thid (hB5.setCell (p := ⟨g,m * 5 + 2,none⟩) hbb (.slice ra (lessRec y0.n i).recs.length rc))
 have HE6 := thid (HE.out.below HB6.out)
 have hbk6 := heap_setCell_same w5 g (m * 5 + 2) cs _ (.slice ra (lessRec y0.n i).recs.length rc) hbk5
 have HO6 := thid (ownsRow_setCell_other o5 (a := ⟨g,m * 5 + 2,none⟩) (row_ne hbk5 o5 (by decide)) (.slice ra (lessRec y0.n i).recs.length rc))
 have HK6 := thid (ownsRow_setCell_other hk5 (a := ⟨g,m * 5 + 2,none⟩) (row_ne hbk5 hk5 (by decide)) (.slice ra (lessRec y0.n i).recs.length rc))
 have own_lt: ∀ q,s.own q -> q < w.heap.size := fun q hq => L4.arSt.lt s w q HE.out.ar hq
 have HKL := thid (fun q (hq: (Value.slice a' y0.n.kids.length c').ownBlock = some q) => (hk5.lt q hq).1)
 have g2: w5.cell? ⟨g,m * 5 + 2,none⟩ = some (.slice a y0.n.recs.length c) := (cell_of_row _ _ _ _ _ _ hbk5).trans e2
 have gf: ∀ i,w5.frozen? ⟨g,i,none⟩ = false := fun i => frozen_of_row _ _ _ _ _ hbk5
 have gl := (Array.getElem?_eq_some_iff.1 hbk5).1
 obtain ⟨m0,m1,m2,m3,m4,m5,m6,ml,mf⟩ := HE6.out.ed.cells
 clear HIN o5 hgr5 hB5 hk5 HE3 HW3 HQ1 HQ2 HB3 HA3 hbk3 hbk5 qf lb q0 q1 q2 q3 q4 d0 d1 d2 d3 d4 d5 d6 dl df HE5
 have HRL := thid hrl
 clear hrl
 go_wp2_with fail
 obtain ⟨hE7,hS7⟩ := HE6.out.lened l
 have hbk7 := (show ((w5.setCell ⟨g,m * 5 + 2,none⟩ (.slice ra (lessRec y0.n i).recs.length rc)).setCell ⟨x,3,none⟩ (.int .i64 (l: Int))).heap[g]? = (w5.setCell ⟨g,m * 5 + 2,none⟩ (.slice ra (lessRec y0.n i).recs.length rc)).heap[g]? from heap_setCell_other _ _ _ _ hbx).trans hbk6
 have hW7: WayL ((w5.setCell ⟨g,m * 5 + 2,none⟩ (.slice ra (lessRec y0.n i).recs.length rc)).setCell ⟨x,3,none⟩ (.int .i64 (l: Int))) m g cc y0.at_ (lessRec y0.n i) (.slice ra (lessRec y0.n i).recs.length rc) (.slice a' (lessRec y0.n i).kids.length c') y0.kid := by
  have c2: m * 5 + 2 < cs.size := by
   rcases Nat.lt_or_ge (m * 5 + 2) cs.size with h | h
   · exact h
   · rw [Array.getElem?_eq_none h] at e2; cases e2
  refine wayL_blk hbk7 hcp ?_ ?_ ?_ ?_ ?_
  · rw [Array.getElem?_setIfInBounds_ne (by omega)]; exact e0
  · rw [Array.getElem?_setIfInBounds_ne (by omega)]; exact e1
  · rw [Array.getElem?_setIfInBounds_self_of_lt c2]
  · rw [Array.getElem?_setIfInBounds_ne (by omega)]; exact e3
  · rw [Array.getElem?_setIfInBounds_ne (by omega)]; exact e4
 have o7 := ownsRow_setCell_other HO6.out (a := ⟨x,3,none⟩) (row_ne HE6.out.ed HO6.out (by decide)) (.int .i64 (l: Int))
 have k7 := ownsRow_setCell_other HK6.out (a := ⟨x,3,none⟩) (row_ne HE6.out.ed HK6.out (by decide)) (.int .i64 (l: Int))
 rw [hi.out] at hU hnz hset
 have hml2 := HLD.out
 have hm' := hm.out
 have hcl := HLN2.out
 have hWS: WayS N w1.heap.size s g (Ld.take m) ((w5.setCell ⟨g,m * 5 + 2,none⟩ (.slice ra (lessRec y0.n i).recs.length rc)).setCell ⟨x,3,none⟩ (.int .i64 (l: Int))) := ways_of (cc := cc) (x := x) HE.out.ar HE.out.bs HWR.out (by rw [hm']) (by omega) (by rw [<- hm']; exact HY0.out) HBK1.out (HE.out.below HBW1.out).ed hbk7 (fun j hj => Array.getElem?_setIfInBounds_ne (by omega)) (fun q hq h1 h2 h3 => by
  rw [heap_setCell_other _ _ _ _ h3,heap_setCell_other _ _ _ _ h1]
  exact HKP.out q hq (by rw [<- HER.out]; exact h2))
 have hpre: (Ld.take m).reverse.map Lay.pl = pre.reverse := by
  rw [List.map_reverse,List.map_take,HMAP.out, <- hm']
  simp
 have hpre2: (Ld.take m).map Lay.pl = pre := by
  rw [List.map_take,HMAP.out, <- hm']
  simp
 have HG := thid (shrink_any (N := N) m w1.heap.size s r h (.slice none 0 0) (.slice none 0 0) [] [] (Ld.take m) _ (lessRec y0.n i) y0.at_ g cc y0.kid ra a' rc c' (by simp; omega) (by omega) (Nat.le_trans HBE.out HBW1.out.size) (hE7.raise (by have := HB15.out; simp [World.setCell]; omega)) (by simp; omega) (by simp; omega) hWS hW7 (owns_weak o7 HBE.out) (owns_weak k7 HBE.out) (fun q hq e => by have := own_lt q hq; have := HKL.out q e; omega) (fun q hq => by simp [Value.ownBlock] at hq) (fun q hq => by simp [Value.ownBlock] at hq) ho (by rw [hpre]; exact hU) hnz (by omega) (by rw [hpre]; exact hset))
 rw [hpre] at HG
 have HS7 := thid ((Stp.below (B := N) (s := s) (t := t) (x := x) (HB6.out)).trans hS7)
 clear hE7 hS7 hW7 o7 k7 hbk6 hbk7 HE6 HO6 HK6 m0 m1 m2 m3 m4 m5 m6 ml mf g2 gf gl hWS hset hU
 refine HG.out.mono ?_
 rintro e w8 ⟨rfl,ld8,gn8,Ld8,G8,xr8,xh8,k1,k2,k3,k4,k5⟩
 have HD: Hid (∃ (ld gn: Value) (Ld: List Lay) (G: List Nat) (r' h': Nat),Dels s.abs pre.reverse y0.at_ (lessRec y0.n i) r h (prs Ld) G r' h' /\ Es N s t x r h (l + 1) r' h' l (.slice none 0 0) ld gn [] Ld G w8 /\ Stp N s s t x w w8 /\ Ld.length <= 10000 /\ G.length <= 10000) := ⟨ld8,gn8,Ld8,G8,xr8,xh8,k3.dels,k1,HS7.out.trans k2,k4,k5⟩
 clear HG HS7 k1 k2 k3 k4 k5
 go_wp2
 go_end0
 exact ⟨rfl,by rw [<- HNY.out, <- HATT.out,hi.out]; exact HD.out⟩
end Go.Proofs.YtdnkbdjhccckhaaGreat
