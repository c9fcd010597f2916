import Derived.Test.YtdnkbdjhccckhaaGreatMAZ
import Derived.Test.YtdnkbdjhccckhaaGreatMAX
set_option maxRecDepth 100000
set_option maxHeartbeats 4000000
namespace Go.Proofs.YtdnkbdjhccckhaaGreat
open Go.RowKit
open L4 (Ar ArP Abs arV nv)
theorem wayL_blk {w: World} {m b cp r kid: Nat} {n: L5.No} {vr vk: Value} {cs: Array Value} (h: w.heap[b]? = some (.cells cs 104 (0,0))) (hcp: m + 1 <= cp) (c0: cs[m * 5]? = some (.int .i64 (r: Int))) (c1: cs[m * 5 + 1]? = some (.bool n.leaf)) (c2: cs[m * 5 + 2]? = some vr) (c3: cs[m * 5 + 3]? = some vk) (c4: cs[m * 5 + 4]? = some (.int .i64 (kid: Int))): WayL w m b cp r n vr vk kid :=
 ⟨(Array.getElem?_eq_some_iff.1 h).1,hcp,(cell_of_row _ _ _ _ _ _ h).trans c0,(cell_of_row _ _ _ _ _ _ h).trans c1,(cell_of_row _ _ _ _ _ _ h).trans c2,(cell_of_row _ _ _ _ _ _ h).trans c3,(cell_of_row _ _ _ _ _ _ h).trans c4⟩
theorem Es.raise {N B: Nat} {s: Ar} {t x r h l xr xh xl: Nat} {w: World} (k: Es N s t x r h l xr xh xl (.slice none 0 0) (.slice none 0 0) (.slice none 0 0) [] [] [] w) (hB: B <= w.heap.size): Es B s t x r h l xr xh xl (.slice none 0 0) (.slice none 0 0) (.slice none 0 0) [] [] [] w :=
 ⟨k.ar,k.tr,k.ed,hB,⟨rfl,Or.inl ⟨rfl,rfl⟩⟩,⟨rfl,Or.inl ⟨rfl,rfl⟩⟩,⟨rfl,Or.inl ⟨rfl,rfl⟩⟩,fun y hy => by simp at hy,fun y hy => by simp at hy,k.a1,k.a2,k.a3⟩
theorem ways_of {N: Nat} {s: Ar} {w w1 w7: World} {v: Value} {Ld: List Lay} {g cc m x: Nat} {y0: Lay} {cs cs' cx: Array Value} (hA: ArP s w) (hN: N <= w.heap.size) (hW: WayR w.heap.size v Ld w1) (hv: v = .slice (some ⟨g,0,none⟩) (m + 1) cc) (hlen: Ld.length = m + 1) (hy0: Ld[m]? = some y0) (hb1: w1.heap[g]? = some (.cells cs 104 (0,0))) (hx1: w1.heap[x]? = some (.cells cx 66 (0,0))) (hb7: w7.heap[g]? = some (.cells cs' 104 (0,0))) (hcs: ∀ i,i < m * 5 -> cs'[i]? = cs[i]?) (keep: ∀ q,q < w1.heap.size -> q ≠ g -> y0.vr.ownBlock ≠ some q -> q ≠ x -> w7.heap[q]? = w1.heap[q]?): WayS N w1.heap.size s g (Ld.take m) w7 := by
 have hL: Ld = Ld.take m ++ [y0] := by
  have hm: m < Ld.length := by omega
  have e := List.take_succ_eq_append_getElem (l := Ld) hm
  rw [List.take_of_length_le (by omega)] at e
  rw [List.getElem?_eq_getElem hm] at hy0
  rw [Option.some.inj hy0] at e
  exact e
 have hap := hW.ap
 rw [hL,List.pairwise_append] at hap
 have hmem: ∀ z ∈ Ld.take m,z ∈ Ld := fun z hz => List.mem_of_mem_take hz
 have hgb := (hW.row.lt g (by rw [hv]; rfl))
 refine ⟨⟨cs',hb7,fun i z hi => ?_⟩,Nat.le_trans hN hgb.1,hgb.2,fun z hz => ?_,fun z hz => ?_,fun z hz q hq => ((hW.rr z (hmem z hz)).lt q hq).2,fun z hz q hq => ⟨((hW.rk z (hmem z hz)).lt q hq).2,fun ho => ?_⟩,hap.1⟩
 · rw [List.getElem?_take] at hi
   split at hi
   · rename_i him
     obtain ⟨hil,hiz⟩ := List.getElem?_eq_some_iff.1 hi
     obtain ⟨g',cap,hv',_,c0,c1,c2,c3,c4⟩ := row5 hW.row (j := i) hil
     rw [hv] at hv'
     injection hv' with hg _ _
     injection hg with hg
     injection hg with hg _ _
     subst hg
     rw [hiz] at c0 c1 c2 c3 c4
     rw [cell_of_row _ _ _ _ _ _ hb1] at c0 c1 c2 c3 c4
     rw [hcs _ (by omega),hcs _ (by omega),hcs _ (by omega),hcs _ (by omega),hcs _ (by omega)]
     exact ⟨c0,c1,c2,c3,c4⟩
   · cases hi
 · have hr := hW.rr z (hmem z hz)
   exact owns_low (L5.owns_of_block hr fun q hq => keep q (hr.lt q hq).2 (fun e => row_ne hb1 hr (by decide) (e ▸ hq)) (fun e => (hap.2.2 z hz y0 (by simp)).1 q hq e) (fun e => row_ne hx1 hr (by decide) (e ▸ hq))) hN
 · have hr := hW.rk z (hmem z hz)
   exact owns_low (L5.owns_of_block hr fun q hq => keep q (hr.lt q hq).2 (fun e => row_ne hb1 hr (by decide) (e ▸ hq)) (fun e => rows_ne hr (hW.rr y0 (by rw [hL]; simp)) (by decide) q hq e) (fun e => row_ne hx1 hr (by decide) (e ▸ hq))) hN
 · have := ((hW.rk z (hmem z hz)).lt q hq).1
   have := L4.arSt.lt s w q hA ho
   omega
theorem insert_any {N: Nat} {s: Ar} {t x r h l: Nat} {k: ByteArray} {pre: List Pl} {y: Pl} {w: World} (hE: Es N s t x r h l r h l (.slice none 0 0) (.slice none 0 0) (.slice none 0 0) [] [] [] w) (ho: s.abs.Ok) (hp: Path s.abs k h r (pre ++ [y])) (hh: h <= 4096) (hsm: y.n.small) (hno: L5.isAt y.n.recs k (y.n.recs.countP (L5.ltB k)) = false) (hat: ∃ c,s.abs.at (y.at_: Int) = some c) (hl: h + 1 <= s.abs.left)
 (hpl: ∀ z ∈ pre,∃ c,s.abs.at (z.at_: Int) = some c) (hG: GrowOk pre.reverse s.abs y.at_ (withRec y.n (y.n.recs.countP (L5.ltB k)) k)) (hll: l <= 1000000) :
 Calls Tryz.prog 43 #[.pointer (some ⟨x,0,none⟩), .string k] w fun e w1 => e = .returned (.tuple #[]) /\ Done N s t x r h l (headR (grows pre.reverse s.abs y.at_ (withRec y.n (y.n.recs.countP (L5.ltB k)) k)).2 r) (headH (grows pre.reverse s.abs y.at_ (withRec y.n (y.n.recs.countP (L5.ltB k)) k)).2 h) (l + 1) (grows pre.reverse s.abs y.at_ (withRec y.n (y.n.recs.countP (L5.ltB k)) k)).1 w w1 := by
 have HE := thid hE
 obtain ⟨d0,d1,d2,d3,d4,d5,d6,dl,df⟩ := hE.ed.cells
 have HWY := thid (way_any hE.ar ho hE.tr hp hh)
 have HLN := thid hp.pos
 clear hE hp
 go_enter Tryz.func43,Tryz.ntmps43
 go_wp2_with fail
 refine HWY.out.mono ?_
 rintro e w1 ⟨v,Ld,rfl,hmap,hW,B1⟩
 have HWR := thid hW
 have HMAP := thid hmap
 have hLd: Ld.length = pre.length + 1 := by have := congrArg List.length hmap; simpa using this
 have hlast: Ld[pre.length]?.map Lay.pl = some y := by rw [<- List.getElem?_map,hmap]; simp
 obtain ⟨y0,hy0,hpl⟩ := Option.map_eq_some_iff.1 hlast
 obtain ⟨g,cap,hv,hg,g0,g1,g2,g3,g4⟩ := row5 hW.row (j := pre.length) (by omega)
 have hyy: Ld[pre.length] = y0 := by rw [List.getElem?_eq_getElem (by omega)] at hy0; exact Option.some.inj hy0
 rw [hyy] at g0 g1 g2 g3 g4
 have hmem: y0 ∈ Ld := List.mem_of_getElem? hy0
 have hny: y0.n = y.n := by rw [<- hpl]; rfl
 have hat_: y0.at_ = y.at_ := by rw [<- hpl]; rfl
 have hrr := hW.rr y0 hmem
 have hrk := hW.rk y0 hmem
 rw [<- hny] at hsm hno hG
 rw [<- hat_] at hat hG
 have HY0 := thid hy0
 have HLD := thid hLd
 have HNY := thid hny
 have HATT := thid hat_
 have HPO := thid HLN.out
 obtain ⟨cc,hcc⟩: ∃ cc,v = .slice (some ⟨g,0,none⟩) (pre.length + 1) cc := ⟨cap,by rw [hv,hLd]⟩
 subst hcc
 obtain ⟨a,c,er⟩ := own_slice hrr
 obtain ⟨a',c',ek⟩ := own_slice hrk
 have HER := thid er
 rw [er] at g2 hrr
 rw [ek] at g3 hrk
 have HFN := thid (L5.find_walk (n := y0.n) (L5.NR.mk (L5.owns_rd_slice hrr) (L5.owns_rd_slice hrk)) hsm.recs k)
 rw [hno] at HFN
 unfold L5.nodeV at HFN
 have HB1 := thid B1
 have HBW1 := thid B1
 have HO1 := thid hrr
 have HO2 := thid hrk
 obtain ⟨cs,hbk⟩ := L4.owns_tag hW.row (k := g) (by rw [hv]; rfl)
 have hbb := (hW.row.lt g (by rw [hv]; rfl)).1
 have HBK1 := thid hbk
 have hcc: pre.length + 1 <= cc := by
  obtain ⟨_,_,e,_,hc⟩ := L4.owns_slice hW.row
  injection e with _ e1 e2
  omega
 have HE1 := thid (HE.out.below B1)
 have HLN2: Hid (pre.length + 1 = h) := by
  have := HLN.out.1
  show pre.length + 1 = h
  simpa using this
 have hml: pre.length + 1 <= 4096 := by have := HLN.out.1; simp at this; omega
 obtain ⟨m,hm⟩: ∃ m,Hid (pre.length = m) := ⟨_,rfl⟩
 rw [hm.out] at g0 g1 g2 g3 g4 hml hcc ⊢
 clear HWY hat_ d0 d1 d2 d3 d4 d5 d6 dl df hmap hW B1 hLd hlast hy0 hpl hyy hmem hny hv er ek hrr hrk HPO HLN hno
 obtain ⟨d0,d1,d2,d3,d4,d5,d6,dl,df⟩ := HE1.out.ed.cells
 unfold nv at g0 g4
 have hs1: ((m: Int) + 1) - 1 = (m: Int) := by omega
 go_wp2_with fail
 refine HFN.out.mono ?_
 rintro e w2 ⟨rfl,B2⟩
 have HB2 := thid B2
 have HE2 := thid (HE1.out.below B2)
 have HW2: Hid (WayL w2 m g cc y0.at_ y0.n (.slice a y0.n.recs.length c) (.slice a' y0.n.kids.length c') y0.kid) := (⟨hg,hcc,g0,g1,g2,g3,g4⟩: WayL w1 m g cc y0.at_ y0.n (.slice a y0.n.recs.length c) (.slice a' y0.n.kids.length c') y0.kid).on B2
 have HP1 := thid (L5.owns_below HO1.out B2)
 have HP2 := thid (L5.owns_below HO2.out B2)
 have hbk2: w2.heap[g]? = some (.cells cs 104 (0,0)) := (B2.block _ hg).trans hbk
 clear HFN HO1 HO2 HE1 B2 hbk d0 d1 d2 d3 d4 d5 d6 dl df g0 g1 g2 g3 g4
 have x0: ∀ q: L4.BelowW w2,q.w.cell? ⟨x,0,none⟩ = some (.pointer (some ⟨t,0,none⟩)) := fun q => (HE2.out.below q.below).ed.cells.1
 have x2: ∀ q: L4.BelowW w2,q.w.cell? ⟨x,2,none⟩ = some (.int .i64 (h: Int)) := fun q => (HE2.out.below q.below).ed.cells.2.2.1
 have yq: ∀ q: L4.BelowW w2,q.w.cell? ⟨t,0,none⟩ = some (.pointer (some ⟨s.p,0,none⟩)) := fun q => (HE2.out.below q.below).tr.cells.1
 have HL: ∀ q: L4.BelowW w2,Calls Tryz.prog 25 #[.pointer (some ⟨s.p,0,none⟩)] q.w fun e w' => e = .returned (.int .i64 (s.abs.left: Int)) /\ Below q.w.heap.size q.w w' := fun q => L4.left_walk (HE2.out.below q.below).ar ho
 have hl2: decide ((s.abs.left: Int) < (h: Int) + 1) = false := by simp; omega
 obtain ⟨i,hi⟩: ∃ i,Hid (y0.n.recs.countP (L5.ltB k) = i) := ⟨_,rfl⟩
 rw [hi.out]
 go_wp2_with fail
 refine L4.wp_region_below (by kernel_rfl) (by kernel_rfl) (fun _ => ?_)
 repeat (go_big_quiet_step (first | (go_at_call 25; exact L4.quiet_of_below (HL _))))
 refine wpQuiet_nil ?_
 rintro _ ⟨q,rfl⟩
 have HE3 := thid (HE2.out.below q.below)
 have HW3 := thid (HW2.out.on q.below)
 have HQ1 := thid (L5.owns_below HP1.out q.below)
 have HQ2 := thid (L5.owns_below HP2.out q.below)
 have HB3 := thid (tbelow_on (tbelow_on HB1.out HB2.out) q.below)
 have HB13 := thid (tbelow_on HB2.out q.below)
 have hbk3: q.w.heap[g]? = some (.cells cs 104 (0,0)) := (q.below.block _ (Array.getElem?_eq_some_iff.1 hbk2).1).trans hbk2
 generalize q.w = w3 at *
 clear x0 x2 yq HL HE2 HW2 HP1 HP2 HB2 HB1 q hbk2
 obtain ⟨d0,d1,d2,d3,d4,d5,d6,dl,df⟩ := HE3.out.ed.cells
 obtain ⟨lb,hcp,q0,q1,q2,q3,q4⟩ := HW3.out
 have qf: ∀ i,w3.frozen? ⟨g,i,none⟩ = false := fun i => frozen_of_row _ _ _ _ _ hbk3
 have il: i <= y0.n.recs.length := by rw [<- hi.out]; exact List.countP_le_length
 have hA3 := tbelow w3 (.cells #[.string k] 9)
 have hvb := heap_alloc_new w3 (.cells #[.string k] 9)
 have HIN := thid (insert_str (i := i) (x := .string k) (L5.owns_below HQ1.out hA3) il (by have := hsm.recs; omega) (Nat.le_trans HB3.out.size hA3.size) (by
  intro u hu
  obtain ⟨y,_,rfl⟩ := List.mem_map.1 hu
  rfl) rfl hvb (fun e => by have := (HQ1.out.lt _ e).2; omega))
 have HA3 := thid hA3
 clear hA3 hvb
 go_wp2_with fail
 refine HIN.out.mono ?_
 rintro e w5 ⟨v',rfl,o5,hgr5,_⟩
 have hnb := row_ne hbk3 HQ1.out (by decide)
 have hbk5: w5.heap[g]? = some (.cells cs 104 (0,0)) := (hgr5.block g (Nat.lt_of_lt_of_le lb HA3.out.size) (fun e => hnb e.symm)).trans ((HA3.out.block g lb).trans hbk3)
 have hB5: Below w.heap.size w w5 := ⟨hgr5.os.trans (HA3.out.os.trans HB3.out.os),hgr5.tape.trans (HA3.out.tape.trans HB3.out.tape),hgr5.output.trans (HA3.out.output.trans HB3.out.output),Nat.le_trans HB3.out.size (Nat.le_trans HA3.out.size hgr5.size),fun q hq => by
  have z3 := HB3.out.size
  have z4 := HA3.out.size
  rw [hgr5.block q (by omega) (fun e => by have := (HQ1.out.lt q e.symm).1; omega),HA3.out.block q (by omega),HB3.out.block q hq]⟩
 have HKP: Hid (∀ q,q < w1.heap.size -> (Value.slice a y0.n.recs.length c).ownBlock ≠ some q -> w5.heap[q]? = w1.heap[q]?) := fun q hq hn => by
  have z3 := HB13.out.size
  have z4 := HA3.out.size
  rw [hgr5.block q (by omega) (fun e => hn e.symm),HA3.out.block q (by omega),HB13.out.block q hq]
 have HB15: Hid (w1.heap.size <= w5.heap.size) := by
  have z3 := HB13.out.size
  have z4 := HA3.out.size
  have z5 := hgr5.size
  show _ <= _
  omega
 have hbx: g ≠ x := tag_ne hbk3 HE3.out.ed (by decide)
 have hk5: w5.ownsRow w.heap.size 3 1 (.slice a' y0.n.kids.length c') y0.n.kids.length (L5.ivs y0.n.kids) := L5.owns_of_block HQ2.out fun q hq => by
  have z := (HQ2.out.lt q hq).2
  rw [hgr5.block q (Nat.lt_of_lt_of_le z HA3.out.size) (fun e => rows_ne HQ2.out HQ1.out (by decide) q hq e.symm),HA3.out.block q z]
 have e0: cs[m * 5]? = some (.int .i64 (y0.at_: Int)) := (cell_of_row _ _ _ _ _ _ hbk3).symm.trans q0
 have e1: cs[m * 5 + 1]? = some (.bool y0.n.leaf) := (cell_of_row _ _ _ _ _ _ hbk3).symm.trans q1
 have e2: cs[m * 5 + 2]? = some (.slice a y0.n.recs.length c) := (cell_of_row _ _ _ _ _ _ hbk3).symm.trans q2
 have e3: cs[m * 5 + 3]? = some (.slice a' y0.n.kids.length c') := (cell_of_row _ _ _ _ _ _ hbk3).symm.trans q3
 have e4: cs[m * 5 + 4]? = some (.int .i64 (y0.kid: Int)) := (cell_of_row _ _ _ _ _ _ hbk3).symm.trans q4
 have HBE := thid HE.out.bs
 rw [<- withRec_svs] at o5
 have hrl := withRec_len y0.n il k
 rw [<- hrl] at o5
 obtain ⟨ra,rc,rfl⟩ := own_slice o5
 have HE5 := thid (HE.out.below hB5)
 have HB6 := thid (hB5.setCell (p := ⟨g,m * 5 + 2,none⟩) hbb (.slice ra (withRec y0.n i k).recs.length rc))
 have HE6 := thid (HE.out.below HB6.out)
 have hbk6 := heap_setCell_same w5 g (m * 5 + 2) cs _ (.slice ra (withRec y0.n i k).recs.length rc) hbk5
 have HO6 := thid (ownsRow_setCell_other o5 (a := ⟨g,m * 5 + 2,none⟩) (row_ne hbk5 o5 (by decide)) (.slice ra (withRec y0.n i k).recs.length rc))
 have HK6 := thid (ownsRow_setCell_other hk5 (a := ⟨g,m * 5 + 2,none⟩) (row_ne hbk5 hk5 (by decide)) (.slice ra (withRec y0.n i k).recs.length rc))
 have own_lt: ∀ q,s.own q -> q < w.heap.size := fun q hq => L4.arSt.lt s w q HE.out.ar hq
 have HKL := thid (fun q (hq: (Value.slice a' y0.n.kids.length c').ownBlock = some q) => (hk5.lt q hq).1)
 have g2: w5.cell? ⟨g,m * 5 + 2,none⟩ = some (.slice a y0.n.recs.length c) := (cell_of_row _ _ _ _ _ _ hbk5).trans e2
 have gf: ∀ i,w5.frozen? ⟨g,i,none⟩ = false := fun i => frozen_of_row _ _ _ _ _ hbk5
 have gl := (Array.getElem?_eq_some_iff.1 hbk5).1
 obtain ⟨m0,m1,m2,m3,m4,m5,m6,ml,mf⟩ := HE6.out.ed.cells
 clear HIN o5 hgr5 hB5 hk5 HE3 HW3 HQ1 HQ2 HB3 HA3 hbk3 hbk5 qf lb q0 q1 q2 q3 q4 d0 d1 d2 d3 d4 d5 d6 dl df HE5
 have HRL := thid hrl
 clear hrl
 go_wp2_with fail
 obtain ⟨hE7,hS7⟩ := HE6.out.lened (l + 1)
 have hbk7 := (show ((w5.setCell ⟨g,m * 5 + 2,none⟩ (.slice ra (withRec y0.n i k).recs.length rc)).setCell ⟨x,3,none⟩ (.int .i64 ((l + 1: Nat): Int))).heap[g]? = (w5.setCell ⟨g,m * 5 + 2,none⟩ (.slice ra (withRec y0.n i k).recs.length rc)).heap[g]? from heap_setCell_other _ _ _ _ hbx).trans hbk6
 have hW7: WayL ((w5.setCell ⟨g,m * 5 + 2,none⟩ (.slice ra (withRec y0.n i k).recs.length rc)).setCell ⟨x,3,none⟩ (.int .i64 ((l + 1: Nat): Int))) m g cc y0.at_ (withRec y0.n i k) (.slice ra (withRec y0.n i k).recs.length rc) (.slice a' (withRec y0.n i k).kids.length c') y0.kid := by
  have c2: m * 5 + 2 < cs.size := by
   rcases Nat.lt_or_ge (m * 5 + 2) cs.size with h | h
   · exact h
   · rw [Array.getElem?_eq_none h] at e2; cases e2
  refine wayL_blk hbk7 hcp ?_ ?_ ?_ ?_ ?_
  · rw [Array.getElem?_setIfInBounds_ne (by omega)]; exact e0
  · rw [Array.getElem?_setIfInBounds_ne (by omega)]; exact e1
  · rw [Array.getElem?_setIfInBounds_self_of_lt c2]
  · rw [Array.getElem?_setIfInBounds_ne (by omega)]; exact e3
  · rw [Array.getElem?_setIfInBounds_ne (by omega)]; exact e4
 have o7 := ownsRow_setCell_other HO6.out (a := ⟨x,3,none⟩) (row_ne HE6.out.ed HO6.out (by decide)) (.int .i64 ((l + 1: Nat): Int))
 have k7 := ownsRow_setCell_other HK6.out (a := ⟨x,3,none⟩) (row_ne HE6.out.ed HK6.out (by decide)) (.int .i64 ((l + 1: Nat): Int))
 rw [hi.out] at hG
 have hml2 := HLD.out
 have hm' := hm.out
 have hcl := HLN2.out
 have hWS: WayS N w1.heap.size s g (Ld.take m) ((w5.setCell ⟨g,m * 5 + 2,none⟩ (.slice ra (withRec y0.n i k).recs.length rc)).setCell ⟨x,3,none⟩ (.int .i64 ((l + 1: Nat): Int))) := ways_of (cc := cc) (x := x) HE.out.ar HE.out.bs HWR.out (by rw [hm']) (by omega) (by rw [<- hm']; exact HY0.out) HBK1.out (HE.out.below HBW1.out).ed hbk7 (fun j hj => Array.getElem?_setIfInBounds_ne (by omega)) (fun q hq h1 h2 h3 => by
  rw [heap_setCell_other _ _ _ _ h3,heap_setCell_other _ _ _ _ h1]
  exact HKP.out q hq (by rw [<- HER.out]; exact h2))
 have hpre: (Ld.take m).reverse.map Lay.pl = pre.reverse := by
  rw [List.map_reverse,List.map_take,HMAP.out, <- hm']
  simp
 have hpre2: (Ld.take m).map Lay.pl = pre := by
  rw [List.map_take,HMAP.out, <- hm']
  simp
 have HG := thid (grow_any (N := N) m w1.heap.size s r h (.slice none 0 0) (.slice none 0 0) [] [] (Ld.take m) _ (withRec y0.n i k) y0.at_ g cc y0.kid ra a' rc c' (by simp; omega) (by omega) (Nat.le_trans HBE.out HBW1.out.size) (hE7.raise (by have := HB15.out; simp [World.setCell]; omega)) (by simp; omega) (by simp; omega) hWS hW7 (owns_weak o7 HBE.out) (owns_weak k7 HBE.out) (fun q hq e => by have := own_lt q hq; have := HKL.out q e; omega) (fun q hq => by simp [Value.ownBlock] at hq) (fun q hq => by simp [Value.ownBlock] at hq) ho (by omega) (by simp) (by simp) hat (fun z hz => by
  have := hpl z.pl (by rw [<- hpre2]; exact List.mem_map_of_mem hz)
  exact this) (by rw [hpre]; exact hG) (by omega))
 rw [hpre] at HG
 have HS7 := thid ((Stp.below (B := N) (s := s) (t := t) (x := x) (HB6.out)).trans hS7)
 rw [show (l: Int) + 1 = ((l + 1: Nat): Int) by omega]
 clear hE7 hS7 hW7 o7 k7 hbk6 hbk7 HE6 HO6 HK6 m0 m1 m2 m3 m4 m5 m6 ml mf g2 gf gl hWS hG
 refine HG.out.mono ?_
 rintro e w8 ⟨rfl,hd⟩
 have HD := thid (hd.from rfl HS7.out)
 clear HG HS7 hd
 go_wp2
 go_end0
 exact ⟨rfl,by rw [<- HNY.out, <- HATT.out,hi.out]; exact HD.out⟩
theorem tinsert_any {s: Ar} {t r h l: Nat} {k: ByteArray} {pre: List Pl} {y: Pl} {w: World} (hA: ArP s w) (ho: s.abs.Ok) (ht: TrC w t s.p r h l) (hr: r ≠ 0) (hp: Path s.abs k h r (pre ++ [y])) (hh: h <= 4096) (hk1: 1 <= k.size) (hk2: k.size <= 400) (hsm: y.n.small) (hno: L5.isAt y.n.recs k (y.n.recs.countP (L5.ltB k)) = false) (hat: ∃ c,s.abs.at (y.at_: Int) = some c) (hl: h + 1 <= s.abs.left)
 (hpl: ∀ z ∈ pre,∃ c,s.abs.at (z.at_: Int) = some c) (hG: GrowOk pre.reverse s.abs y.at_ (withRec y.n (y.n.recs.countP (L5.ltB k)) k)) (hll: l <= 1000000) :
 Calls Tryz.prog 15 #[.pointer (some ⟨t,0,none⟩), .string k] w fun e w' => e = .returned (.int .i64 0) /\ TrHas s t (grows pre.reverse s.abs y.at_ (withRec y.n (y.n.recs.countP (L5.ltB k)) k)).1 (headR (grows pre.reverse s.abs y.at_ (withRec y.n (y.n.recs.countP (L5.ltB k)) k)).2 r) (headH (grows pre.reverse s.abs y.at_ (withRec y.n (y.n.recs.countP (L5.ltB k)) k)).2 h) (l + 1) w w' := by
 have HB1 := thid (tbelow w (.cells #[.string k] 9))
 have HA1 := thid (L4.arSt.below hA HB1.out)
 have HT1 := thid (ht.on HB1.out)
 have hc1: (w.alloc (.cells #[.string k] 9)).cell? ⟨w.heap.size,0,none⟩ = some (.string k) := by simp [go_sem]
 have HOV := thid (over_ok HT1.out hr)
 clear hA ht
 have hmf: ∀ (fn: Fn) (first cap: Array Value) (w: World),(Instr.makeFunc fn first cap).run Tryz.prog w = .ok (.func fn first cap) w := fun _ _ _ _ => rfl
 go_enter Tryz.func15,Tryz.ntmps15
 go_wp2_with fail
 refine HOV.out.mono ?_
 rintro e w2 ⟨rfl,B2⟩
 have hl2: w.heap.size < (w.alloc (.cells #[.string k] 9)).heap.size := by simp
 have hc2 := (B2.cell (p := ⟨w.heap.size,0,none⟩) hl2).trans hc1
 have HB2 := thid (tbelow_on HB1.out B2)
 have HA2 := thid (L4.arSt.below HA1.out B2)
 have HT2 := thid (HT1.out.on B2)
 have hl3: w.heap.size < w2.heap.size := Nat.lt_of_lt_of_le hl2 B2.size
 clear HOV B2 HA1 HT1 HB1 hc1 hl2
 have he: k.toList.isEmpty = false := by rw [L5.isEmpty_size]; exact decide_eq_false (by omega)
 have hk4: decide (400 < (k.size: Int)) = false := by simp; omega
 have HC := thid (change_ok HA2.out HT2.out 42 (fun _ _ => rfl) #[.pointer (some ⟨w.heap.size,0,none⟩)] (fun N x W _ hb hE => by
  have hcW := (hb.cell (p := ⟨w.heap.size,0,none⟩) hl3).trans hc2
  simpa using tinsert1 hcW (insert_any hE ho hp hh hsm hno hat hl hpl hG hll)))
 clear HA2 HT2 hno hl hG hpl hp hat
 go_wp2_with fail
 refine HC.out.mono ?_
 rintro e w3 ⟨rfl,s',hp,hab,hok,hA3,hT3,hon,hown⟩
 have HF: Hid (TrHas s t (grows pre.reverse s.abs y.at_ (withRec y.n (y.n.recs.countP (L5.ltB k)) k)).1 (headR (grows pre.reverse s.abs y.at_ (withRec y.n (y.n.recs.countP (L5.ltB k)) k)).2 r) (headH (grows pre.reverse s.abs y.at_ (withRec y.n (y.n.recs.countP (L5.ltB k)) k)).2 h) (l + 1) w w3) := by
  refine ⟨s',hp,hab,hok,hA3,hT3, ?_,fun q hq => (hown q hq).imp id fun y => Nat.le_trans HB2.out.size y⟩
  exact ⟨hon.os.trans HB2.out.os,hon.tape.trans HB2.out.tape,hon.output.trans HB2.out.output,Nat.le_trans HB2.out.size hon.size,fun q hq hs => by
   rw [hon.block q (Nat.lt_of_lt_of_le hq HB2.out.size) hs]
   exact HB2.out.block q hq⟩
 clear hA3 hT3 hon hown HC HB2 hmf
 go_wp2
 go_ret
 exact ⟨rfl,HF.out⟩
structure TW (s: Ar) (t r h: Nat) (es: List ByteArray) (ps: List Nat) (w: World): Prop where
 ar: ArP s w
 ok: s.abs.Ok
 tr: TrC w t s.p r h es.length
 tp: TreeP s.abs r h es.length es ps
theorem TW.on {s: Ar} {t r h: Nat} {es: List ByteArray} {ps: List Nat} {w w': World} (k: TW s t r h es ps w) (hb: Below w.heap.size w w'): TW s t r h es ps w' := ⟨L4.arSt.below k.ar hb,k.ok,k.tr.on hb,k.tp⟩
def InsR (es: List ByteArray) (k: ByteArray) (left h: Nat) (c: Int) (es': List ByteArray): Prop :=
 ((k.size = 0 \/ 400 < k.size) /\ c = 15 /\ es' = es) \/ ((1 <= k.size /\ k.size <= 400) /\ ((k ∈ es /\ c = 3 /\ es' = es) \/ (k ∉ es /\ ((left < h + 1 /\ c = 9 /\ es' = es) \/ (h + 1 <= left /\ c = 0 /\ es' = insK k es)))))
structure Vw {σ: Type} (A: L4.St σ) (s: Ar) (t r h l: Nat) (fr: ByteArray) (vt ve vv: Value) (n0 n1 n2 n3 n4 n5: Nat) (b: σ) (left: Nat) (W: World): Prop where
 ar: ArP s W
 tr: TrC W t s.p r h l
 c0: W.heap[n0]? = some (.cells #[.pointer (some ⟨t,0,none⟩)] 29 (0,0))
 c1: W.heap[n1]? = some (.cells #[.string fr] 9 (0,0))
 c2: W.heap[n2]? = some (.cells #[vt] 67 (0,0))
 c3: W.heap[n3]? = some (.cells #[ve] 23 (0,0))
 c4: W.heap[n4]? = some (.cells #[.int .i64 (left: Int)] 3 (0,0))
 c5: W.heap[n5]? = some (.cells #[vv] 145 (0,0))
 p: A.P b W
 a1: ∀ k,A.own b k -> ¬ s.own k
 a2: ∀ k,A.own b k -> k ≠ t /\ k ≠ n0 /\ k ≠ n1 /\ k ≠ n2 /\ k ≠ n3 /\ k ≠ n4 /\ k ≠ n5
 a4: ¬ s.own n4
section
variable {σ: Type} {A: L4.St σ} {s: Ar} {t r h l: Nat} {fr: ByteArray} {vt ve vv: Value} {n0 n1 n2 n3 n4 n5: Nat} {b: σ} {left: Nat} {W: World}
theorem Vw.on (k: Vw A s t r h l fr vt ve vv n0 n1 n2 n3 n4 n5 b left W) {W': World} (hb: Below W.heap.size W W'): Vw A s t r h l fr vt ve vv n0 n1 n2 n3 n4 n5 b left W' :=
 have bl: ∀ {q: Nat} {o: Obj},W.heap[q]? = some o -> W'.heap[q]? = some o := fun hq => (hb.block _ (Array.getElem?_eq_some_iff.1 hq).1).trans hq
 ⟨L4.arSt.below k.ar hb,k.tr.on hb,bl k.c0,bl k.c1,bl k.c2,bl k.c3,bl k.c4,bl k.c5,A.below k.p hb,k.a1,k.a2,k.a4⟩
theorem Vw.moves (k: Vw A s t r h l fr vt ve vv n0 n1 n2 n3 n4 n5 b left W) {W': World} {b': σ} (hp: A.P b' W') (hm: L4.Moves A b b' W W'): Vw A s t r h l fr vt ve vv n0 n1 n2 n3 n4 n5 b' left W' := by
 have bl: ∀ {q: Nat} {o: Obj},W.heap[q]? = some o -> ¬ A.own b q -> W'.heap[q]? = some o := fun hq hn => (hm.only.block _ (Array.getElem?_eq_some_iff.1 hq).1 hn).trans hq
 have lt: ∀ {q: Nat} {o: Obj},W.heap[q]? = some o -> q < W.heap.size := fun hq => (Array.getElem?_eq_some_iff.1 hq).1
 refine ⟨L4.arSt.keep s W W' k.ar (fun q hq => hm.only.block q (L4.arSt.lt s W q k.ar hq) fun z => k.a1 q z hq) (A.pk k.p hm.only),⟨bl k.tr.blk fun z => (k.a2 t z).1 rfl⟩,bl k.c0 fun z => (k.a2 n0 z).2.1 rfl,bl k.c1 fun z => (k.a2 n1 z).2.2.1 rfl,bl k.c2 fun z => (k.a2 n2 z).2.2.2.1 rfl,bl k.c3 fun z => (k.a2 n3 z).2.2.2.2.1 rfl,bl k.c4 fun z => (k.a2 n4 z).2.2.2.2.2.1 rfl,bl k.c5 fun z => (k.a2 n5 z).2.2.2.2.2.2 rfl,hp,fun q hq ho => ?_,fun q hq => ?_,k.a4⟩
 · rcases hm.own q hq with z | z
   · exact k.a1 q z ho
   · have := L4.arSt.lt s W q k.ar ho; omega
 · rcases hm.own q hq with z | z
   · exact k.a2 q z
   · have e0 := lt k.tr.blk; have e1 := lt k.c0; have e2 := lt k.c1; have e3 := lt k.c2; have e4 := lt k.c3; have e5 := lt k.c4; have e6 := lt k.c5
     omega
theorem Vw.set (k: Vw A s t r h l fr vt ve vv n0 n1 n2 n3 n4 n5 b left W) (left': Nat): Vw A s t r h l fr vt ve vv n0 n1 n2 n3 n4 n5 b left' (W.setCell ⟨n4,0,none⟩ (.int .i64 (left': Int))) /\ Only (fun q => A.own b q \/ q = n4) W (W.setCell ⟨n4,0,none⟩ (.int .i64 (left': Int))) := by
 have oth: ∀ q,q ≠ n4 -> (W.setCell ⟨n4,0,none⟩ (.int .i64 (left': Int))).heap[q]? = W.heap[q]? := fun q hq => heap_setCell_other _ _ _ _ hq
 have pk: ∀ (q: Nat) (cs: Array Value),W.heap[q]? = some (Obj.cells cs 109 (0,0)) -> (W.setCell ⟨n4,0,none⟩ (.int .i64 (left': Int))).heap[q]? = W.heap[q]? := fun q cs hq => oth q (tag_ne hq k.c4 (by decide))
 exact ⟨⟨L4.arSt.keep s W _ k.ar (fun q hq => oth q fun e => k.a4 (e ▸ hq)) pk,⟨(oth t (tag_ne k.tr.blk k.c4 (by decide))).trans k.tr.blk⟩,(oth n0 (tag_ne k.c0 k.c4 (by decide))).trans k.c0,(oth n1 (tag_ne k.c1 k.c4 (by decide))).trans k.c1,(oth n2 (tag_ne k.c2 k.c4 (by decide))).trans k.c2,(oth n3 (tag_ne k.c3 k.c4 (by decide))).trans k.c3,heap_setCell_same W n4 0 _ _ _ k.c4,(oth n5 (tag_ne k.c5 k.c4 (by decide))).trans k.c5,A.keep b W _ k.p (fun q hq => oth q (k.a2 q hq).2.2.2.2.2.1) pk,k.a1,k.a2,k.a4⟩,(Only.refl _ W).setCell (p := ⟨n4,0,none⟩) (Or.inr (Or.inr rfl)) _⟩
end
inductive Vl {β: Type} (P: Nat -> β -> β -> Prop) (en: β -> Bool): List Int -> β -> β -> Prop
 | nil {b: β}: Vl P en [] b b
 | stop {c: Nat} {cs: List Int} {b b1: β} (h: P c b b1) (e: en b1 = true): Vl P en ((c: Int) :: cs) b b1
 | more {c: Nat} {cs: List Int} {b b1 b2: β} (h: P c b b1) (e: en b1 = false) (t: Vl P en cs b1 b2): Vl P en ((c: Int) :: cs) b b2
def Vs {β: Type} (a: Abs) (fr: ByteArray) (tl: β -> Nat -> L5.No -> β) (en: β -> Bool): Nat -> Nat -> β -> β -> Prop
 | 0,_,_,_ => False
 | h + 1,at_,b,b' => ∃ n,Holds a at_ n /\ ((h = 0 /\ n.leaf = true /\ b' = tl b at_ n) \/ (h ≠ 0 /\ n.leaf = false /\ Vl (Vs a fr tl en h) en (n.kids.drop (n.recs.countP (L5.leB fr))) (tl b at_ n) b'))
inductive SubA (a: Abs) (h: Nat): List Int -> List ByteArray -> List Nat -> Prop
 | nil: SubA a h [] [] []
 | cons {c: Nat} {cs: List Int} {lo hi: ByteArray} {es1 es2: List ByteArray} {ps1 ps2: List Nat} (k: Sub a h c lo hi es1 ps1) (t: SubA a h cs es2 ps2): SubA a h ((c: Int) :: cs) (es1 ++ es2) (ps1 ++ ps2)
theorem Subs.all {a: Abs} {h: Nat} {hi lo: ByteArray} {rs es: List ByteArray} {cs: List Int} {ps: List Nat} (k: Subs (Sub a h) hi lo rs cs es ps): SubA a h cs es ps := by
 induction k with
 | one hP => have := SubA.cons hP .nil; simpa using this
 | more hP _ ih => exact .cons hP ih
theorem SubA.drop {a: Abs} {h: Nat} {cs: List Int} {es: List ByteArray} {ps: List Nat} (k: SubA a h cs es ps): ∀ j,∃ es' ps',SubA a h (cs.drop j) es' ps' /\ es'.length <= es.length /\ ps'.length <= ps.length := by
 induction k with
 | nil => intro j; exact ⟨[],[],by simpa using SubA.nil,by simp,by simp⟩
 | @cons c cs lo hi es1 es2 ps1 ps2 k t ih =>
  intro j
  cases j with
  | zero => exact ⟨_,_, .cons k t,Nat.le_refl _,Nat.le_refl _⟩
  | succ j =>
   obtain ⟨es',ps',h1,h2,h3⟩ := ih j
   exact ⟨es',ps',h1,by simp; omega,by simp; omega⟩
theorem maybe_ok {r h l: Nat} (hr: 1 <= r) (hr2: r <= 4096) (hh: 1 <= h) (hh2: h <= 4096) (hl: l <= 1000000000) (w: World): Calls Tryz.prog 31 #[.agg #[.int .i64 (r: Int), .int .i64 (h: Int), .int .i64 (l: Int)]] w fun e w' => e = .returned (.bool true) /\ Below w.heap.size w w' := by
 have HB := thid (tbelow w (.cells #[.int .i64 (r: Int), .int .i64 (h: Int), .int .i64 (l: Int)] 40))
 have a1 := heap_alloc_new w (.cells #[.int .i64 (r: Int), .int .i64 (h: Int), .int .i64 (l: Int)] 40)
 have i1: (1: Int) <= (r: Int) := by omega
 have i2: (r: Int) <= 4096 := by omega
 have i3: (1: Int) <= (h: Int) := by omega
 have i4: (h: Int) <= 4096 := by omega
 have i5: (0: Int) <= (l: Int) := by omega
 go_enter Tryz.func31,Tryz.ntmps31
 go_wp2
 go_ret
 exact ⟨rfl,by first | exact HB.out | exact HB.out.drew⟩
theorem open_ok {p r h l: Nat} (hr: 1 <= r) (hr2: r <= 4096) (hh: 1 <= h) (hh2: h <= 4096) (hl: l <= 1000000000) (w: World): Calls Tryz.prog 12 #[.pointer (some ⟨p,0,none⟩), .agg #[.int .i64 (r: Int), .int .i64 (h: Int), .int .i64 (l: Int)]] w fun e w' => ∃ t,e = .returned (.pointer (some ⟨t,0,none⟩)) /\ w.heap.size <= t /\ TrC w' t p r h l /\ Below w.heap.size w w' := by
 have HM := thid (fun w => maybe_ok hr hr2 hh hh2 hl w)
 have HB := thid (tbelow w (.cells #[.int .i64 (r: Int), .int .i64 (h: Int), .int .i64 (l: Int)] 40))
 have a1 := heap_alloc_new w (.cells #[.int .i64 (r: Int), .int .i64 (h: Int), .int .i64 (l: Int)] 40)
 go_enter Tryz.func12,Tryz.ntmps12
 go_wp2_with fail
 refine (HM.out _).mono ?_
 rintro e w1 ⟨rfl,hb⟩
 have HB1 := thid (tbelow_on HB.out hb)
 have a2 := (hb.block _ (Array.getElem?_eq_some_iff.1 a1).1).trans a1
 have d0: w1.cell? ⟨w.heap.size,0,none⟩ = some (.int .i64 (r: Int)) := by rw [cell_of_row _ _ _ _ _ _ a2]; rfl
 have d1: w1.cell? ⟨w.heap.size,1,none⟩ = some (.int .i64 (h: Int)) := by rw [cell_of_row _ _ _ _ _ _ a2]; rfl
 have d2: w1.cell? ⟨w.heap.size,2,none⟩ = some (.int .i64 (l: Int)) := by rw [cell_of_row _ _ _ _ _ _ a2]; rfl
 have dl := (Array.getElem?_eq_some_iff.1 a2).1
 clear hb HM HB a1
 go_wp2
 go_ret
 exact ⟨w1.heap.size,rfl,HB1.out.size,⟨heap_alloc_new _ _⟩,HB1.out.alloc HB1.out.size _⟩
theorem open_nil (v: Value) (r h l: Int) (hv: v = .agg #[.int .i64 r, .int .i64 h, .int .i64 l]) (w: World): Calls Tryz.prog 12 #[.pointer none,v] w fun e w' => e = .returned (.pointer none) /\ Below w.heap.size w w' := by
 subst hv
 go_enter Tryz.func12,Tryz.ntmps12
 go_wp2
 go_ret
 exact ⟨rfl,tbelow _ _⟩
theorem maybe_no (w: World): Calls Tryz.prog 31 #[.agg #[.int .i64 0, .int .i64 0, .int .i64 0]] w fun e w' => e = .returned (.bool false) /\ Below w.heap.size w w' := by
 have HB := thid (tbelow w (.cells #[.int .i64 0, .int .i64 0, .int .i64 0] 40))
 go_enter Tryz.func31,Tryz.ntmps31
 go_wp2
 go_ret
 exact ⟨rfl,by first | exact HB.out | exact HB.out.drew⟩
theorem open_zero (p: Nat) (w: World): Calls Tryz.prog 12 #[.pointer (some ⟨p,0,none⟩), .agg #[.int .i64 0, .int .i64 0, .int .i64 0]] w fun e w' => ∃ t,e = .returned (.pointer (some ⟨t,0,none⟩)) /\ w'.heap[t]? = some (.cells #[.pointer none, .int .i64 0, .int .i64 0, .int .i64 0] 61 (0,0)) /\ Below w.heap.size w w' := by
 have HM := thid (fun w => maybe_no w)
 have HB := thid (tbelow w (.cells #[.int .i64 0, .int .i64 0, .int .i64 0] 40))
 go_enter Tryz.func12,Tryz.ntmps12
 go_wp2_with fail
 refine (HM.out _).mono ?_
 rintro e w1 ⟨rfl,hb⟩
 have HB1 := thid (tbelow_on HB.out hb)
 clear hb HM HB
 go_wp2
 go_ret
 exact ⟨w1.heap.size,rfl,heap_alloc_new _ _,HB1.out.alloc HB1.out.size _⟩
end Go.Proofs.YtdnkbdjhccckhaaGreat
