import Derived.Test.YtdnkbdjhccckhaaGreatMAU
import Derived.Test.YtdnkbdjhccckhaaGreatMAO
set_option maxRecDepth 100000
set_option maxHeartbeats 4000000
namespace Go.Proofs.YtdnkbdjhccckhaaGreat
open Go.RowKit
open L4 (Ar ArP Abs arV nv)
def Lay.pl (y: Lay): Pl := ⟨y.at_,y.n,y.kid⟩
structure WayR (B: Nat) (v: Value) (Ld: List Lay) (w: World): Prop where
 row: w.ownsRow B 104 5 v Ld.length (Ld.flatMap Lay.cells)
 rr: ∀ y ∈ Ld,w.ownsRow B 9 1 y.vr y.n.recs.length (L5.svs y.n.recs)
 rk: ∀ y ∈ Ld,w.ownsRow B 3 1 y.vk y.n.kids.length (L5.ivs y.n.kids)
 ap: Ld.Pairwise fun y z => (∀ q,y.vr.ownBlock = some q -> z.vr.ownBlock ≠ some q) /\ (∀ q,y.vk.ownBlock = some q -> z.vk.ownBlock ≠ some q)
theorem WayR.on {B: Nat} {v: Value} {Ld: List Lay} {w w': World} (k: WayR B v Ld w) (hb: Below w.heap.size w w'): WayR B v Ld w' :=
 ⟨L5.owns_of_block k.row fun q hq => hb.block q (k.row.lt q hq).2,fun y hy => L5.owns_below (k.rr y hy) hb,fun y hy => L5.owns_below (k.rk y hy) hb,k.ap⟩
theorem WayR.more {B: Nat} {v v': Value} {Ld: List Lay} {y0: Lay} {w0 w w': World} {m: Nat} (k0: WayR B v Ld w0) (hb0: Below w0.heap.size w0 w) (hB: B <= w0.heap.size) (hm: m = Ld.length + 1) (ho: w'.ownsRow B 104 5 v' m (Ld.flatMap Lay.cells ++ y0.cells)) (hg: w.grownBy w' v.ownBlock)
 (yr: w.ownsRow w0.heap.size 9 1 y0.vr y0.n.recs.length (L5.svs y0.n.recs)) (yk: w.ownsRow w0.heap.size 3 1 y0.vk y0.n.kids.length (L5.ivs y0.n.kids)): WayR B v' (Ld ++ [y0]) w' := by
 subst hm
 have k := k0.on hb0
 have row: ∀ {e: TypeId} {b: Nat} {u: Value} {n: Nat} {xs: List Value},w.ownsRow b e 1 u n xs -> e ≠ 104 -> w'.ownsRow b e 1 u n xs := fun hr he => L5.owns_of_block hr fun q hq => hg.block q (hr.lt q hq).2 (fun e => rows_ne hr k.row he q hq e.symm)
 refine ⟨by rw [List.length_append,List.flatMap_append]; simpa using ho,fun y hy => ?_,fun y hy => ?_, ?_⟩
 · rcases List.mem_append.1 hy with hy | hy
   · exact row (k.rr y hy) (by decide)
   · cases List.mem_singleton.1 hy
     exact owns_weak (row yr (by decide)) hB
 · rcases List.mem_append.1 hy with hy | hy
   · exact row (k.rk y hy) (by decide)
   · cases List.mem_singleton.1 hy
     exact owns_weak (row yk (by decide)) hB
 · rw [List.pairwise_append]
   refine ⟨k.ap,by simp,fun y hy z hz => ?_⟩
   cases List.mem_singleton.1 hz
   exact ⟨fun q hq e => by have := ((k0.rr y hy).lt q hq).2; have := (yr.lt q e).1; omega,fun q hq e => by have := ((k0.rk y hy).lt q hq).2; have := (yk.lt q e).1; omega⟩
theorem way_any {s: Ar} {w: World} {t r h l: Nat} {k: ByteArray} {full: List Pl} (hA: ArP s w) (ho: s.abs.Ok) (ht: TrC w t s.p r h l) (hp: Path s.abs k h r full) (hh: h <= 4096) :
 Calls Tryz.prog 63 #[.pointer (some ⟨t,0,none⟩), .string k] w fun e w' => ∃ v Ld,e = .returned v /\ Ld.map Lay.pl = full /\ WayR w.heap.size v Ld w' /\ Below w.heap.size w w' := by
 obtain ⟨c0,c1,c2,c3,ct,cf⟩ := ht.cells
 have HA := thid hA
 have HT := thid ht
 have HP := thid hp
 have HO := thid ho
 obtain ⟨hlen,hpos⟩ := hp.pos
 have HLN := thid hlen
 clear hA ht ho hp hlen
 have hsub: (h: Int) - 1 = ((h - 1: Nat): Int) := by omega
 go_enter Tryz.func63,Tryz.ntmps63
 go_wp2_with fail
 clear hsub
 go_loopw [5,6,20] (fun u5 u6 i wr => ∃ j: Nat,j <= h - 1 /\ i = .int .i64 (j: Int) /\ ∃ (at_: Nat) (Ld: List Lay) (rest: List Pl),u6 = .int .i64 (at_: Int) /\ Hid (Ld.length = j /\ Ld.map Lay.pl ++ rest = full /\ Path s.abs k (h - j) at_ rest /\ WayR w.heap.size u5 Ld wr /\ Below w.heap.size w wr)) (fun _ _ i _ => h - (intOf i).toNat)
 case atStart => exact ⟨0,Nat.zero_le _,rfl,r,[],full,rfl,⟨rfl,rfl,HP.out,⟨⟨rfl,Or.inl ⟨rfl,rfl⟩⟩,by simp,by simp,by simp⟩,Below.refl _ _⟩⟩
 case round =>
  clear c0 c1 c2 c3
  obtain ⟨j,hj,rfl,at_,Ld,rest,rfl,HI⟩ := hrel
  by_cases hlt: j < h - 1
  · have hlt': (j: Int) < ((h - 1: Nat): Int) := by omega
    obtain ⟨hl1,hl2,hl3,hl4,hl5⟩ := HI.out
    obtain ⟨m,hm⟩: ∃ m,h - j = m + 1 + 1 := ⟨h - j - 2,by omega⟩
    rw [hm] at hl3
    cases hl3 with
    | @inner _ _ at' n rest' hn hlf hk hr =>
    have HLD := thid (load_ok (L4.arSt.below HA.out hl5) HO.out (HT.out.on hl5) hn.page hn.shaped hn.size)
    rw [hlf] at HLD
    go_wp2_with fail
    refine HLD.out.mono ?_
    rintro e w1 ⟨v,rfl,a,c,a',c',rfl,o1,o2,B1⟩
    have HR1 := thid o1
    have HK1 := thid o2
    have HB1 := thid B1
    have HW0 := thid hl4
    have HBW := thid hl5
    have HPL := thid hl2
    have HJL := thid hl1
    have HNX := thid hk
    have HRS := thid hr
    have HSM := thid hn.small
    clear HLD o1 o2 B1 hl1 hl2 hl4 hl5 hk hr hn HI
    unfold L5.nodeV
    rw [hlf]
    have hb2 := tbelow w1 (.cells #[.bool false, .slice a n.recs.length c, .slice a' n.kids.length c'] 69)
    have a2 := heap_alloc_new w1 (.cells #[.bool false, .slice a n.recs.length c, .slice a' n.kids.length c'] 69)
    have HKD := thid (L5.kid_walk (n := n) (L5.NR.mk (L5.owns_rd_slice (L5.owns_below HR1.out hb2)) (L5.owns_rd_slice (L5.owns_below HK1.out hb2))) HSM.out.recs k)
    unfold L5.nodeV at HKD
    rw [hlf] at HKD
    have HB2 := thid hb2
    clear hb2
    go_wp2_with fail
    refine HKD.out.mono ?_
    rintro e w3 ⟨rfl,B3⟩
    have a3: w3.heap[w1.heap.size]? = some (.cells #[.bool false, .slice a n.recs.length c, .slice a' n.kids.length c'] 69 (0,0)) := (B3.block _ (by simp)).trans a2
    have HB3 := thid (tbelow_on HB2.out B3)
    clear HKD B3 a2 HB2
    have y0: w3.cell? ⟨w1.heap.size,0,none⟩ = some (.bool false) := by rw [cell_of_row _ _ _ _ _ _ a3]; rfl
    have y1: w3.cell? ⟨w1.heap.size,1,none⟩ = some (.slice a n.recs.length c) := by rw [cell_of_row _ _ _ _ _ _ a3]; rfl
    have y2: w3.cell? ⟨w1.heap.size,2,none⟩ = some (.slice a' n.kids.length c') := by rw [cell_of_row _ _ _ _ _ _ a3]; rfl
    have yl := (Array.getElem?_eq_some_iff.1 a3).1
    obtain ⟨i0,hi0⟩: ∃ i0,Hid (n.recs.countP (L5.leB k) = i0) := ⟨_,rfl⟩
    rw [hi0.out]
    have HB4 := thid (tbelow w3 (.cells #[.int .i64 (at_: Int), .bool false, .slice a n.recs.length c, .slice a' n.kids.length c', .int .i64 (i0: Int)] 104))
    go_wp2_with (first
     | (at_builtin
        revert HB4)
     | fail)
    intro HB4
    have hbw := tbelow_on (tbelow_on HB1.out HB3.out) HB4.out
    have hB0 := HBW.out.size
    have HW4 := thid (HW0.out.on hbw)
    have hjl := HJL.out
    refine append_step w.heap.size (Nat.le_trans hB0 hbw.size) rfl _ _ rfl u5 Ld.length (Ld.flatMap Lay.cells) [.int .i64 (at_: Int), .bool false, .slice a n.recs.length c, .slice a' n.kids.length c', .int .i64 (i0: Int)] rfl HW4.out.row (by omega) ⟨w3.heap.size,0,none⟩ 1 rfl rfl (fun i u hi => by
     rw [Addr.add_lit,cell_of_row _ _ _ _ _ _ (heap_alloc_new _ _)]
     simpa using hi) (by simp; exact ⟨rfl,rfl,rfl,rfl,rfl⟩) ?_
    intro v5 w5 hown hg
    have yr := L5.owns_below (L5.owns_below HR1.out HB3.out) HB4.out
    have yk := L5.owns_below (L5.owns_below HK1.out HB3.out) HB4.out
    have HW5 := thid (HW0.out.more (y0 := ⟨at_,n, .slice a n.recs.length c, .slice a' n.kids.length c',i0⟩) hbw hB0 rfl (by unfold Lay.cells nv; rw [hlf]; exact hown) hg yr yk)
    have a4 := (HB4.out.block _ yl).trans a3
    have a5: w5.heap[w1.heap.size]? = some (.cells #[.bool false, .slice a n.recs.length c, .slice a' n.kids.length c'] 69 (0,0)) := (hg.block _ (Nat.lt_of_lt_of_le yl HB4.out.size) (fun e => row_ne a4 HW4.out.row (by decide) e.symm)).trans a4
    have z2: w5.cell? ⟨w1.heap.size,2,none⟩ = some (.slice a' n.kids.length c') := by rw [cell_of_row _ _ _ _ _ _ a5]; rfl
    have zl := (Array.getElem?_eq_some_iff.1 a5).1
    have hnx := HNX.out
    rw [hi0.out] at hnx
    have hkl: i0 < n.kids.length := (List.getElem?_eq_some_iff.1 hnx).1
    have yk5 := (L5.owns_rd_slice (HW5.out.rk ⟨at_,n, .slice a n.recs.length c, .slice a' n.kids.length c',i0⟩ (by simp))).2.2 i0 (.int .i64 (at': Int)) (by simp [L5.ivs,hnx,L5.iv])
    obtain ⟨kb,ko,rfl,kbl,kbc⟩ := yk5
    have hB5: Hid (Below w.heap.size w w5) := by
     refine ⟨hg.os.trans (hbw.os.trans HBW.out.os),hg.tape.trans (hbw.tape.trans HBW.out.tape),hg.output.trans (hbw.output.trans HBW.out.output),Nat.le_trans hB0 (Nat.le_trans hbw.size hg.size),fun q hq => ?_⟩
     rw [hg.block q (Nat.lt_of_lt_of_le hq (Nat.le_trans hB0 hbw.size)) (fun e => by have := (HW4.out.row.lt q e.symm).1; omega),hbw.block q (Nat.lt_of_lt_of_le hq hB0)]
     exact HBW.out.block q hq
    have hkl': (i0: Int) < (n.kids.length: Int) := by omega
    clear hown hg yr yk a4 a5 a3 hbw HW4 HW0 HR1 HK1 HB1 HB3 HB4 y0 y1 y2 yl HBW
    go_wp2
    refine ⟨⟨j + 1,by omega,by go_num,at',Ld ++ [⟨at_,n, .slice a n.recs.length c, .slice (some ⟨kb,ko,none⟩) n.kids.length c',i0⟩],rest',rfl,⟨by simp [hjl], ?_, ?_,HW5.out,hB5.out⟩⟩,by simp [intOf]; omega⟩
    · rw [<- HPL.out,List.map_append,List.append_assoc]
      simp [Lay.pl,hi0.out]
    · rw [show h - (j + 1) = m + 1 by omega]
      exact HRS.out
  · have hlt': ((h - 1: Nat): Int) <= (j: Int) := by omega
    have hjh: j = h - 1 := by omega
    subst hjh
    obtain ⟨hl1,hl2,hl3,hl4,hl5⟩ := HI.out
    rw [show h - (h - 1) = 1 by omega] at hl3
    cases hl3 with
    | inner _ _ _ hr => exact absurd hr.pos.2 (by omega)
    | @leaf _ n hn hlf =>
    have HLD := thid (load_ok (L4.arSt.below HA.out hl5) HO.out (HT.out.on hl5) hn.page hn.shaped hn.size)
    rw [hlf] at HLD
    have HW0 := thid hl4
    have HBW := thid hl5
    have HPL := thid hl2
    have HJL := thid hl1
    clear hl1 hl2 hl4 hl5 HI hn
    go_wp2_with fail
    refine HLD.out.mono ?_
    rintro e w1 ⟨v,rfl,a,c,a',c',rfl,o1,o2,B1⟩
    have HO1 := thid o1
    have HO2 := thid o2
    have HB1 := thid B1
    unfold L5.nodeV
    clear HLD o1 o2 B1
    have HB2 := thid (tbelow w1 (.cells #[.int .i64 (at_: Int), .bool true, .slice a n.recs.length c, .slice a' n.kids.length c', .int .i64 0] 104))
    rw [hlf]
    go_wp2_with (first
     | (at_builtin
        revert HB2)
     | fail)
    intro HB2
    have hbw := tbelow_on HB1.out HB2.out
    have hB0 := HBW.out.size
    have HW4 := thid (HW0.out.on hbw)
    have hjl := HJL.out
    refine append_step w.heap.size (Nat.le_trans hB0 hbw.size) rfl _ _ rfl u5 Ld.length (Ld.flatMap Lay.cells) [.int .i64 (at_: Int), .bool true, .slice a n.recs.length c, .slice a' n.kids.length c', .int .i64 0] rfl HW4.out.row (by omega) ⟨w1.heap.size,0,none⟩ 1 rfl rfl (fun i u hi => by
     rw [Addr.add_lit,cell_of_row _ _ _ _ _ _ (heap_alloc_new _ _)]
     simpa using hi) (by simp; exact ⟨rfl,rfl,rfl,rfl,rfl⟩) ?_
    intro v5 w5 hown hg
    have HW5 := thid (HW0.out.more (y0 := ⟨at_,n, .slice a n.recs.length c, .slice a' n.kids.length c',0⟩) hbw hB0 rfl (by unfold Lay.cells nv; rw [hlf]; exact hown) hg (L5.owns_below HO1.out HB2.out) (L5.owns_below HO2.out HB2.out))
    have hB5: Hid (Below w.heap.size w w5) := by
     refine ⟨hg.os.trans (hbw.os.trans HBW.out.os),hg.tape.trans (hbw.tape.trans HBW.out.tape),hg.output.trans (hbw.output.trans HBW.out.output),Nat.le_trans hB0 (Nat.le_trans hbw.size hg.size),fun q hq => ?_⟩
     rw [hg.block q (Nat.lt_of_lt_of_le hq (Nat.le_trans hB0 hbw.size)) (fun e => by have := (HW4.out.row.lt q e.symm).1; omega),hbw.block q (Nat.lt_of_lt_of_le hq hB0)]
     exact HBW.out.block q hq
    clear hown hg hbw HW4 HW0 HO1 HO2 HB1 HB2 HBW
    go_wp2
    go_ret
    refine ⟨v5,Ld ++ [⟨at_,n, .slice a n.recs.length c, .slice a' n.kids.length c',0⟩],rfl, ?_,HW5.out,hB5.out⟩
    rw [<- HPL.out,List.map_append]
    rfl
end Go.Proofs.YtdnkbdjhccckhaaGreat
namespace Go.Proofs.YtdnkbdjhccckhaaGreat
open Go.RowKit
open L4 (Ar ArP Abs arV nv)
open L1 (stopped)
theorem insert_there_any {N: Nat} {s: Ar} {t x r h l: Nat} {k: ByteArray} {pre: List Pl} {y: Pl} {w: World} (hE: Es N s t x r h l r h l (.slice none 0 0) (.slice none 0 0) (.slice none 0 0) [] [] [] w) (ho: s.abs.Ok) (hp: Path s.abs k h r (pre ++ [y])) (hh: h <= 4096) (hsm: y.n.small) (hno: L5.isAt y.n.recs k (y.n.recs.countP (L5.ltB k)) = true) :
 Calls Tryz.prog 43 #[.pointer (some ⟨x,0,none⟩), .string k] w fun e w1 => e = .panicked (stopped 3 0) /\ Below w.heap.size w w1 := by
 have HE := thid hE
 obtain ⟨d0,d1,d2,d3,d4,d5,d6,dl,df⟩ := hE.ed.cells
 have HWY := thid (way_any hE.ar ho hE.tr hp hh)
 have HLN := thid hp.pos
 clear hE hp
 go_enter Tryz.func43,Tryz.ntmps43
 go_wp2_with fail
 refine HWY.out.mono ?_
 rintro e w1 ⟨v,Ld,rfl,hmap,hW,B1⟩
 have hLd: Ld.length = pre.length + 1 := by have := congrArg List.length hmap; simpa using this
 have hlast: Ld[pre.length]?.map Lay.pl = some y := by rw [<- List.getElem?_map,hmap]; simp
 obtain ⟨y0,hy0,hpl⟩ := Option.map_eq_some_iff.1 hlast
 obtain ⟨g,cap,hv,hg,g0,g1,g2,g3,g4⟩ := row5 hW.row (j := pre.length) (by omega)
 have hyy: Ld[pre.length] = y0 := by rw [List.getElem?_eq_getElem (by omega)] at hy0; exact Option.some.inj hy0
 rw [hyy] at g0 g1 g2 g3 g4
 have hmem: y0 ∈ Ld := List.mem_of_getElem? hy0
 have hny: y0.n = y.n := by rw [<- hpl]; rfl
 have hrr := hW.rr y0 hmem
 have hrk := hW.rk y0 hmem
 rw [<- hny] at hsm hno
 have HPO := thid HLN.out
 obtain ⟨cc,hcc⟩: ∃ cc,v = .slice (some ⟨g,0,none⟩) (pre.length + 1) cc := ⟨cap,by rw [hv,hLd]⟩
 subst hcc
 obtain ⟨a,c,er⟩ := own_slice hrr
 obtain ⟨a',c',ek⟩ := own_slice hrk
 rw [er] at g2 hrr
 rw [ek] at g3 hrk
 have HFN := thid (L5.find_walk (n := y0.n) (L5.NR.mk (L5.owns_rd_slice hrr) (L5.owns_rd_slice hrk)) hsm.recs k)
 rw [hno] at HFN
 unfold L5.nodeV at HFN
 have HB1 := thid B1
 have HE1 := thid (HE.out.below B1)
 have hml: pre.length + 1 <= 4096 := by have := HLN.out.1; simp at this; omega
 obtain ⟨m,hm⟩: ∃ m,Hid (pre.length = m) := ⟨_,rfl⟩
 rw [hm.out] at g0 g1 g2 g3 g4 hml ⊢
 clear HWY d0 d1 d2 d3 d4 d5 d6 dl df hmap hW B1 hLd hlast hy0 hpl hyy hmem hny hv er ek hrr hrk HPO HLN hno
 obtain ⟨d0,d1,d2,d3,d4,d5,d6,dl,df⟩ := HE1.out.ed.cells
 unfold nv at g0 g4
 have hs1: ((m: Int) + 1) - 1 = (m: Int) := by omega
 go_wp2_with fail
 refine HFN.out.mono ?_
 rintro e w2 ⟨rfl,B2⟩
 have HBB := thid (tbelow_on HB1.out B2)
 clear HFN HE1 HB1 HE B2 d0 d1 d2 d3 d4 d5 d6 dl df g0 g1 g2 g3 g4
 go_wp2_with fail
 refine (L1.check_no 3 (by decide) _).mono ?_
 rintro e w3 ⟨rfl,rfl⟩
 exact ⟨rfl,rfl,HBB.out⟩
theorem delete_absent_any {N: Nat} {s: Ar} {t x r h l: Nat} {k: ByteArray} {pre: List Pl} {y: Pl} {w: World} (hE: Es N s t x r h l r h l (.slice none 0 0) (.slice none 0 0) (.slice none 0 0) [] [] [] w) (ho: s.abs.Ok) (hp: Path s.abs k h r (pre ++ [y])) (hh: h <= 4096) (hsm: y.n.small) (hno: L5.isAt y.n.recs k (y.n.recs.countP (L5.ltB k)) = false) :
 Calls Tryz.prog 47 #[.pointer (some ⟨x,0,none⟩), .string k] w fun e w1 => e = .panicked (stopped 2 0) /\ Below w.heap.size w w1 := by
 have HE := thid hE
 obtain ⟨d0,d1,d2,d3,d4,d5,d6,dl,df⟩ := hE.ed.cells
 have HWY := thid (way_any hE.ar ho hE.tr hp hh)
 have HLN := thid hp.pos
 clear hE hp
 go_enter Tryz.func47,Tryz.ntmps47
 go_wp2_with fail
 refine HWY.out.mono ?_
 rintro e w1 ⟨v,Ld,rfl,hmap,hW,B1⟩
 have hLd: Ld.length = pre.length + 1 := by have := congrArg List.length hmap; simpa using this
 have hlast: Ld[pre.length]?.map Lay.pl = some y := by rw [<- List.getElem?_map,hmap]; simp
 obtain ⟨y0,hy0,hpl⟩ := Option.map_eq_some_iff.1 hlast
 obtain ⟨g,cap,hv,hg,g0,g1,g2,g3,g4⟩ := row5 hW.row (j := pre.length) (by omega)
 have hyy: Ld[pre.length] = y0 := by rw [List.getElem?_eq_getElem (by omega)] at hy0; exact Option.some.inj hy0
 rw [hyy] at g0 g1 g2 g3 g4
 have hmem: y0 ∈ Ld := List.mem_of_getElem? hy0
 have hny: y0.n = y.n := by rw [<- hpl]; rfl
 have hrr := hW.rr y0 hmem
 have hrk := hW.rk y0 hmem
 rw [<- hny] at hsm hno
 have HPO := thid HLN.out
 obtain ⟨cc,hcc⟩: ∃ cc,v = .slice (some ⟨g,0,none⟩) (pre.length + 1) cc := ⟨cap,by rw [hv,hLd]⟩
 subst hcc
 obtain ⟨a,c,er⟩ := own_slice hrr
 obtain ⟨a',c',ek⟩ := own_slice hrk
 rw [er] at g2 hrr
 rw [ek] at g3 hrk
 have HFN := thid (L5.find_walk (n := y0.n) (L5.NR.mk (L5.owns_rd_slice hrr) (L5.owns_rd_slice hrk)) hsm.recs k)
 rw [hno] at HFN
 unfold L5.nodeV at HFN
 have HB1 := thid B1
 have HE1 := thid (HE.out.below B1)
 have hml: pre.length + 1 <= 4096 := by have := HLN.out.1; simp at this; omega
 obtain ⟨m,hm⟩: ∃ m,Hid (pre.length = m) := ⟨_,rfl⟩
 rw [hm.out] at g0 g1 g2 g3 g4 hml ⊢
 clear HWY d0 d1 d2 d3 d4 d5 d6 dl df hmap hW B1 hLd hlast hy0 hpl hyy hmem hny hv er ek hrr hrk HPO HLN hno
 obtain ⟨d0,d1,d2,d3,d4,d5,d6,dl,df⟩ := HE1.out.ed.cells
 unfold nv at g0 g4
 have hs1: ((m: Int) + 1) - 1 = (m: Int) := by omega
 go_wp2_with fail
 refine HFN.out.mono ?_
 rintro e w2 ⟨rfl,B2⟩
 have HBB := thid (tbelow_on HB1.out B2)
 clear HFN HE1 HB1 HE B2 d0 d1 d2 d3 d4 d5 d6 dl df g0 g1 g2 g3 g4
 go_wp2_with fail
 refine (L1.check_no 2 (by decide) _).mono ?_
 rintro e w3 ⟨rfl,rfl⟩
 exact ⟨rfl,rfl,HBB.out⟩
theorem insert_quota_any {N: Nat} {s: Ar} {t x r h l: Nat} {k: ByteArray} {pre: List Pl} {y: Pl} {w: World} (hE: Es N s t x r h l r h l (.slice none 0 0) (.slice none 0 0) (.slice none 0 0) [] [] [] w) (ho: s.abs.Ok) (hp: Path s.abs k h r (pre ++ [y])) (hh: h <= 4096) (hsm: y.n.small) (hno: L5.isAt y.n.recs k (y.n.recs.countP (L5.ltB k)) = false) (hl: s.abs.left < h + 1) :
 Calls Tryz.prog 43 #[.pointer (some ⟨x,0,none⟩), .string k] w fun e w1 => e = .panicked (stopped 9 0) /\ Below w.heap.size w w1 := by
 have HE := thid hE
 obtain ⟨d0,d1,d2,d3,d4,d5,d6,dl,df⟩ := hE.ed.cells
 have HWY := thid (way_any hE.ar ho hE.tr hp hh)
 have HLN := thid hp.pos
 clear hE hp
 go_enter Tryz.func43,Tryz.ntmps43
 go_wp2_with fail
 refine HWY.out.mono ?_
 rintro e w1 ⟨v,Ld,rfl,hmap,hW,B1⟩
 have hLd: Ld.length = pre.length + 1 := by have := congrArg List.length hmap; simpa using this
 have hlast: Ld[pre.length]?.map Lay.pl = some y := by rw [<- List.getElem?_map,hmap]; simp
 obtain ⟨y0,hy0,hpl⟩ := Option.map_eq_some_iff.1 hlast
 obtain ⟨g,cap,hv,hg,g0,g1,g2,g3,g4⟩ := row5 hW.row (j := pre.length) (by omega)
 have hyy: Ld[pre.length] = y0 := by rw [List.getElem?_eq_getElem (by omega)] at hy0; exact Option.some.inj hy0
 rw [hyy] at g0 g1 g2 g3 g4
 have hmem: y0 ∈ Ld := List.mem_of_getElem? hy0
 have hny: y0.n = y.n := by rw [<- hpl]; rfl
 have hrr := hW.rr y0 hmem
 have hrk := hW.rk y0 hmem
 rw [<- hny] at hsm hno
 have HPO := thid HLN.out
 obtain ⟨cc,hcc⟩: ∃ cc,v = .slice (some ⟨g,0,none⟩) (pre.length + 1) cc := ⟨cap,by rw [hv,hLd]⟩
 subst hcc
 obtain ⟨a,c,er⟩ := own_slice hrr
 obtain ⟨a',c',ek⟩ := own_slice hrk
 rw [er] at g2 hrr
 rw [ek] at g3 hrk
 have HFN := thid (L5.find_walk (n := y0.n) (L5.NR.mk (L5.owns_rd_slice hrr) (L5.owns_rd_slice hrk)) hsm.recs k)
 rw [hno] at HFN
 unfold L5.nodeV at HFN
 have HB1 := thid B1
 have HE1 := thid (HE.out.below B1)
 have hml: pre.length + 1 <= 4096 := by have := HLN.out.1; simp at this; omega
 obtain ⟨m,hm⟩: ∃ m,Hid (pre.length = m) := ⟨_,rfl⟩
 rw [hm.out] at g0 g1 g2 g3 g4 hml ⊢
 clear HWY d0 d1 d2 d3 d4 d5 d6 dl df hmap hW B1 hLd hlast hy0 hpl hyy hmem hny hv er ek hrr hrk HPO HLN hno
 obtain ⟨d0,d1,d2,d3,d4,d5,d6,dl,df⟩ := HE1.out.ed.cells
 unfold nv at g0 g4
 have hs1: ((m: Int) + 1) - 1 = (m: Int) := by omega
 go_wp2_with fail
 refine HFN.out.mono ?_
 rintro e w2 ⟨rfl,B2⟩
 have HBB := thid (tbelow_on HB1.out B2)
 have HE2 := thid (HE1.out.below B2)
 clear HFN HE1 HB1 HE B2 d0 d1 d2 d3 d4 d5 d6 dl df g0 g1 g2 g3 g4
 have x0: ∀ q: L4.BelowW w2,q.w.cell? ⟨x,0,none⟩ = some (.pointer (some ⟨t,0,none⟩)) := fun q => (HE2.out.below q.below).ed.cells.1
 have x2: ∀ q: L4.BelowW w2,q.w.cell? ⟨x,2,none⟩ = some (.int .i64 (h: Int)) := fun q => (HE2.out.below q.below).ed.cells.2.2.1
 have y0: ∀ q: L4.BelowW w2,q.w.cell? ⟨t,0,none⟩ = some (.pointer (some ⟨s.p,0,none⟩)) := fun q => (HE2.out.below q.below).tr.cells.1
 have HL: ∀ q: L4.BelowW w2,Calls Tryz.prog 25 #[.pointer (some ⟨s.p,0,none⟩)] q.w fun e w' => e = .returned (.int .i64 (s.abs.left: Int)) /\ Below q.w.heap.size q.w w' := fun q => L4.left_walk (HE2.out.below q.below).ar ho
 have hl2: decide ((s.abs.left: Int) < (h: Int) + 1) = true := by simp; omega
 go_wp2_with fail
 refine L4.wp_region_below (by kernel_rfl) (by kernel_rfl) (fun _ => ?_)
 repeat (go_big_quiet_step (first | (go_at_call 25; exact L4.quiet_of_below (HL _))))
 refine wpQuiet_nil ?_
 rintro _ ⟨q,rfl⟩
 have HBB := thid (tbelow_on HBB.out q.below)
 generalize q.w = w3 at *
 clear x0 x2 y0 HL HE2 q
 go_wp2_with fail
 refine (L1.check_no 9 (by decide) _).mono ?_
 rintro e w4 ⟨rfl,rfl⟩
 exact ⟨rfl,rfl,HBB.out⟩
end Go.Proofs.YtdnkbdjhccckhaaGreat
namespace Go.Proofs.YtdnkbdjhccckhaaGreat
open Go.RowKit
open L4 (Ar ArP Abs arV nv)
structure WayL (w: World) (m b cp: Nat) (at_: Nat) (n: L5.No) (vr vk: Value) (kid: Nat): Prop where
 lt: b < w.heap.size
 cap: m + 1 <= cp
 c0: w.cell? ⟨b,m * 5,none⟩ = some (.int .i64 (at_: Int))
 c1: w.cell? ⟨b,m * 5 + 1,none⟩ = some (.bool n.leaf)
 c2: w.cell? ⟨b,m * 5 + 2,none⟩ = some vr
 c3: w.cell? ⟨b,m * 5 + 3,none⟩ = some vk
 c4: w.cell? ⟨b,m * 5 + 4,none⟩ = some (.int .i64 (kid: Int))
theorem WayL.on {w w': World} {m b cp at_: Nat} {n: L5.No} {vr vk: Value} {kid: Nat} (k: WayL w m b cp at_ n vr vk kid) (hb: Below w.heap.size w w'): WayL w' m b cp at_ n vr vk kid :=
 ⟨Nat.lt_of_lt_of_le k.lt hb.size,k.cap,(hb.cell k.lt).trans k.c0,(hb.cell k.lt).trans k.c1,(hb.cell k.lt).trans k.c2,(hb.cell k.lt).trans k.c3,(hb.cell k.lt).trans k.c4⟩
theorem parted_any {w: World} {m b cp at_ kid: Nat} {n: L5.No} {ra ka: Option Addr} {rc kc: Nat} (hm: m <= 4096) (k: WayL w m b cp at_ n (.slice ra n.recs.length rc) (.slice ka n.kids.length kc) kid) :
 Calls Tryz.prog 88 #[.slice (some ⟨b,0,none⟩) (m + 1) cp] w fun e w' => e = .returned (.tuple #[.slice (some ⟨b,0,none⟩) m cp, .agg #[.int .i64 (at_: Int), .bool n.leaf, .slice ra n.recs.length rc, .slice ka n.kids.length kc, .int .i64 (kid: Int)]]) /\ Below w.heap.size w w' := by
 have HB1 := thid (tbelow w (.cells #[.int .i64 0, .bool false, .slice none 0 0, .slice none 0 0, .int .i64 0] 104))
 obtain ⟨hb,hcp,c0,c1,c2,c3,c4⟩ := k.on HB1.out
 have hz: (w.alloc (.cells #[.int .i64 0, .bool false, .slice none 0 0, .slice none 0 0, .int .i64 0] 104)).heap[w.heap.size]? = some (.cells #[.int .i64 0, .bool false, .slice none 0 0, .slice none 0 0, .int .i64 0] 104 (0,0)) := heap_alloc_new _ _
 clear k
 have hs1: ((m: Int) + 1) - 1 = (m: Int) := by omega
 go_enter Tryz.func88,Tryz.ntmps88
 go_wp2_with fail
 generalize w.alloc (.cells #[.int .i64 0, .bool false, .slice none 0 0, .slice none 0 0, .int .i64 0] 104) = W at *
 refine wp_region_quiet_tail (fun w' => ∃ n,w' = World.drewN W n) 8 (by kernel_rfl) (by kernel_rfl) ⟨1,rfl⟩ ?_
 simp only [List.take_succ_cons,List.take_zero,List.drop_succ_cons,List.drop_zero]
 repeat (go_big_quiet_step (fail))
 refine wpQuiet_nil ?_
 rintro _ ⟨nq,rfl⟩
 have HB2 := thid (HB1.out.trans ((below_drewN (Below.refl _ _) nq: Below W.heap.size W (World.drewN W nq)).mono HB1.out.size))
 have hz2: (World.drewN W nq).heap[w.heap.size]? = some (.cells #[.int .i64 0, .bool false, .slice none 0 0, .slice none 0 0, .int .i64 0] 104 (0,0)) := ((below_drewN (Below.refl _ _) nq: Below W.heap.size W (World.drewN W nq)).block _ (Array.getElem?_eq_some_iff.1 hz).1).trans hz
 clear c0 c1 c2 c3 c4 hb hz HB1
 generalize World.drewN W nq = V at *
 have z0: V.cell? ⟨w.heap.size,0,none⟩ = some (.int .i64 0) := by rw [cell_of_row _ _ _ _ _ _ hz2]; rfl
 have z1: V.cell? ⟨w.heap.size,1,none⟩ = some (.bool false) := by rw [cell_of_row _ _ _ _ _ _ hz2]; rfl
 have z2: V.cell? ⟨w.heap.size,2,none⟩ = some (.slice none 0 0) := by rw [cell_of_row _ _ _ _ _ _ hz2]; rfl
 have z3: V.cell? ⟨w.heap.size,3,none⟩ = some (.slice none 0 0) := by rw [cell_of_row _ _ _ _ _ _ hz2]; rfl
 have z4: V.cell? ⟨w.heap.size,4,none⟩ = some (.int .i64 0) := by rw [cell_of_row _ _ _ _ _ _ hz2]; rfl
 have zf: ∀ i,V.frozen? ⟨w.heap.size,i,none⟩ = false := fun i => frozen_of_row _ _ _ _ _ hz2
 go_wp2
 refine bodyPost_ret (v := .tuple #[.slice (some ⟨b,0,none⟩) m cp, .agg #[.int .i64 (at_: Int), .bool n.leaf, .slice ra n.recs.length rc, .slice ka n.kids.length kc, .int .i64 (kid: Int)]]) (by simp [results,Tryz.results88,go_sem,z0,z1,z2,z3,z4]) rfl ⟨rfl, ?_⟩
 exact ((((HB2.out.setCell (Nat.le_refl _) _).setCell (Nat.le_refl _) _).setCell (Nat.le_refl _) _).setCell (Nat.le_refl _) _).setCell (Nat.le_refl _) _
theorem grow_fit_any {B: Nat} {s: Ar} {t x r h l xr xh xl: Nat} {tk ld gn: Value} {T: List Nat} {Ld: List Lay} {G: List Nat} {w: World} (k: Es B s t x r h l xr xh xl tk ld gn T Ld G w) (hL: Ld.length <= 10000) {n: L5.No} {at_ m b cp kid: Nat} {ra ka: Option Addr} {rc kc: Nat} (hm: m <= 4096) (hw: WayL w m b cp at_ n (.slice ra n.recs.length rc) (.slice ka n.kids.length kc) kid)
 (yr: w.ownsRow B 9 1 (.slice ra n.recs.length rc) n.recs.length (L5.svs n.recs)) (yk: w.ownsRow B 3 1 (.slice ka n.kids.length kc) n.kids.length (L5.ivs n.kids)) (b1: ∀ q,s.own q -> (Value.slice ka n.kids.length kc).ownBlock ≠ some q) (b2: ∀ q,tk.ownBlock = some q -> (Value.slice ka n.kids.length kc).ownBlock ≠ some q) (b3: ∀ q,gn.ownBlock = some q -> (Value.slice ka n.kids.length kc).ownBlock ≠ some q) (hs: n.small) (hz: n.size <= 1024) :
 Calls Tryz.prog 66 #[.pointer (some ⟨x,0,none⟩), .slice (some ⟨b,0,none⟩) (m + 1) cp] w fun e w' => e = .returned (.tuple #[]) /\ ∃ ld',Es B s t x r h l xr xh xl tk ld' gn T (Ld ++ [⟨at_,n, .slice ra n.recs.length rc, .slice ka n.kids.length kc,0⟩]) G w' /\ Stp B s s t x w w' := by
 have HK := thid k
 have HW := thid hw
 have HR := thid yr
 have HKK := thid yk
 clear k hw yr yk
 go_enter Tryz.func66,Tryz.ntmps66
 go_wp2_with fail
 refine (parted_any hm HW.out).mono ?_
 rintro e w1 ⟨rfl,hb1⟩
 have HB1 := thid hb1
 clear hb1
 have HA1 := thid (tbelow w1 (.cells #[.int .i64 (at_: Int), .bool n.leaf, .slice ra n.recs.length rc, .slice ka n.kids.length kc, .int .i64 (kid: Int)] 104))
 have a1: (w1.alloc (.cells #[.int .i64 (at_: Int), .bool n.leaf, .slice ra n.recs.length rc, .slice ka n.kids.length kc, .int .i64 (kid: Int)] 104)).heap[w1.heap.size]? = some (.cells #[.int .i64 (at_: Int), .bool n.leaf, .slice ra n.recs.length rc, .slice ka n.kids.length kc, .int .i64 (kid: Int)] 104 (0,0)) := heap_alloc_new _ _
 have HB2 := thid (tbelow_on HB1.out HA1.out)
 go_wp2_with fail
 generalize w1.alloc (.cells #[.int .i64 (at_: Int), .bool n.leaf, .slice ra n.recs.length rc, .slice ka n.kids.length kc, .int .i64 (kid: Int)] 104) = W1 at *
 refine (L5.size_walk (n := n) (L5.NR.mk (L5.owns_rd_slice (L5.owns_below HR.out HB2.out)) (L5.owns_rd_slice (L5.owns_below HKK.out HB2.out))) hs).mono ?_
 rintro e w2 ⟨rfl,hb2⟩
 have HB3 := thid (tbelow_on HB2.out hb2)
 have a2: w2.heap[w1.heap.size]? = some (.cells #[.int .i64 (at_: Int), .bool n.leaf, .slice ra n.recs.length rc, .slice ka n.kids.length kc, .int .i64 (kid: Int)] 104 (0,0)) := (hb2.block _ (Array.getElem?_eq_some_iff.1 a1).1).trans a1
 clear hb2 a1 HA1 HB1 HB2
 have la: w1.heap.size < w2.heap.size := (Array.getElem?_eq_some_iff.1 a2).1
 have z0: w2.cell? ⟨w1.heap.size,0,none⟩ = some (.int .i64 (at_: Int)) := by rw [cell_of_row _ _ _ _ _ _ a2]; rfl
 have z1: w2.cell? ⟨w1.heap.size,1,none⟩ = some (.bool n.leaf) := by rw [cell_of_row _ _ _ _ _ _ a2]; rfl
 have z2: w2.cell? ⟨w1.heap.size,2,none⟩ = some (.slice ra n.recs.length rc) := by rw [cell_of_row _ _ _ _ _ _ a2]; rfl
 have z3: w2.cell? ⟨w1.heap.size,3,none⟩ = some (.slice ka n.kids.length kc) := by rw [cell_of_row _ _ _ _ _ _ a2]; rfl
 have z4: w2.cell? ⟨w1.heap.size,4,none⟩ = some (.int .i64 (kid: Int)) := by rw [cell_of_row _ _ _ _ _ _ a2]; rfl
 have hzb: ((n.size: Int) <= 1024) := by omega
 have HK2 := thid (HK.out.below HB3.out)
 have HR2 := thid (L5.owns_below HR.out HB3.out)
 have HKK2 := thid (L5.owns_below HKK.out HB3.out)
 clear HK HR HKK HW a2
 go_wp2_with fail
 refine (put_ok HK2.out hL HR2.out HKK2.out b1 b2 b3).mono ?_
 rintro e w3 ⟨rfl,ld',hE,hS⟩
 have HF: Hid (∃ ld',Es B s t x r h l xr xh xl tk ld' gn T (Ld ++ [⟨at_,n, .slice ra n.recs.length rc, .slice ka n.kids.length kc,0⟩]) G w3 /\ Stp B s s t x w w3) := ⟨ld',hE,(Stp.below HB3.out).trans hS⟩
 clear hE hS HB3 HK2 HR2 HKK2 z0 z1 z2 z3 z4 la
 go_wp2
 refine bodyPost_ret (v := .tuple #[]) (by simp [results,Tryz.results66,go_sem]) rfl ⟨rfl,HF.out⟩
end Go.Proofs.YtdnkbdjhccckhaaGreat
