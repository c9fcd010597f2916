import Derived.Test.YtdnkbdjhccckhaaGreatMBO
import Derived.Test.YtdnkbdjhccckhaaGreatMBT
import Derived.Test.YtdnkbdjhccckhaaGreatMBS
set_option maxRecDepth 100000
set_option maxHeartbeats 4000000
namespace Go.Proofs.YtdnkbdjhccckhaaGreat
open Go.RowKit
open L4 (Ar ArP Abs arV nv)
open L5 (ltP ltB leB)
theorem shape_walk {a: Abs} {l: List (Nat × List UInt8)} {ad: Option Addr} {lc: Nat} (hP: PgOf a l) (hll: l.length <= 5000): ∀ (h d: Nat),h <= d -> d <= 30 -> ∀ (c: Nat) (lo hi: ByteArray) (es: List ByteArray) (ps: List Nat) (W: World),Sub a h c lo hi es ps -> es.length <= 1000 -> ps.length <= 5000 -> Rw.SlG pgC 2 W ad l -> Calls Tryz.prog 34 #[.slice ad l.length lc, .int .i64 (c: Int), .string lo, .string hi, .int .i64 (d: Int)] W fun e W' => ShpR W h es ps e W' := by
 intro h
 induction h with
 | zero => intro d _ _ c lo hi es ps W k; exact k.elim
 | succ h ih =>
  intro d h1 h2 c lo hi es ps W k h3 h4 hS
  obtain ⟨n,ps',hn,rfl,hb⟩ := k
  obtain ⟨d',rfl⟩: ∃ d',d = d' + 1 := ⟨d - 1,by omega⟩
  simp at h4
  exact shape_step hS hP hll hn (by omega) hb h3 (by omega) (by omega) (ih d' (by omega) (by omega))
def pgL (a: Abs): List (Nat × List UInt8) := a.pages.map fun n => (n,(a.at (n: Int)).getD [])
theorem mem_pages {a: Abs} {n: Nat}: n ∈ a.pages ↔ ∃ c,a.at (n: Int) = some c := by
 unfold L4.Abs.pages L4.upto
 rw [List.mem_map]
 constructor
 · rintro ⟨i,hi,rfl⟩
   obtain ⟨_,h2⟩ := List.mem_filter.1 hi
   obtain ⟨c,hc⟩ := Option.isSome_iff_exists.1 h2
   refine ⟨c, ?_⟩
   rw [at_nat,if_pos (by omega)]
   exact hc
 · rintro ⟨c,hc⟩
   have h1 := at_pos hc
   rw [at_nat,if_pos h1] at hc
   refine ⟨n - 1,List.mem_filter.2 ⟨?_,by rw [hc]; rfl⟩,by omega⟩
   rw [List.mem_range]
   rcases Nat.lt_or_ge (n - 1) a.pg.length with e | e
   · exact e
   · rw [List.getElem?_eq_none e] at hc; cases hc
theorem pgL_of (a: Abs): PgOf a (pgL a) := by
 refine ⟨fun x hx => ?_,fun p c hc => ?_⟩
 · obtain ⟨n,hn,rfl⟩ := List.mem_map.1 hx
   obtain ⟨c,hc⟩ := mem_pages.1 hn
   simp [hc]
 · exact ⟨_,List.mem_map.2 ⟨p,mem_pages.2 ⟨c,hc⟩,rfl⟩,rfl⟩
theorem insS_perm (l: List Nat) (x: Nat): (insS l x).Perm (x :: l) := by
 unfold insS
 rw [List.append_assoc,List.singleton_append]
 refine (List.perm_middle).trans ?_
 rw [List.take_append_drop]
theorem insS_sorted {l: List Nat} (h: l.Pairwise (· <= ·)) (x: Nat): (insS l x).Pairwise (· <= ·) := by
 induction l with
 | nil => simp [insS,cutS]
 | cons y l ih =>
  rw [List.pairwise_cons] at h
  by_cases hy: y < x
  · have e: insS (y :: l) x = y :: insS l x := by
     unfold insS cutS
     rw [List.takeWhile_cons_of_pos (by simpa using hy)]
     rfl
    rw [e,List.pairwise_cons]
    refine ⟨fun z hz => ?_,ih h.2⟩
    rcases List.mem_cons.1 ((insS_perm l x).mem_iff.1 hz) with rfl | hz
    · omega
    · exact h.1 z hz
  · have e: insS (y :: l) x = x :: y :: l := by
     unfold insS cutS
     rw [List.takeWhile_cons_of_neg (by simpa using hy)]
     rfl
    rw [e,List.pairwise_cons,List.pairwise_cons]
    refine ⟨fun z hz => ?_,h⟩
    rcases List.mem_cons.1 hz with rfl | hz
    · omega
    · have := h.1 z hz; omega
theorem fold_ins: ∀ (l acc: List Nat),acc.Pairwise (· <= ·) -> (l.foldl insS acc).Pairwise (· <= ·) /\ (l.foldl insS acc).Perm (l ++ acc) := by
 intro l
 induction l with
 | nil => intro acc h; exact ⟨h,List.Perm.refl _⟩
 | cons x l ih =>
  intro acc h
  obtain ⟨h1,h2⟩ := ih (insS acc x) (insS_sorted h x)
  refine ⟨h1,h2.trans ?_⟩
  refine ((List.Perm.refl l).append (insS_perm acc x)).trans ?_
  exact List.perm_middle
theorem insAll_sortP (ps: List Nat): sortP ps = (insAll ps).map fun n: Nat => (n: Int) := by
 obtain ⟨h1,h2⟩ := fold_ins ps [] List.Pairwise.nil
 rw [List.append_nil] at h2
 unfold sortP
 refine List.Perm.eq_of_pairwise (le := fun x y => (x: Int) <= y) (fun a b _ _ g1 g2 => by omega) ?_ ?_ ((List.mergeSort_perm _ _).trans (h2.map _).symm)
 · have := List.pairwise_mergeSort (le := fun x y: Int => decide (x <= y)) (fun a b c g1 g2 => by simp at *; omega) (fun a b => by simp; omega) (ps.map fun n: Nat => (n: Int))
   exact this.imp fun h => by simpa using h
 · exact List.pairwise_map.2 (h1.imp fun h => by omega)
theorem pgC_len (x: Nat × List UInt8): (pgC x).length = 2 := rfl
theorem pgC_one: ∀ (x: Nat × List UInt8),∀ u ∈ pgC x,u.oneCell' = true := fun x u hu => by
 simp [pgC] at hu
 rcases hu with rfl | rfl <;> rfl
theorem infoPg: (Tryz.prog.info? 85).map (fun i => (i.zero,i.size,i.bytes)) = some (some (.agg #[.int .i64 0, .string ⟨#[]⟩]),2,24) := by kernel_rfl
structure PgA (w: World) (a: Abs) (v: Value) (j: Nat) (nvl: Value) (W: World): Prop where
 bel: Below w.heap.size w W
 row: W.ownsRow w.heap.size 85 2 v j (Rw.flat pgC ((pgL a).take j))
 num: L4.IS w.heap.size W nvl a.pages
theorem PgA.on {w W W': World} {a: Abs} {v nvl: Value} {j: Nat} (k: PgA w a v j nvl W) (hb: Below W.heap.size W W'): PgA w a v j nvl W' := ⟨tbelow_on k.bel hb,Rw.owns_on k.row hb,L4.IS.below k.num hb⟩
theorem PgA.grow {w W W': World} {a: Abs} {v v' nvl: Value} {j: Nat} (k: PgA w a v j nvl W) {x: Nat × List UInt8} (hx: (pgL a)[j]? = some x) (hg: W.grownBy W' v.ownBlock) (ho: W'.ownsRow w.heap.size 85 2 v' (j + 1) (Rw.flat pgC ((pgL a).take j) ++ pgC x)): PgA w a v' (j + 1) nvl W' := by
 refine ⟨⟨hg.os.trans k.bel.os,hg.tape.trans k.bel.tape,hg.output.trans k.bel.output,Nat.le_trans k.bel.size hg.size,fun g hgl => ?_⟩, ?_, ?_⟩
 · rw [hg.block g (Nat.lt_of_lt_of_le hgl k.bel.size) fun e => by have := (k.row.lt g e.symm).1; omega]
   exact k.bel.block g hgl
 · have e: Rw.flat pgC ((pgL a).take (j + 1)) = Rw.flat pgC ((pgL a).take j) ++ pgC x := by
    rw [List.take_add_one,hx,Rw.flat_append]
    simp [Rw.flat]
   rw [e]
   exact ho
 · exact L5.owns_of_block k.num fun g hgr => hg.block g (World.ownsRow.lt k.num g hgr).2 fun e => Rw.owns_ne k.row k.num (by decide) e.symm hgr
theorem shaped_walk {s: Ar} {t r h: Nat} {es: List ByteArray} {ps: List Nat} {wa: Option Addr} {wc: Nat} {w: World} (hT: TW s t r h es ps w) (hR: Ruly s.abs r ps) (hh: h <= 30) (hes: es.length <= 1000) (hW: L5.Rd w wa wc (L5.svs es)) :
 Calls Tryz.prog 13 #[arV s.p, .pointer (some ⟨t,0,none⟩), .slice wa es.length wc] w fun e W => e = .returned (.bool true) /\ Below w.heap.size w W := by
 have HT := thid hT
 have HR := thid hR
 have HW := thid hW
 have hok := hT.ok
 have hpl: ps.length <= 4096 := pages_le hok hT.tp.nodup fun p hp => hT.tp.sub.pages p hp
 have hgl: s.abs.pages.length <= 4096 := Nat.le_trans (L4.upto_length _ _) hok.small
 have HPG := thid (L4.pages_walk hT.ar hok)
 unfold arV at HPG
 unfold arV
 clear hT hR hW
 go_enter Tryz.func13,Tryz.ntmps13
 go_wp2_with fail
 refine HPG.out.mono ?_
 rintro e w1 ⟨v1,rfl,i1,b1⟩
 obtain ⟨na,nc,rfl⟩ := Rw.owns_slice i1
 have HA: Hid (PgA w s.abs (.slice none 0 0) 0 (.slice na s.abs.pages.length nc) w1) := ⟨b1,⟨rfl,Or.inl ⟨rfl,rfl⟩⟩,i1⟩
 clear HPG i1 b1
 go_wp2_with fail
 go_loopw [7,23] (fun lv iv wx => ∃ (j: Nat) (la: Option Addr) (lc: Nat),j <= s.abs.pages.length /\ iv = .int .i64 (j: Int) /\ lv = .slice la j lc /\ Hid (PgA w s.abs (.slice la j lc) j (.slice na s.abs.pages.length nc) wx)) (fun _ i _ => s.abs.pages.length - (intOf i).toNat)
 case atStart => exact ⟨0,none,0,Nat.zero_le _,rfl,rfl,HA.out⟩
 case round =>
  clear HA
  obtain ⟨j,la,lc,hj,rfl,rfl,HA⟩ := hrel
  by_cases hlt: j < s.abs.pages.length
  · have hlt': (j: Int) < (s.abs.pages.length: Int) := by omega
    obtain ⟨n,hn⟩: ∃ n,s.abs.pages[j]? = some n := ⟨_,List.getElem?_eq_getElem hlt⟩
    obtain ⟨c,hc⟩ := mem_pages.1 (List.mem_of_getElem? hn)
    obtain ⟨nb,no,rfl,nl,nc0⟩ := (L5.owns_rd_slice HA.out.num).2.2 j (.int .i64 (n: Int)) (by simp [nv,hn])
    have HX := thid (show (pgL s.abs)[j]? = some (n,c) by unfold pgL; rw [List.getElem?_map,hn]; simp [hc])
    have HLD := thid (L4.load_blk (L4.arSt.below HT.out.ar HA.out.bel) hok hc)
    unfold arV at HLD
    have hcl: c.length = 1024 := hok.len c (List.mem_of_getElem? (L4.Abs.at_some hc).2.2)
    clear hn hc
    go_wp2_with fail
    refine HLD.out.mono ?_
    rintro e w2 ⟨rfl,k2,b2⟩
    have HA2 := thid (HA.out.on b2)
    have HK2: Hid (L5.RBlk w2 wr.heap.size c) := k2
    have hcv := L5.conv_rblk HK2.out 0 1024 1024 (by omega)
    rw [L5.cut_all _ hcl] at hcv
    clear HLD HA k2 b2 nl nc0
    go_wp2_with (first
     | (at_builtin
        revert HA2)
     | fail)
    intro HA2
    have HA3 := thid (HA2.out.on (tbelow w2 (.cells #[.int .i64 (n: Int), .string ⟨c.toArray⟩] 85)))
    have HSR := thid (Rw.src_new w2 (pgC (n,c)) 85 1 1 (q := w2.heap.size) rfl)
    refine Rw.append_src (P := Tryz.prog) Tryz.underlying79 infoPg rfl (by decide) (by decide) rfl _ _ rfl w.heap.size HA3.out.bel.size (.slice la j lc) j (Rw.flat pgC ((pgL s.abs).take j)) rfl HA3.out.row (some ⟨w2.heap.size,0,none⟩) 1 1 (pgC (n,c)) rfl HSR.out rfl (pgC_one _) (by omega) ?_
    intro v4 w4 hown hg hat
    have HA4 := thid (HA3.out.grow HX.out hg hown)
    obtain ⟨la4,lc4,rfl⟩ := Rw.owns_slice hown
    clear hown hg hat HA2 HA3 HSR hcv HK2 HX
    go_wp2
    go_roundw
    case rel => exact ⟨j + 1,la4,lc4,hlt,by go_num,rfl,HA4⟩
    case measure => simp [intOf]; omega
  · have hlt': ¬ (j: Int) < (s.abs.pages.length: Int) := by omega
    have hjl: j = s.abs.pages.length := by omega
    have hpl2: (pgL s.abs).length = s.abs.pages.length := by unfold pgL; rw [List.length_map]
    subst hjl
    have HSL := thid (Rw.owns_slg pgC_len (by decide) HA.out.row).2.1
    rw [List.take_of_length_le (by omega)] at HSL
    have HT1 := thid (HT.out.on HA.out.bel)
    have HW1 := thid (HW.out.below HA.out.bel)
    have HB1 := thid HA.out.bel
    clear HA HT HW
    go_wp2_with fail
    refine (root_ok HT1.out.tr).mono ?_
    rintro e w2 ⟨rfl,b2⟩
    have HT2 := thid (HT1.out.on b2)
    have HW2 := thid (HW1.out.below b2)
    have HSL2 := thid (HSL.out.below b2)
    have HB2 := thid (tbelow_on HB1.out b2)
    clear HT1 HW1 HSL HB1 b2
    have HSH := thid (shape_walk (lc := lc) (pgL_of s.abs) (by omega) h 30 hh (Nat.le_refl _) r e0 e0 es ps w2 HT2.out.tp.sub hes (by omega) HSL2.out)
    rw [hpl2] at HSH
    unfold e0 at HSH
    go_wp2_with fail
    refine HSH.out.mono ?_
    rintro e w3 ⟨a3,c3,pa3,pc3,rfl,o3,p3,b3⟩
    have HT3 := thid (HT2.out.on b3)
    have HW3 := thid (HW2.out.below b3)
    have HB3 := thid (tbelow_on HB2.out b3)
    have HO3 := thid o3
    have HP3 := thid p3
    clear HT2 HW2 HB2 HSL2 HSH o3 p3 b3
    have HSM := thid (same_strs (L5.owns_rd_slice HO3.out) HW3.out (by omega))
    go_wp2_with fail
    refine HSM.out.mono ?_
    rintro e w4 ⟨rfl,b4⟩
    have HT4 := thid (HT3.out.on b4)
    have HP4 := thid (L4.IS.below HP3.out b4)
    have HB4 := thid (tbelow_on HB3.out b4)
    clear HT3 HW3 HB3 HO3 HP3 HSM b4
    go_wp2_with fail
    refine (height_ok HT4.out.tr).mono ?_
    rintro e w5 ⟨rfl,b5⟩
    have HT5 := thid (HT4.out.on b5)
    have HP5 := thid (L4.IS.below HP4.out b5)
    have HB5 := thid (tbelow_on HB4.out b5)
    have hhh: ((h: Int) != (h: Int)) = false := by simp
    clear HT4 HP4 HB4 b5
    go_wp2_with fail
    refine (sorted_walk HP5.out (by omega)).mono ?_
    rintro e w6 ⟨a6,c6,rfl,i6,b6⟩
    have HT6 := thid (HT5.out.on b6)
    have HI6 := thid i6
    have HB6 := thid (tbelow_on HB5.out b6)
    clear HT5 HP5 HB5 b6 i6
    go_wp2_with fail
    refine (tpages_any HT6.out (by omega)).mono ?_
    rintro e w7 ⟨a7,c7,rfl,o7,b7⟩
    have HT7 := thid (HT6.out.on b7)
    have HI7 := thid (L4.IS.below HI6.out b7)
    have HB7 := thid (tbelow_on HB6.out b7)
    have hil := insAll_len ps
    have HO7: Hid (L4.IS w6.heap.size w7 (.slice a7 ps.length c7) (insAll ps)) := by
     rw [insAll_sortP] at o7
     unfold L4.IS
     rw [hil]
     unfold L5.ivs at o7
     rw [List.map_map] at o7
     exact o7
    have HSM := thid (L4.same_walk HI7.out HO7.out (by rw [hil]; omega))
    clear HT6 HI6 HB6 o7 b7 HI7 HO7
    go_wp2_with fail
    refine HSM.out.mono ?_
    rintro e w8 ⟨rfl,b8⟩
    have HT8 := thid (HT7.out.on b8)
    have HB8 := thid (tbelow_on HB7.out b8)
    clear HT7 HB7 HSM b8
    by_cases hone: h = 1
    · have hone': ((h: Int) == 1) = true := by rw [hone]; rfl
      clear HR HT8
      go_wp2
      go_ret
      exact ⟨rfl,HB8.out⟩
    · have hone': ((h: Int) == 1) = false := by rw [beq_eq_false_iff_ne]; omega
      obtain ⟨h',rfl⟩: ∃ h',h = h' + 1 := ⟨h - 1,by have := (HT8.out.tp.tall hok).2.1; omega⟩
      obtain ⟨n,ps',hn,e2,hb,hc⟩ := HT8.out.tp.sub
      have hlf: n.leaf = false := by
       rcases hc with ⟨h0,_⟩ | ⟨_,h1,_⟩
       · omega
       · exact h1
      have hrk := HR.out.root n hn
      have hkl := (shaped_kids hn.shaped hlf).2
      have hrl: 1 <= n.recs.length := by omega
      have hrl': (0: Int) < (n.recs.length: Int) := by omega
      obtain ⟨hpo,hraw⟩ := L5.raw_page hn.shaped hn.size
      have HLN := thid (page_len hn.size)
      have HN := thid hn
      clear hb hc hrk e2 hn HR
      go_wp2_with fail
      refine (root_ok HT8.out.tr).mono ?_
      rintro e w9 ⟨rfl,b9⟩
      have HT9 := thid (HT8.out.on b9)
      have HB9 := thid (tbelow_on HB8.out b9)
      clear HT8 HB8 b9
      have HLD := thid (L4.load_blk HT9.out.ar hok HN.out.page)
      unfold arV at HLD
      go_wp2_with fail
      refine HLD.out.mono ?_
      rintro e w10 ⟨rfl,k10,b10⟩
      have HK: Hid (L5.RBlk w10 w9.heap.size (L5.pageL n.toNd)) := k10
      have HB10 := thid (tbelow_on HB9.out b10)
      clear HT9 HB9 b10 k10 HLD
      have HRD := thid (L5.readg_walk HK.out.g HLN.out (C := 1024) (Nat.le_refl _) (by omega))
      go_wp2_with fail
      refine HRD.out.mono ?_
      rintro e w11 ⟨b11,⟨_,rv,kv,rfl,o1,o2⟩ | ⟨hno,_⟩⟩
      · rw [hraw] at o1
        have n1: L5.cntL (L5.pageL n.toNd) = n.recs.length := by have := o1.1; simp [L5.svs] at this; omega
        rw [n1] at o1
        obtain ⟨ra,rc,rfl⟩ := Rw.owns_slice o1
        obtain ⟨ka,kc,rfl⟩ := Rw.owns_slice o2
        have HBF := thid (tbelow_on HB10.out b11)
        clear o1 o2 HRD HK HB10 b11 hraw hpo
        generalize L5.leafB (L5.pageL n.toNd) = lf at *
        have HBG := thid (tbelow_on HBF.out (tbelow w11 (.cells #[.bool lf, .slice ra n.recs.length rc, .slice ka (L5.kidN (L5.pageL n.toNd)) kc] 91)))
        generalize L5.kidN (L5.pageL n.toNd) = kn at *
        have hdec: decide (0 < n.recs.length) = true := decide_eq_true hrl
        go_wp2
        go_ret
        exact ⟨rfl,HBG.out⟩
      · exact absurd hpo hno
end Go.Proofs.YtdnkbdjhccckhaaGreat
