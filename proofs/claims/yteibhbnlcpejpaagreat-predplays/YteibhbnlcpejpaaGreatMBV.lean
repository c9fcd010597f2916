import Derived.Test.YteibhbnlcpejpaaGreatMBM
set_option maxRecDepth 100000
set_option maxHeartbeats 4000000
namespace Go.Proofs.YteibhbnlcpejpaaGreat
open Go.RowKit
def outB (b: Bd) (n: Int): Bool := b.has && (decide (0 < n) || (n == 0 && !b.incl))
theorem outB_lets (b: Bd) (n: Int): letsB b (-n) = !outB b n := by
 obtain ⟨h,i,v⟩ := b
 show (!h || decide (0 < -n) || (-n == 0 && i)) = !(h && (decide (0 < n) || (n == 0 && !i)))
 rcases Int.lt_trichotomy n 0 with h1 | rfl | h1
 · rw [decide_eq_false (show ¬ 0 < n by omega),beq_eq_false_iff_ne.2 (show n ≠ 0 by omega),decide_eq_true (show 0 < -n by omega),beq_eq_false_iff_ne.2 (show -n ≠ 0 by omega)]
   cases h <;> cases i <;> rfl
 · cases h <;> cases i <;> rfl
 · rw [decide_eq_true h1,beq_eq_false_iff_ne.2 (show n ≠ 0 by omega),decide_eq_false (show ¬ 0 < -n by omega),beq_eq_false_iff_ne.2 (show -n ≠ 0 by omega)]
   cases h <;> cases i <;> rfl
theorem inB_out (lo hi: Bd) (v: Vv): inB lo hi v = (!outB lo (ordV lo.v v) && !outB hi (ordV v hi.v)) := by
 unfold inB
 rw [ordV_swap lo.v v,ordV_swap v hi.v,outB_lets,outB_lets]
theorem bt_boxes (w: World) (lh li: Bool) (lk ln: Int) (ls: ByteArray) (hh hi: Bool) (hk hn: Int) (hs: ByteArray) (vk vn: Int) (vs: ByteArray) (w1: World) (hb: Below (((w.alloc (.cells #[.bool lh, .bool li, .int .i64 lk, .int .i64 ln, .string ls] 178)).alloc (.cells #[.bool hh, .bool hi, .int .i64 hk, .int .i64 hn, .string hs] 178)).alloc (.cells #[.int .i64 vk, .int .i64 vn, .string vs] 27)).heap.size (((w.alloc (.cells #[.bool lh, .bool li, .int .i64 lk, .int .i64 ln, .string ls] 178)).alloc (.cells #[.bool hh, .bool hi, .int .i64 hk, .int .i64 hn, .string hs] 178)).alloc (.cells #[.int .i64 vk, .int .i64 vn, .string vs] 27)) w1) :
 Below w.heap.size w w1 /\ w1.cell? ⟨w.heap.size,0,none⟩ = some (.bool lh) /\ w1.cell? ⟨w.heap.size,1,none⟩ = some (.bool li) /\ w1.cell? ⟨w.heap.size + 1,0,none⟩ = some (.bool hh) /\ w1.cell? ⟨w.heap.size + 1,1,none⟩ = some (.bool hi) /\ w1.cell? ⟨w.heap.size + 1,2,none⟩ = some (.int .i64 hk) /\ w1.cell? ⟨w.heap.size + 1,3,none⟩ = some (.int .i64 hn) /\ w1.cell? ⟨w.heap.size + 1,4,none⟩ = some (.string hs) /\ w1.cell? ⟨w.heap.size + 1 + 1,0,none⟩ = some (.int .i64 vk) /\ w1.cell? ⟨w.heap.size + 1 + 1,1,none⟩ = some (.int .i64 vn) /\ w1.cell? ⟨w.heap.size + 1 + 1,2,none⟩ = some (.string vs) /\ w.heap.size + 3 <= w1.heap.size := by
 have hl := (hb.block w.heap.size (by simp; omega)).trans ((Below.heap_alloc _ _ _ (by simp; omega)).trans ((Below.heap_alloc _ _ _ (by simp)).trans (Rw.heap_new w _)))
 have hh' := (hb.block (w.heap.size + 1) (by simp)).trans ((Below.heap_alloc _ _ _ (by simp)).trans (heap_two w _ _))
 have hv := (hb.block (w.heap.size + 1 + 1) (by simp)).trans (heap_three w _ _ _)
 refine ⟨below_on (below_three w _ _ _) hb, ?_, ?_, ?_, ?_, ?_, ?_, ?_, ?_, ?_, ?_,by have := hb.size; simp at this; omega⟩
 · rw [cell_of_row _ _ _ _ _ _ hl]; rfl
 · rw [cell_of_row _ _ _ _ _ _ hl]; rfl
 · rw [cell_of_row _ _ _ _ _ _ hh']; rfl
 · rw [cell_of_row _ _ _ _ _ _ hh']; rfl
 · rw [cell_of_row _ _ _ _ _ _ hh']; rfl
 · rw [cell_of_row _ _ _ _ _ _ hh']; rfl
 · rw [cell_of_row _ _ _ _ _ _ hh']; rfl
 · rw [cell_of_row _ _ _ _ _ _ hv]; rfl
 · rw [cell_of_row _ _ _ _ _ _ hv]; rfl
 · rw [cell_of_row _ _ _ _ _ _ hv]; rfl
theorem rbetween_walk (lo hi: Bd) (v: Vv) (w: World): Calls Tryz.prog 81 #[bdV lo,bdV hi,vvV v] w fun e w' => e = .returned (.bool (inB lo hi v)) /\ Below w.heap.size w w' := by
 have HE := Rw.dh (inB_out lo hi v)
 generalize inB lo hi v = M at *
 obtain ⟨lh,li,lk,ln,ls⟩ := lo
 obtain ⟨hh,hi,hk,hn,hs⟩ := hi
 obtain ⟨vk,vn,vs⟩ := v
 have H1 := Rw.dh (fun W => rorder_walk lk ln ls vk vn vs W)
 have H2 := Rw.dh (fun W => rorder_walk vk vn vs hk hn hs W)
 have HE': Hid (M = (!outB ⟨lh,li,lk,ln,ls⟩ (ordI lk ln ls vk vn vs) && !outB ⟨hh,hi,hk,hn,hs⟩ (ordI vk vn vs hk hn hs))) := HE.out
 clear HE
 generalize ordI lk ln ls vk vn vs = n1 at *
 generalize ordI vk vn vs hk hn hs = n2 at *
 unfold valV at H1 H2
 unfold bdV vvV valV
 have K := Rw.dh (fun w1 hb => bt_boxes w lh li lk ln ls hh hi hk hn hs vk vn vs w1 hb)
 cases lh <;> cases hh
 · go_enter Tryz.func81,Tryz.ntmps81
   go_wp2
   go_ret
   exact ⟨Rw.ret_bool (by rw [HE'.out]; rfl),below_three w _ _ _⟩
 · go_enter Tryz.func81,Tryz.ntmps81
   go_wp2_with fail
   refine (H2.out _).mono ?_
   rintro e w1 ⟨rfl,hb⟩
   obtain ⟨hB,l0,l1,g0,g1,g2,g3,g4,v0,v1,v2,hz⟩ := K.out w1 hb
   clear K hb
   have HB := Rw.dh hB
   clear hB
   go_wp2
   all_goals
    go_ret
    refine ⟨Rw.ret_bool ?_,HB.out⟩
    have := HE'.out
    simp_all [outB]
 · go_enter Tryz.func81,Tryz.ntmps81
   go_wp2_with fail
   refine (H1.out _).mono ?_
   rintro e w1 ⟨rfl,hb⟩
   obtain ⟨hB,l0,l1,g0,g1,g2,g3,g4,v0,v1,v2,hz⟩ := K.out w1 hb
   clear K hb
   have HB := Rw.dh hB
   clear hB
   go_wp2
   all_goals
    go_ret
    refine ⟨Rw.ret_bool ?_,HB.out⟩
    have := HE'.out
    simp_all [outB]
 · go_enter Tryz.func81,Tryz.ntmps81
   go_wp2_with fail
   refine (H1.out _).mono ?_
   rintro e w1 ⟨rfl,hb⟩
   obtain ⟨hB,l0,l1,g0,g1,g2,g3,g4,v0,v1,v2,hz⟩ := K.out w1 hb
   have HB := Rw.dh hB
   have HW := Rw.dh hb
   clear hB hb
   have hc: (decide (0 < n1) = false /\ (n1 == 0) = false) \/ (decide (0 < n1) = false /\ (n1 == 0) = true /\ li = true) \/ (decide (0 < n1) = false /\ (n1 == 0) = true /\ li = false) \/ decide (0 < n1) = true := by
    cases decide (0 < n1) <;> cases (n1 == 0) <;> cases li <;> simp
   rcases hc with ⟨h1,h2⟩ | ⟨h1,h2,rfl⟩ | ⟨h1,h2,rfl⟩ | h1
   · go_wp2_with fail
     refine (H2.out _).mono ?_
     rintro e w2 ⟨rfl,hb2⟩
     obtain ⟨hB,l0,l1,g0,g1,g2,g3,g4,v0,v1,v2,hz⟩ := K.out w2 (below_on HW.out hb2)
     have HB2 := Rw.dh hB
     clear hB hb2 HB HW K
     go_wp2
     all_goals
      go_ret
      refine ⟨Rw.ret_bool ?_,HB2.out⟩
      have := HE'.out
      simp_all [outB]
   · go_wp2_with fail
     refine (H2.out _).mono ?_
     rintro e w2 ⟨rfl,hb2⟩
     obtain ⟨hB,l0,l1,g0,g1,g2,g3,g4,v0,v1,v2,hz⟩ := K.out w2 (below_on HW.out hb2)
     have HB2 := Rw.dh hB
     clear hB hb2 HB HW K
     go_wp2
     all_goals
      go_ret
      refine ⟨Rw.ret_bool ?_,HB2.out⟩
      have := HE'.out
      simp_all [outB]
   · clear K HW
     go_wp2
     go_ret
     refine ⟨Rw.ret_bool ?_,HB.out⟩
     have := HE'.out
     simp_all [outB]
   · clear K HW
     go_wp2
     go_ret
     refine ⟨Rw.ret_bool ?_,HB.out⟩
     have := HE'.out
     simp_all [outB]
theorem rtl_cells {W: World} {p: Nat} {t: Tl} (h: W.heap[p]? = some (.cells (tlC t).toArray 180 (0,0))): W.cell? ⟨p,0,none⟩ = some (.int .i64 t.col) /\ W.cell? ⟨p,1,none⟩ = some (.bool t.lo.has) /\ W.cell? ⟨p,2,none⟩ = some (.bool t.lo.incl) /\ W.cell? ⟨p,3,none⟩ = some (.int .i64 t.lo.v.k) /\ W.cell? ⟨p,4,none⟩ = some (.int .i64 t.lo.v.n) /\ W.cell? ⟨p,5,none⟩ = some (.string t.lo.v.s) /\ W.cell? ⟨p,6,none⟩ = some (.bool t.hi.has) /\ W.cell? ⟨p,7,none⟩ = some (.bool t.hi.incl) /\ W.cell? ⟨p,8,none⟩ = some (.int .i64 t.hi.v.k) /\ W.cell? ⟨p,9,none⟩ = some (.int .i64 t.hi.v.n) /\ W.cell? ⟨p,10,none⟩ = some (.string t.hi.v.s) := by
 refine ⟨?_, ?_, ?_, ?_, ?_, ?_, ?_, ?_, ?_, ?_, ?_⟩ <;> (rw [cell_of_row _ _ _ _ _ _ h]; rfl)
theorem rmeets_walk {n: Nat} (k: CondL) (r: RowL) {w: World} (hI: CdIn w k) (hts: k.ts.length <= 1000) (hd: ∀ x ∈ k.l,deepN n x = false) (hl: k.l.length <= 50) (hR: Rw.SlG vvC 3 w r.a r.l) (hF: r.l.length <= maxLen /\ ∀ v ∈ r.l,VFit v) :
 Calls Tryz.prog 30 #[cdV k, .slice r.a r.l.length r.c] w fun e w' => e = .returned (.bool (meetsC n r k.ts k.l)) /\ Below w.heap.size w w' := by
 have HR := Rw.dh (fun W (hb: Below w.heap.size w W) => hR.below hb)
 have HI := Rw.dh (fun W (hb: Below w.heap.size w W) => hI.on hb)
 have HF := Rw.dh hF
 have HD := Rw.dh hd
 have HQ: Hid (∀ B,B = meetsC n r k.ts k.l -> Ending.returned (.bool B) = .returned (.bool (meetsC n r k.ts k.l))) := fun B hB => by rw [hB]
 clear hI hR hF hd
 obtain ⟨ta,tc,ts,la,lc,l⟩ := k
 obtain ⟨ra,rc,rl⟩ := r
 have HM: Hid (meetsC n ⟨ra,rc,rl⟩ ts l = (ts.all (metT rl) && (allN n [⟨ra,rc,rl⟩] l).1)) := rfl
 simp only at HQ hts hl HD HR HF
 unfold cdV
 go_enter Tryz.func30,Tryz.ntmps30
 go_wp2_with fail
 go_loopw [5] (fun i wr => ∃ j: Nat,j <= ts.length /\ i = .int .i64 (j: Int) /\ Hid (Below w.heap.size w wr /\ wr.heap[w.heap.size]? = some (.cells #[.slice ta ts.length tc, .slice la l.length lc] 85 (0,0))) /\ Hid ((ts.take j).all (metT rl) = true)) (fun i _ => ts.length - (intOf i).toNat)
 case atStart => exact ⟨0,Nat.zero_le _,rfl,⟨Rw.below_alloc _ _,Rw.heap_new _ _⟩,rfl⟩
 case round =>
  obtain ⟨j,hj,rfl,HW,HA⟩ := hrel
  have z0: wr.cell? ⟨w.heap.size,0,none⟩ = some (.slice ta ts.length tc) := by rw [cell_of_row _ _ _ _ _ _ HW.out.2]; rfl
  have z1: wr.cell? ⟨w.heap.size,1,none⟩ = some (.slice la l.length lc) := by rw [cell_of_row _ _ _ _ _ _ HW.out.2]; rfl
  by_cases hlt: j < ts.length
  · obtain ⟨b,o,t,e,hb,hx,hc⟩ := ((HI.out _ HW.out.1).ts).at hlt
    simp only at e
    subst e
    have HX: Hid (ts[j]? = some t) := hx
    have c0: wr.cell? ⟨b,o + j * 11,none⟩ = some (.int .i64 t.col) := hc 0 _ rfl
    have c1: wr.cell? ⟨b,o + j * 11 + 1,none⟩ = some (.bool t.lo.has) := hc 1 _ rfl
    have c2: wr.cell? ⟨b,o + j * 11 + 2,none⟩ = some (.bool t.lo.incl) := hc 2 _ rfl
    have c3: wr.cell? ⟨b,o + j * 11 + 3,none⟩ = some (.int .i64 t.lo.v.k) := hc 3 _ rfl
    have c4: wr.cell? ⟨b,o + j * 11 + 4,none⟩ = some (.int .i64 t.lo.v.n) := hc 4 _ rfl
    have c5: wr.cell? ⟨b,o + j * 11 + 5,none⟩ = some (.string t.lo.v.s) := hc 5 _ rfl
    have c6: wr.cell? ⟨b,o + j * 11 + 6,none⟩ = some (.bool t.hi.has) := hc 6 _ rfl
    have c7: wr.cell? ⟨b,o + j * 11 + 7,none⟩ = some (.bool t.hi.incl) := hc 7 _ rfl
    have c8: wr.cell? ⟨b,o + j * 11 + 8,none⟩ = some (.int .i64 t.hi.v.k) := hc 8 _ rfl
    have c9: wr.cell? ⟨b,o + j * 11 + 9,none⟩ = some (.int .i64 t.hi.v.n) := hc 9 _ rfl
    have c10: wr.cell? ⟨b,o + j * 11 + 10,none⟩ = some (.string t.hi.v.s) := hc 10 _ rfl
    clear hc hx
    by_cases h1: t.col < 0
    · have HN := Rw.dh (all_at_no HX.out (metT_no (colV_lo (r := rl) h1)))
      have h1': decide (t.col < 0) = true := decide_eq_true h1
      go_wp2_with fail
      refine Rw.to_letter (F := fun W => Below wr.heap.size wr W /\ W.heap[wr.heap.size]? = some (.cells (tlC t).toArray 180 (0,0))) ⟨Rw.below_alloc _ _,Rw.heap_new _ _⟩ ?_
      rintro W ⟨hB,ht⟩
      have HB := Rw.dh (below_on HW.out.1 hB)
      have htl := (Array.getElem?_eq_some_iff.1 ht).1
      have k0 := fun q: BelowW W => (rtl_cells ((q.below.block _ htl).trans ht)).1
      clear htl hB ht c0 c1 c2 c3 c4 c5 c6 c7 c8 c9 c10 z0 z1
      refine wp_region_below (by kernel_rfl) (by kernel_rfl) (fun _ => ?_)
      repeat (go_big_quiet_step (rfl))
      refine wpQuiet_nil ?_
      rintro _ ⟨q,rfl⟩
      go_wp2
      go_ret
      exact ⟨HQ.out _ (by rw [HM.out,HN.out]; rfl),below_on HB.out q.below⟩
    by_cases h2: (rl.length: Int) <= t.col
    · have HN := Rw.dh (all_at_no HX.out (metT_no (colV_hi (r := rl) h2)))
      have h1': decide (t.col < 0) = false := decide_eq_false h1
      have h2': decide ((rl.length: Int) <= t.col) = true := decide_eq_true h2
      go_wp2_with fail
      refine Rw.to_letter (F := fun W => Below wr.heap.size wr W /\ W.heap[wr.heap.size]? = some (.cells (tlC t).toArray 180 (0,0))) ⟨Rw.below_alloc _ _,Rw.heap_new _ _⟩ ?_
      rintro W ⟨hB,ht⟩
      have HB := Rw.dh (below_on HW.out.1 hB)
      have htl := (Array.getElem?_eq_some_iff.1 ht).1
      have k0 := fun q: BelowW W => (rtl_cells ((q.below.block _ htl).trans ht)).1
      clear htl hB ht c0 c1 c2 c3 c4 c5 c6 c7 c8 c9 c10 z0 z1
      refine wp_region_below (by kernel_rfl) (by kernel_rfl) (fun _ => ?_)
      repeat (go_big_quiet_step (rfl))
      refine wpQuiet_nil ?_
      rintro _ ⟨q,rfl⟩
      go_wp2
      go_ret
      exact ⟨HQ.out _ (by rw [HM.out,HN.out]; rfl),below_on HB.out q.below⟩
    obtain ⟨i,hi⟩: ∃ i: Nat,t.col = (i: Int) := ⟨t.col.toNat,by omega⟩
    have hil: i < rl.length := by omega
    obtain ⟨vb,vo,v,hra,hvb,hvx,hvc⟩ := (HR.out _ HW.out.1).at hil
    have HMt := Rw.dh (metT_at (t := t) (r := rl) (v := v) (by rw [hi]; exact colV_at hvx))
    have d0: wr.cell? ⟨vb,vo + i * 3,none⟩ = some (.int .i64 v.k) := hvc 0 _ rfl
    have d1: wr.cell? ⟨vb,vo + i * 3 + 1,none⟩ = some (.int .i64 v.n) := hvc 1 _ rfl
    have d2: wr.cell? ⟨vb,vo + i * 3 + 2,none⟩ = some (.string v.s) := hvc 2 _ rfl
    have HBt := Rw.dh (fun W => rbetween_walk t.lo t.hi v W)
    have HV := Rw.dh (hvb)
    clear hvx hvc
    subst hra
    rw [hi] at c0
    have hil2: decide (rl.length <= i) = false := decide_eq_false (by omega)
    have hn0: decide ((i: Int) < 0) = false := decide_eq_false (by omega)
    have hil': decide ((rl.length: Int) <= (i: Int)) = false := decide_eq_false (by omega)
    go_wp2_with fail
    refine Rw.to_letter (F := fun W => Below wr.heap.size wr W /\ W.heap[wr.heap.size]? = some (.cells (tlC ⟨(i: Int),t.lo,t.hi⟩).toArray 180 (0,0))) ⟨Rw.below_alloc _ _,Rw.heap_new _ _⟩ ?_
    rintro W ⟨hB,ht⟩
    have HB := Rw.dh hB
    have htl := (Array.getElem?_eq_some_iff.1 ht).1
    have KT := fun q: BelowW W => rtl_cells ((q.below.block _ htl).trans ht)
    have k0 := fun q => (KT q).1
    have k1 := fun q => (KT q).2.1
    have k2 := fun q => (KT q).2.2.1
    have k3 := fun q => (KT q).2.2.2.1
    have k4 := fun q => (KT q).2.2.2.2.1
    have k5 := fun q => (KT q).2.2.2.2.2.1
    have k6 := fun q => (KT q).2.2.2.2.2.2.1
    have k7 := fun q => (KT q).2.2.2.2.2.2.2.1
    have k8 := fun q => (KT q).2.2.2.2.2.2.2.2.1
    have k9 := fun q => (KT q).2.2.2.2.2.2.2.2.2.1
    have k10 := fun q => (KT q).2.2.2.2.2.2.2.2.2.2
    have e0 := fun q: BelowW W => ((below_on hB q.below).cell (p := ⟨vb,vo + i * 3,none⟩) hvb).trans d0
    have e1 := fun q: BelowW W => ((below_on hB q.below).cell (p := ⟨vb,vo + i * 3 + 1,none⟩) hvb).trans d1
    have e2 := fun q: BelowW W => ((below_on hB q.below).cell (p := ⟨vb,vo + i * 3 + 2,none⟩) hvb).trans d2
    have HBt1 := Rw.dh (fun q: BelowW W => HBt.out q.w)
    simp only at k0 k1 k2 k3 k4 k5 k6 k7 k8 k9 k10
    clear KT htl hB ht c0 c1 c2 c3 c4 c5 c6 c7 c8 c9 c10 d0 d1 d2 HBt z0 z1
    unfold bdV vvV valV at HBt1
    refine wp_region_below (by kernel_rfl) (by kernel_rfl) (fun _ => ?_)
    repeat (go_big_quiet_step (first | rfl | (go_at_call 81; exact quiet_of_below (HBt1.out _))))
    refine wpQuiet_nil ?_
    rintro _ ⟨q,rfl⟩
    have HB2 := Rw.dh (below_on HB.out q.below)
    have HW2: Hid (Below w.heap.size w q.w /\ q.w.heap[w.heap.size]? = some (.cells #[.slice (some ⟨b,o,none⟩) ts.length tc, .slice la l.length lc] 85 (0,0))) := ⟨below_on HW.out.1 HB2.out,(HB2.out.block _ (Array.getElem?_eq_some_iff.1 HW.out.2).1).trans HW.out.2⟩
    clear k0 k1 k2 k3 k4 k5 k6 k7 k8 k9 k10 e0 e1 e2 HBt1 HB HB2 HW
    generalize q.w = W2 at *
    cases hm: inB t.lo t.hi v
    · have HN := Rw.dh (all_at_no HX.out (HMt.out.trans hm))
      go_wp2
      go_ret
      exact ⟨HQ.out _ (by rw [HM.out,HN.out]; rfl),HW2.out.1⟩
    · have HA2 := Rw.dh (all_take_succ HX.out HA.out (HMt.out.trans hm))
      go_wp2
      go_roundw
      case rel => exact ⟨j + 1,hlt,by go_num,HW2,HA2⟩
      case measure => simp [intOf]; omega
  · have hjs: j = ts.length := by omega
    subst hjs
    have hA := HA.out
    rw [List.take_length] at hA
    have HE: Hid (meetsC n ⟨ra,rc,rl⟩ ts l = (allN n [⟨ra,rc,rl⟩] l).1) := by rw [Hid,HM.out,hA]; rfl
    clear hA HA HM
    go_wp2_with fail
    have hI2 := HI.out _ (below_on HW.out.1 (Rw.below_alloc wr (.cells #[.slice ra rl.length rc] 79)))
    have hA := rall_walk (rc := 1) (c := lc) hI2.ns (fun x hx => hI2.ins x hx n) HD.out hl (row_in (r := ⟨ra,rc,rl⟩) (T := 79) (HR.out _ (below_on HW.out.1 (Rw.below_alloc wr (.cells #[.slice ra rl.length rc] 79))))) (row_fit (r := ⟨ra,rc,rl⟩) HF.out)
    have HN := Rw.dh (allN_no (n := n) (rs := [⟨ra,rc,rl⟩]) (l := l))
    clear hI2
    generalize allN n [⟨ra,rc,rl⟩] l = al at *
    refine hA.mono ?_
    clear hA
    rintro e w2 ⟨rfl,hb2⟩
    have HB2 := Rw.dh (below_on HW.out.1 (below_on (Rw.below_alloc wr _) hb2))
    clear hb2 HW
    obtain ⟨m,c⟩ := al
    cases h0: (c == 0)
    · have hc: (c != 0) = true := by simpa using h0
      have hm: m = false := HN.out hc
      subst hm
      go_wp2
      go_ret
      exact ⟨HQ.out _ HE.out.symm,HB2.out⟩
    · cases m
      · go_wp2
        go_ret
        exact ⟨HQ.out _ HE.out.symm,HB2.out⟩
      · go_wp2
        go_ret
        exact ⟨HQ.out _ HE.out.symm,HB2.out⟩
end Go.Proofs.YteibhbnlcpejpaaGreat
