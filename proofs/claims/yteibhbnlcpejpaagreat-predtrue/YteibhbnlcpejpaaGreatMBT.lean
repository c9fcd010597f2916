import Derived.Test.YteibhbnlcpejpaaGreatMBC
import Derived.Test.YteibhbnlcpejpaaGreatMBS
set_option maxRecDepth 100000
set_option maxHeartbeats 4000000
namespace Go.Proofs.YteibhbnlcpejpaaGreat
open Go.RowKit
theorem lets_walk (b: Bd) (p: Int) (w: World): Calls Tryz.prog 131 #[bdV b, .int .i64 p] w fun e w' => e = .returned (.bool (letsB b p)) /\ Below w.heap.size w w' := by
 obtain ⟨h,i,v⟩ := b
 have HE: Hid (∀ B,B = letsB ⟨h,i,v⟩ p -> Ending.returned (.bool B) = .returned (.bool (letsB ⟨h,i,v⟩ p))) := fun B hB => by rw [hB]
 cases h <;> cases i <;> cases hp: decide (0 < p) <;> cases hz: (p == 0)
 all_goals
  unfold bdV
  go_enter Tryz.func131,Tryz.ntmps131
  go_wp2
  go_ret
  refine ⟨HE.out _ ?_,Rw.below_alloc _ _⟩
  simp_all [letsB]
theorem tl_cells {W: World} {p: Nat} {t: Tl} (h: W.heap[p]? = some (.cells (tlC t).toArray 175 (0,0))): W.cell? ⟨p,0,none⟩ = some (.int .i64 t.col) /\ W.cell? ⟨p,1,none⟩ = some (.bool t.lo.has) /\ W.cell? ⟨p,2,none⟩ = some (.bool t.lo.incl) /\ W.cell? ⟨p,3,none⟩ = some (.int .i64 t.lo.v.k) /\ W.cell? ⟨p,4,none⟩ = some (.int .i64 t.lo.v.n) /\ W.cell? ⟨p,5,none⟩ = some (.string t.lo.v.s) /\ W.cell? ⟨p,6,none⟩ = some (.bool t.hi.has) /\ W.cell? ⟨p,7,none⟩ = some (.bool t.hi.incl) /\ W.cell? ⟨p,8,none⟩ = some (.int .i64 t.hi.v.k) /\ W.cell? ⟨p,9,none⟩ = some (.int .i64 t.hi.v.n) /\ W.cell? ⟨p,10,none⟩ = some (.string t.hi.v.s) := by
 refine ⟨?_, ?_, ?_, ?_, ?_, ?_, ?_, ?_, ?_, ?_, ?_⟩ <;> (rw [cell_of_row _ _ _ _ _ _ h]; rfl)
theorem met_walk (t: Tl) (r: List Vv) (ra: Option Addr) (rc: Nat) (w: World) (hR: Rw.SlG vvC 3 w ra r): Calls Tryz.prog 92 #[tlV t, .slice ra r.length rc] w fun e w' => e = .returned (.bool (metT r t)) /\ Below w.heap.size w w' := by
 have HR := Rw.dh hR
 clear hR
 by_cases h1: t.col < 0
 · have HM := Rw.dh (metT_no (t := t) (colV_lo (r := r) h1))
   obtain ⟨col,⟨lh,li,lk,ln,ls⟩,⟨hh,hi,hk,hn,hs⟩⟩ := t
   replace h1: decide (col < 0) = true := decide_eq_true h1
   unfold tlV
   go_enter Tryz.func92,Tryz.ntmps92
   go_wp2
   go_ret
   exact ⟨Rw.ret_bool HM.out.symm,Rw.below_alloc _ _⟩
 by_cases h2: (r.length: Int) <= t.col
 · have HM := Rw.dh (metT_no (t := t) (colV_hi (r := r) h2))
   obtain ⟨col,⟨lh,li,lk,ln,ls⟩,⟨hh,hi,hk,hn,hs⟩⟩ := t
   replace h1: decide (col < 0) = false := decide_eq_false h1
   have h2': decide (col ≥ (r.length: Int)) = true := decide_eq_true h2
   have h2'': decide ((r.length: Int) <= col) = true := decide_eq_true h2
   clear h2
   unfold tlV
   go_enter Tryz.func92,Tryz.ntmps92
   go_wp2
   go_ret
   exact ⟨Rw.ret_bool HM.out.symm,Rw.below_alloc _ _⟩
 obtain ⟨j,hj⟩: ∃ j: Nat,t.col = (j: Int) := ⟨t.col.toNat,by omega⟩
 have hlt: j < r.length := by omega
 obtain ⟨b,o,v,rfl,hb,hx,hc⟩ := HR.out.at hlt
 have HM := Rw.dh (metT_at (t := t) (r := r) (v := v) (by rw [hj]; exact colV_at hx))
 have c0: w.cell? ⟨b,o + j * 3,none⟩ = some (.int .i64 v.k) := hc 0 _ rfl
 have c1: w.cell? ⟨b,o + j * 3 + 1,none⟩ = some (.int .i64 v.n) := hc 1 _ rfl
 have c2: w.cell? ⟨b,o + j * 3 + 2,none⟩ = some (.string v.s) := hc 2 _ rfl
 obtain ⟨col,⟨lh,li,lk,ln,ls⟩,⟨hh,hi,hk,hn,hs⟩⟩ := t
 obtain rfl: col = (j: Int) := hj
 clear hc hx h1 h2 HR
 unfold tlV
 go_enter Tryz.func92,Tryz.ntmps92
 go_wp2_with fail
 refine Rw.to_letter (F := fun W => Below w.heap.size w W /\ W.heap[w.heap.size]? = some (.cells (tlC ⟨(j: Int),⟨lh,li,lk,ln,ls⟩,⟨hh,hi,hk,hn,hs⟩⟩).toArray 175 (0,0)) /\ W.heap[w.heap.size + 1]? = some (.cells #[.int .i64 v.k, .int .i64 v.n, .string v.s] 27 (0,0))) ⟨below_two w _ _,(Below.heap_alloc _ _ _ (by simp)).trans (Rw.heap_new w _),heap_two w _ _⟩ ?_
 rintro W ⟨hB,ht,hv⟩
 have htl := (Array.getElem?_eq_some_iff.1 ht).1
 have hvl := (Array.getElem?_eq_some_iff.1 hv).1
 have HB := Rw.dh hB
 have KT := fun q: BelowW W => tl_cells ((q.below.block _ htl).trans ht)
 have k0 := fun q => (KT q).1
 have k1 := fun q => (KT q).2.1
 have k2 := fun q => (KT q).2.2.1
 have k3 := fun q => (KT q).2.2.2.1
 have k4 := fun q => (KT q).2.2.2.2.1
 have k5 := fun q => (KT q).2.2.2.2.2.1
 have k6 := fun q => (KT q).2.2.2.2.2.2.1
 have k7 := fun q => (KT q).2.2.2.2.2.2.2.1
 have k8 := fun q => (KT q).2.2.2.2.2.2.2.2.1
 have k9 := fun q => (KT q).2.2.2.2.2.2.2.2.2.1
 have k10 := fun q => (KT q).2.2.2.2.2.2.2.2.2.2
 have v0: ∀ q: BelowW W,q.w.cell? ⟨w.heap.size + 1,0,none⟩ = some (.int .i64 v.k) := fun q => by rw [cell_of_row _ _ _ _ _ _ ((q.below.block _ hvl).trans hv)]; rfl
 have v1: ∀ q: BelowW W,q.w.cell? ⟨w.heap.size + 1,1,none⟩ = some (.int .i64 v.n) := fun q => by rw [cell_of_row _ _ _ _ _ _ ((q.below.block _ hvl).trans hv)]; rfl
 have v2: ∀ q: BelowW W,q.w.cell? ⟨w.heap.size + 1,2,none⟩ = some (.string v.s) := fun q => by rw [cell_of_row _ _ _ _ _ _ ((q.below.block _ hvl).trans hv)]; rfl
 simp only at k0 k1 k2 k3 k4 k5 k6 k7 k8 k9 k10
 clear KT hB ht hv htl hvl c0 c1 c2
 have HO1 := Rw.dh (fun q: BelowW W => order_walk v.k v.n v.s lk ln ls q.w)
 have HO2 := Rw.dh (fun q: BelowW W => order_walk hk hn hs v.k v.n v.s q.w)
 have HL1 := Rw.dh (fun (q: BelowW W) n => lets_walk ⟨lh,li,lk,ln,ls⟩ n q.w)
 have HL2 := Rw.dh (fun (q: BelowW W) n => lets_walk ⟨hh,hi,hk,hn,hs⟩ n q.w)
 unfold bdV at HL1 HL2
 unfold valV at HO1 HO2
 have HE: metT r ⟨(j: Int),⟨lh,li,lk,ln,ls⟩,⟨hh,hi,hk,hn,hs⟩⟩ = (letsB ⟨lh,li,lk,ln,ls⟩ (ordI v.k v.n v.s lk ln ls) && letsB ⟨hh,hi,hk,hn,hs⟩ (ordI hk hn hs v.k v.n v.s)) := HM.out
 clear HM
 replace HE := Rw.dh HE
 generalize ordI v.k v.n v.s lk ln ls = n1 at *
 generalize ordI hk hn hs v.k v.n v.s = n2 at *
 cases hl1: letsB ⟨lh,li,lk,ln,ls⟩ n1
 · have HL3: Hid (∀ q: BelowW W,_) := fun q => HL1.out q n1
   rw [hl1] at HL3
   refine wp_region_below (by kernel_rfl) (by kernel_rfl) (fun _ => ?_)
   repeat (go_big_quiet_step (first | rfl | (go_at_call 132; first | (with_reducible exact quiet_of_below (HO1.out _)) | (with_reducible exact quiet_of_below (HO2.out _))) | (go_at_call 131; first | (with_reducible exact quiet_of_below (HL3.out _)) | (with_reducible exact quiet_of_below (HL2.out _ _)))))
   refine wpQuiet_nil ?_
   rintro _ ⟨q,rfl⟩
   go_wp2
   go_ret
   refine ⟨Rw.ret_bool ?_,below_on HB.out q.below⟩
   rw [HE.out,hl1]
   rfl
 · have HL3: Hid (∀ q: BelowW W,_) := fun q => HL1.out q n1
   rw [hl1] at HL3
   refine wp_region_below (by kernel_rfl) (by kernel_rfl) (fun _ => ?_)
   repeat (go_big_quiet_step (first | rfl | (go_at_call 132; first | (with_reducible exact quiet_of_below (HO1.out _)) | (with_reducible exact quiet_of_below (HO2.out _))) | (go_at_call 131; first | (with_reducible exact quiet_of_below (HL3.out _)) | (with_reducible exact quiet_of_below (HL2.out _ _)))))
   refine wpQuiet_nil ?_
   rintro _ ⟨q,rfl⟩
   go_wp2
   go_ret
   refine ⟨Rw.ret_bool ?_,below_on HB.out q.below⟩
   rw [HE.out,hl1]
   rfl
theorem mclo_walk (t: Tl) (r: RowL) {p: Nat} {w: World} (hp: w.heap[p]? = some (.cells #[.slice r.a r.l.length r.c] 79 (0,0))) (hR: Rw.SlG vvC 3 w r.a r.l) :
 Calls Tryz.prog 91 #[tlV t, .pointer (some ⟨p,0,none⟩)] w fun e w' => e = .returned (.bool (!metT r.l t)) /\ Below w.heap.size w w' := by
 have HM := Rw.dh (fun W (hb: Below w.heap.size w W) => met_walk t r.l r.a r.c W (hR.below hb))
 have hlp := (Array.getElem?_eq_some_iff.1 hp).1
 have KP := Rw.dh (fun W (hb: Below w.heap.size w W) => (show W.cell? ⟨p,0,none⟩ = some (.slice r.a r.l.length r.c) by rw [cell_of_row _ _ _ _ _ _ ((hb.block _ hlp).trans hp)]; rfl))
 have c0 := KP.out w (Below.refl _ _)
 have c1 := KP.out (w.alloc (.cells (tlC t).toArray 175)) (Rw.below_alloc _ _)
 clear hp hR
 generalize metT r.l t = m at *
 obtain ⟨col,⟨lh,li,lk,ln,ls⟩,⟨hh,hi,hk,hn,hs⟩⟩ := t
 unfold tlC at c1
 unfold tlV at HM ⊢
 go_enter Tryz.func91,Tryz.ntmps91
 go_wp2_with fail
 refine (HM.out _ (by first | exact Below.refl _ _ | exact Rw.below_alloc _ _)).mono ?_
 rintro e w1 ⟨rfl,hb⟩
 have HB: Hid (Below w.heap.size w w1) := by first | exact hb | exact below_on (Rw.below_alloc _ _) hb
 clear hb
 go_wp2
 go_ret
 exact ⟨rfl,HB.out⟩
theorem all_at_no {r: List Vv} {ts: List Tl} {j: Nat} {t: Tl} (h: ts[j]? = some t) (hm: metT r t = false): ts.all (metT r) = false := by
 rw [<- Bool.not_eq_true,List.all_eq_true]
 intro hA
 have := hA t (List.mem_of_getElem? h)
 rw [hm] at this
 cases this
theorem all_take_succ {r: List Vv} {ts: List Tl} {j: Nat} {t: Tl} (h: ts[j]? = some t) (hA: (ts.take j).all (metT r) = true) (hm: metT r t = true): (ts.take (j + 1)).all (metT r) = true := by
 obtain ⟨hj,e⟩ := List.getElem?_eq_some_iff.1 h
 rw [List.take_succ_eq_append_getElem hj,List.all_append,hA,e]
 simp [hm]
inductive IdxB: Bool -> Ending -> Prop
 | none: IdxB true (.returned (.int .i64 (-1)))
 | at (j: Nat): IdxB false (.returned (.int .i64 (j: Int)))
theorem idxT_walk {ts: List Tl} {a: Option Addr} {c: Nat} {r: RowL} {p: Nat} {w: World} (hS: Rw.SlG tlC 11 w a ts) (hl: ts.length <= 600000) (hp: w.heap[p]? = some (.cells #[.slice r.a r.l.length r.c] 79 (0,0))) (hR: Rw.SlG vvC 3 w r.a r.l) :
 Calls Tryz.prog 130 #[.slice a ts.length c, .func (.func 91) #[] #[.pointer (some ⟨p,0,none⟩)]] w fun e W => IdxB (ts.all (metT r.l)) e /\ Below w.heap.size w W := by
 have HS := Rw.dh hS
 have HC := Rw.dh (fun t W (hb: Below w.heap.size w W) => mclo_walk t r (p := p) (w := W) ((hb.block _ (Array.getElem?_eq_some_iff.1 hp).1).trans hp) (hR.below hb))
 clear hS hR hp
 go_enter Tryz.func130,Tryz.ntmps130
 go_wp2_with fail
 go_loopw [8] (fun i wr => ∃ j: Nat,j <= ts.length /\ i = .int .i64 (j: Int) /\ Hid (Below w.heap.size w wr) /\ Hid ((ts.take j).all (metT r.l) = true)) (fun i _ => ts.length - (intOf i).toNat)
 case atStart => exact ⟨0,Nat.zero_le _,rfl,Below.refl _ _,rfl⟩
 case round =>
  obtain ⟨j,hj,rfl,HB,HA⟩ := hrel
  by_cases hlt: j < ts.length
  · obtain ⟨b,o,t,rfl,hb,hx,hc⟩ := (HS.out.below HB.out).at hlt
    have hv := HC.out t wr HB.out
    have HX := Rw.dh hx
    have c0: wr.cell? ⟨b,o + j * 11,none⟩ = some (.int .i64 t.col) := hc 0 _ rfl
    have c1: wr.cell? ⟨b,o + j * 11 + 1,none⟩ = some (.bool t.lo.has) := hc 1 _ rfl
    have c2: wr.cell? ⟨b,o + j * 11 + 2,none⟩ = some (.bool t.lo.incl) := hc 2 _ rfl
    have c3: wr.cell? ⟨b,o + j * 11 + 3,none⟩ = some (.int .i64 t.lo.v.k) := hc 3 _ rfl
    have c4: wr.cell? ⟨b,o + j * 11 + 4,none⟩ = some (.int .i64 t.lo.v.n) := hc 4 _ rfl
    have c5: wr.cell? ⟨b,o + j * 11 + 5,none⟩ = some (.string t.lo.v.s) := hc 5 _ rfl
    have c6: wr.cell? ⟨b,o + j * 11 + 6,none⟩ = some (.bool t.hi.has) := hc 6 _ rfl
    have c7: wr.cell? ⟨b,o + j * 11 + 7,none⟩ = some (.bool t.hi.incl) := hc 7 _ rfl
    have c8: wr.cell? ⟨b,o + j * 11 + 8,none⟩ = some (.int .i64 t.hi.v.k) := hc 8 _ rfl
    have c9: wr.cell? ⟨b,o + j * 11 + 9,none⟩ = some (.int .i64 t.hi.v.n) := hc 9 _ rfl
    have c10: wr.cell? ⟨b,o + j * 11 + 10,none⟩ = some (.string t.hi.v.s) := hc 10 _ rfl
    clear hc hx
    unfold tlV at hv
    go_wp2_with fail
    refine hv.mono ?_
    clear hv
    rintro e w1 ⟨rfl,hb1⟩
    have HB1 := Rw.dh (below_on HB.out hb1)
    clear hb1 c0 c1 c2 c3 c4 c5 c6 c7 c8 c9 c10 hb HB
    cases hm: metT r.l t
    · have HE := Rw.dh (all_at_no HX.out hm)
      clear hm
      go_wp2
      go_ret
      exact ⟨by rw [HE.out]; exact .at j,HB1.out⟩
    · have HA1 := Rw.dh (all_take_succ HX.out HA.out hm)
      clear hm
      go_wp2
      go_roundw
      case rel => exact ⟨j + 1,hlt,by go_num,HB1,HA1⟩
      case measure => simp [intOf]; omega
  · have hjs: j = ts.length := by omega
    subst hjs
    have hA := HA.out
    rw [List.take_length] at hA
    have HE := Rw.dh hA
    clear hA HA
    go_wp2
    go_ret
    exact ⟨by rw [HE.out]; exact .none,HB.out⟩
theorem conT_walk {ts: List Tl} {a: Option Addr} {c: Nat} {r: RowL} {p: Nat} {w: World} (hS: Rw.SlG tlC 11 w a ts) (hl: ts.length <= 600000) (hp: w.heap[p]? = some (.cells #[.slice r.a r.l.length r.c] 79 (0,0))) (hR: Rw.SlG vvC 3 w r.a r.l) :
 Calls Tryz.prog 90 #[.slice a ts.length c, .func (.func 91) #[] #[.pointer (some ⟨p,0,none⟩)]] w fun e W => e = .returned (.bool (!(ts.all (metT r.l)))) /\ Below w.heap.size w W := by
 have hX := idxT_walk (c := c) hS hl hp hR
 generalize ts.all (metT r.l) = m at *
 clear hS hR hp
 go_enter Tryz.func90,Tryz.ntmps90
 go_wp2_with fail
 refine hX.mono ?_
 clear hX
 rintro e w1 ⟨hW,hb⟩
 have HB := Rw.dh hb
 clear hb
 cases hW with
 | none =>
  go_wp2
  go_ret
  exact ⟨rfl,HB.out⟩
 | «at» j =>
  have h0: decide ((j: Int) ≥ 0) = true := by simp
  have h1: decide (0 <= (j: Int)) = true := by simp
  go_wp2
  go_ret
  exact ⟨rfl,HB.out⟩
theorem row_in {w: World} {r: RowL} {T: TypeId} (hR: Rw.SlG vvC 3 (w.alloc (.cells #[.slice r.a r.l.length r.c] T)) r.a r.l): RowsIn (w.alloc (.cells #[.slice r.a r.l.length r.c] T)) (some ⟨w.heap.size,0,none⟩) [r] := by
 refine ⟨Or.inr ⟨_,0,rfl,by simp,fun j x hj i u hu => ?_⟩,fun x hx => ?_⟩
 · cases j with
   | succ j => simp at hj
   | zero =>
    simp at hj
    subst hj
    cases i with
    | succ i => simp [rowC] at hu
    | zero =>
     simp [rowC] at hu
     subst hu
     rw [cell_of_row _ _ _ _ _ _ (Rw.heap_new w _)]
     rfl
 · simp at hx
   subst hx
   exact hR
theorem row_fit {r: RowL} (h: r.l.length <= maxLen /\ ∀ v ∈ r.l,VFit v): RowsFit [r] := ⟨by simp [maxLen],fun x hx => by simp at hx; subst hx; exact h⟩
theorem meetsB_walk {n: Nat} (hn: n <= 65536) (k: CondL) (r: RowL) {w: World} (hI: CdIn w k) (hts: k.ts.length <= 600000) (hd: ∀ x ∈ k.l,deepN n x = false) (hl: k.l.length <= 600000) (hR: Rw.SlG vvC 3 w r.a r.l) (hF: r.l.length <= maxLen /\ ∀ v ∈ r.l,VFit v) :
 Calls Tryz.prog 38 #[cdV k, .slice r.a r.l.length r.c] w fun e w' => e = .returned (.bool (meetsC n r k.ts k.l)) /\ Below w.heap.size w w' := by
 have hmf: ∀ (fn: Fn) (first cap: Array Value) (w: World),(Instr.makeFunc fn first cap).run Tryz.prog w = .ok (.func fn first cap) w := fun _ _ _ _ => rfl
 have HR := Rw.dh (fun W (hb: Below w.heap.size w W) => hR.below hb)
 have HI := Rw.dh (fun W (hb: Below w.heap.size w W) => hI.on hb)
 have HF := Rw.dh hF
 have HD := Rw.dh hd
 have HQ: Hid (∀ B,B = meetsC n r k.ts k.l -> Ending.returned (.bool B) = .returned (.bool (meetsC n r k.ts k.l))) := fun B hB => by rw [hB]
 clear hI hR hF hd
 obtain ⟨ta,tc,ts,la,lc,l⟩ := k
 unfold cdV
 go_enter Tryz.func38,Tryz.ntmps38
 go_wp2_with fail
 have hp := heap_two w (.cells #[.slice ta ts.length tc, .slice la l.length lc] 78) (.cells #[.slice r.a r.l.length r.c] 79)
 have hcw := Rw.dh ((Below.heap_alloc (w.alloc (.cells #[.slice ta ts.length tc, .slice la l.length lc] 78)) (.cells #[.slice r.a r.l.length r.c] 79) w.heap.size (by simp)).trans (Rw.heap_new w _))
 have hI1 := HI.out _ (below_two w (.cells #[.slice ta ts.length tc, .slice la l.length lc] 78) (.cells #[.slice r.a r.l.length r.c] 79))
 have HC := conT_walk (c := tc) hI1.ts hts hp (HR.out _ (below_two w _ _))
 have HP := Rw.dh hp
 clear hp hI1
 refine HC.mono ?_
 clear HC
 rintro e w1 ⟨rfl,hb⟩
 have HB := Rw.dh (below_on (below_two w _ _) hb)
 have HP1 := Rw.dh ((hb.block _ (Array.getElem?_eq_some_iff.1 HP.out).1).trans HP.out)
 have HC1 := Rw.dh ((hb.block _ (Array.getElem?_eq_some_iff.1 hcw.out).1).trans hcw.out)
 clear hb HP hcw
 have c0: w1.cell? ⟨w.heap.size,0,none⟩ = some (.slice ta ts.length tc) := by rw [cell_of_row _ _ _ _ _ _ HC1.out]; rfl
 have c1: w1.cell? ⟨w.heap.size,1,none⟩ = some (.slice la l.length lc) := by rw [cell_of_row _ _ _ _ _ _ HC1.out]; rfl
 have r0: w1.cell? ⟨w.heap.size + 1,0,none⟩ = some (.slice r.a r.l.length r.c) := by rw [cell_of_row _ _ _ _ _ _ HP1.out]; rfl
 have hs1 := (Array.getElem?_eq_some_iff.1 HP1.out).1
 cases hm: ts.all (metT r.l)
 · go_wp2
   go_ret
   exact ⟨HQ.out _ (by simp [meetsC,hm]),HB.out⟩
 · go_wp2_with fail
   have hI2 := HI.out _ (below_on HB.out (Rw.below_alloc w1 (.cells #[.slice r.a r.l.length r.c] 79)))
   have hA := allB_walk (rc := 1) (c := lc) hn (row_fit HF.out) hI2.ns (fun x hx => hI2.ins x hx n) HD.out hl (row_in (T := 79) (HR.out _ (below_on HB.out (Rw.below_alloc w1 (.cells #[.slice r.a r.l.length r.c] 79)))))
   have HE: Hid (meetsC n r ts l = (allN n [r] l).1) := by show meetsC n r ts l = _; simp [meetsC,hm]
   clear hI2 c0 c1 r0
   generalize allN n [r] l = al at *
   refine hA.mono ?_
   clear hA
   rintro e w2 ⟨rfl,hb2⟩
   have HB2 := Rw.dh (below_on HB.out (below_on (Rw.below_alloc w1 _) hb2))
   clear hb2
   go_wp2
   go_ret
   exact ⟨HQ.out _ HE.out.symm,HB2.out⟩
theorem meets_walk {n: Nat} (hn: n <= 65536) (k: CondL) (r: RowL) {w: World} (hI: CdIn w k) (hts: k.ts.length <= 1000) (hd: ∀ x ∈ k.l,deepN n x = false) (hl: k.l.length <= 50) (hR: Rw.SlG vvC 3 w r.a r.l) (hF: r.l.length <= maxLen /\ ∀ v ∈ r.l,VFit v) :
 Calls Tryz.prog 38 #[cdV k, .slice r.a r.l.length r.c] w fun e w' => e = .returned (.bool (meetsC n r k.ts k.l)) /\ Below w.heap.size w w' :=
 meetsB_walk hn k r hI (by omega) hd (by omega) hR hF
end Go.Proofs.YteibhbnlcpejpaaGreat
