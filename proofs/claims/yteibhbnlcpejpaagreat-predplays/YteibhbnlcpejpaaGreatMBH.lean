import Derived.Test.YteibhbnlcpejpaaGreatMAS
import Derived.Test.YteibhbnlcpejpaaGreatMBG
set_option maxRecDepth 100000
set_option maxHeartbeats 4000000
namespace Go.Proofs.YteibhbnlcpejpaaGreat
open Go.RowKit
theorem lets_walk (b: Bd) (p: Int) (w: World): Calls Tryz.prog 131 #[bdV b, .int .i64 p] w fun e w' => e = .returned (.bool (letsB b p)) /\ Below w.heap.size w w' := by
 obtain ⟨h,i,v⟩ := b
 have HE: Hid (∀ B,B = letsB ⟨h,i,v⟩ p -> Ending.returned (.bool B) = .returned (.bool (letsB ⟨h,i,v⟩ p))) := fun B hB => by rw [hB]
 cases h <;> cases i <;> cases hp: decide (0 < p) <;> cases hz: (p == 0)
 all_goals
  unfold bdV
  go_enter Tryz.func131,Tryz.ntmps131
  go_wp2
  go_ret
  refine ⟨HE.out _ ?_,Rw.below_alloc _ _⟩
  simp_all [letsB]
theorem tl_cells {W: World} {p: Nat} {t: Tl} (h: W.heap[p]? = some (.cells (tlC t).toArray 175 (0,0))): W.cell? ⟨p,0,none⟩ = some (.int .i64 t.col) /\ W.cell? ⟨p,1,none⟩ = some (.bool t.lo.has) /\ W.cell? ⟨p,2,none⟩ = some (.bool t.lo.incl) /\ W.cell? ⟨p,3,none⟩ = some (.int .i64 t.lo.v.k) /\ W.cell? ⟨p,4,none⟩ = some (.int .i64 t.lo.v.n) /\ W.cell? ⟨p,5,none⟩ = some (.string t.lo.v.s) /\ W.cell? ⟨p,6,none⟩ = some (.bool t.hi.has) /\ W.cell? ⟨p,7,none⟩ = some (.bool t.hi.incl) /\ W.cell? ⟨p,8,none⟩ = some (.int .i64 t.hi.v.k) /\ W.cell? ⟨p,9,none⟩ = some (.int .i64 t.hi.v.n) /\ W.cell? ⟨p,10,none⟩ = some (.string t.hi.v.s) := by
 refine ⟨?_, ?_, ?_, ?_, ?_, ?_, ?_, ?_, ?_, ?_, ?_⟩ <;> (rw [cell_of_row _ _ _ _ _ _ h]; rfl)
theorem met_walk (t: Tl) (r: List Vv) (ra: Option Addr) (rc: Nat) (w: World) (hR: Rw.SlG vvC 3 w ra r): Calls Tryz.prog 92 #[tlV t, .slice ra r.length rc] w fun e w' => e = .returned (.bool (metT r t)) /\ Below w.heap.size w w' := by
 have HR := Rw.dh hR
 clear hR
 by_cases h1: t.col < 0
 · have HM := Rw.dh (metT_no (t := t) (colV_lo (r := r) h1))
   obtain ⟨col,⟨lh,li,lk,ln,ls⟩,⟨hh,hi,hk,hn,hs⟩⟩ := t
   replace h1: decide (col < 0) = true := decide_eq_true h1
   unfold tlV
   go_enter Tryz.func92,Tryz.ntmps92
   go_wp2
   go_ret
   exact ⟨Rw.ret_bool HM.out.symm,Rw.below_alloc _ _⟩
 by_cases h2: (r.length: Int) <= t.col
 · have HM := Rw.dh (metT_no (t := t) (colV_hi (r := r) h2))
   obtain ⟨col,⟨lh,li,lk,ln,ls⟩,⟨hh,hi,hk,hn,hs⟩⟩ := t
   replace h1: decide (col < 0) = false := decide_eq_false h1
   have h2': decide (col ≥ (r.length: Int)) = true := decide_eq_true h2
   have h2'': decide ((r.length: Int) <= col) = true := decide_eq_true h2
   clear h2
   unfold tlV
   go_enter Tryz.func92,Tryz.ntmps92
   go_wp2
   go_ret
   exact ⟨Rw.ret_bool HM.out.symm,Rw.below_alloc _ _⟩
 obtain ⟨j,hj⟩: ∃ j: Nat,t.col = (j: Int) := ⟨t.col.toNat,by omega⟩
 have hlt: j < r.length := by omega
 obtain ⟨b,o,v,rfl,hb,hx,hc⟩ := HR.out.at hlt
 have HM := Rw.dh (metT_at (t := t) (r := r) (v := v) (by rw [hj]; exact colV_at hx))
 have c0: w.cell? ⟨b,o + j * 3,none⟩ = some (.int .i64 v.k) := hc 0 _ rfl
 have c1: w.cell? ⟨b,o + j * 3 + 1,none⟩ = some (.int .i64 v.n) := hc 1 _ rfl
 have c2: w.cell? ⟨b,o + j * 3 + 2,none⟩ = some (.string v.s) := hc 2 _ rfl
 obtain ⟨col,⟨lh,li,lk,ln,ls⟩,⟨hh,hi,hk,hn,hs⟩⟩ := t
 obtain rfl: col = (j: Int) := hj
 clear hc hx h1 h2 HR
 unfold tlV
 go_enter Tryz.func92,Tryz.ntmps92
 go_wp2_with fail
 refine Rw.to_letter (F := fun W => Below w.heap.size w W /\ W.heap[w.heap.size]? = some (.cells (tlC ⟨(j: Int),⟨lh,li,lk,ln,ls⟩,⟨hh,hi,hk,hn,hs⟩⟩).toArray 175 (0,0)) /\ W.heap[w.heap.size + 1]? = some (.cells #[.int .i64 v.k, .int .i64 v.n, .string v.s] 27 (0,0))) ⟨below_two w _ _,(Below.heap_alloc _ _ _ (by simp)).trans (Rw.heap_new w _),heap_two w _ _⟩ ?_
 rintro W ⟨hB,ht,hv⟩
 have htl := (Array.getElem?_eq_some_iff.1 ht).1
 have hvl := (Array.getElem?_eq_some_iff.1 hv).1
 have HB := Rw.dh hB
 have KT := fun q: BelowW W => tl_cells ((q.below.block _ htl).trans ht)
 have k0 := fun q => (KT q).1
 have k1 := fun q => (KT q).2.1
 have k2 := fun q => (KT q).2.2.1
 have k3 := fun q => (KT q).2.2.2.1
 have k4 := fun q => (KT q).2.2.2.2.1
 have k5 := fun q => (KT q).2.2.2.2.2.1
 have k6 := fun q => (KT q).2.2.2.2.2.2.1
 have k7 := fun q => (KT q).2.2.2.2.2.2.2.1
 have k8 := fun q => (KT q).2.2.2.2.2.2.2.2.1
 have k9 := fun q => (KT q).2.2.2.2.2.2.2.2.2.1
 have k10 := fun q => (KT q).2.2.2.2.2.2.2.2.2.2
 have v0: ∀ q: BelowW W,q.w.cell? ⟨w.heap.size + 1,0,none⟩ = some (.int .i64 v.k) := fun q => by rw [cell_of_row _ _ _ _ _ _ ((q.below.block _ hvl).trans hv)]; rfl
 have v1: ∀ q: BelowW W,q.w.cell? ⟨w.heap.size + 1,1,none⟩ = some (.int .i64 v.n) := fun q => by rw [cell_of_row _ _ _ _ _ _ ((q.below.block _ hvl).trans hv)]; rfl
 have v2: ∀ q: BelowW W,q.w.cell? ⟨w.heap.size + 1,2,none⟩ = some (.string v.s) := fun q => by rw [cell_of_row _ _ _ _ _ _ ((q.below.block _ hvl).trans hv)]; rfl
 simp only at k0 k1 k2 k3 k4 k5 k6 k7 k8 k9 k10
 clear KT hB ht hv htl hvl c0 c1 c2
 have HO1 := Rw.dh (fun q: BelowW W => order_walk v.k v.n v.s lk ln ls q.w)
 have HO2 := Rw.dh (fun q: BelowW W => order_walk hk hn hs v.k v.n v.s q.w)
 have HL1 := Rw.dh (fun (q: BelowW W) n => lets_walk ⟨lh,li,lk,ln,ls⟩ n q.w)
 have HL2 := Rw.dh (fun (q: BelowW W) n => lets_walk ⟨hh,hi,hk,hn,hs⟩ n q.w)
 unfold bdV at HL1 HL2
 unfold valV at HO1 HO2
 have HE: metT r ⟨(j: Int),⟨lh,li,lk,ln,ls⟩,⟨hh,hi,hk,hn,hs⟩⟩ = (letsB ⟨lh,li,lk,ln,ls⟩ (ordI v.k v.n v.s lk ln ls) && letsB ⟨hh,hi,hk,hn,hs⟩ (ordI hk hn hs v.k v.n v.s)) := HM.out
 clear HM
 replace HE := Rw.dh HE
 generalize ordI v.k v.n v.s lk ln ls = n1 at *
 generalize ordI hk hn hs v.k v.n v.s = n2 at *
 cases hl1: letsB ⟨lh,li,lk,ln,ls⟩ n1
 · have HL3: Hid (∀ q: BelowW W,_) := fun q => HL1.out q n1
   rw [hl1] at HL3
   refine wp_region_below (by kernel_rfl) (by kernel_rfl) (fun _ => ?_)
   repeat (go_big_quiet_step (first | rfl | (go_at_call 132; first | (with_reducible exact quiet_of_below (HO1.out _)) | (with_reducible exact quiet_of_below (HO2.out _))) | (go_at_call 131; first | (with_reducible exact quiet_of_below (HL3.out _)) | (with_reducible exact quiet_of_below (HL2.out _ _)))))
   refine wpQuiet_nil ?_
   rintro _ ⟨q,rfl⟩
   go_wp2
   go_ret
   refine ⟨Rw.ret_bool ?_,below_on HB.out q.below⟩
   rw [HE.out,hl1]
   rfl
 · have HL3: Hid (∀ q: BelowW W,_) := fun q => HL1.out q n1
   rw [hl1] at HL3
   refine wp_region_below (by kernel_rfl) (by kernel_rfl) (fun _ => ?_)
   repeat (go_big_quiet_step (first | rfl | (go_at_call 132; first | (with_reducible exact quiet_of_below (HO1.out _)) | (with_reducible exact quiet_of_below (HO2.out _))) | (go_at_call 131; first | (with_reducible exact quiet_of_below (HL3.out _)) | (with_reducible exact quiet_of_below (HL2.out _ _)))))
   refine wpQuiet_nil ?_
   rintro _ ⟨q,rfl⟩
   go_wp2
   go_ret
   refine ⟨Rw.ret_bool ?_,below_on HB.out q.below⟩
   rw [HE.out,hl1]
   rfl
end Go.Proofs.YteibhbnlcpejpaaGreat
