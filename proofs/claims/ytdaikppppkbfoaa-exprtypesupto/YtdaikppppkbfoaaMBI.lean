import Derived.Test.YtdaikppppkbfoaaMBG
import Derived.Test.YtdaikppppkbfoaaMAO
import Derived.Test.YtdaikppppkbfoaaMBH
import Derived.Test.YtdaikppppkbfoaaMAU
set_option maxRecDepth 100000
set_option maxHeartbeats 4000000
namespace Go.Proofs.Ytdaikppppkbfoaa
open Go.RowKit
theorem nnum_walk (n: Int) (w: World): Calls Try.prog 45 #[.int .i64 n] w fun e w' => e = .returned (.agg #[.string ⟨#[118,97,108,117,101]⟩, .int .i64 2, .int .i64 n, .string ⟨#[]⟩, .int .i64 0, .int .i64 0, .slice none 0 0]) /\ w' = w.alloc (.cells #[.string ⟨#[118,97,108,117,101]⟩, .int .i64 2, .int .i64 n, .string ⟨#[]⟩, .int .i64 0, .int .i64 0, .slice none 0 0] 67) := by
 go_enter Try.func45,Try.ntmps45
 go_wp2
 exact bodyPost_ret (v := .agg #[.string ⟨#[118,97,108,117,101]⟩, .int .i64 2, .int .i64 n, .string ⟨#[]⟩, .int .i64 0, .int .i64 0, .slice none 0 0]) (by simp [results,Try.results45,go_sem]) rfl ⟨rfl,rfl⟩
def awF (B: Nat): Nat -> Value -> World -> Prop
 | 0,v,_ => v = nV xA
 | 1,v,_ => v = nV (xN 1)
 | 2,v,w => ∃ q,v = .slice (some ⟨q,0,none⟩) 2 2 /\ H2 w q xA (xN 1)
 | 3,v,w => ∃ q,v = nV (xEq q) /\ H2 w q xA (xN 1)
 | 4,v,_ => v = nV xB
 | 5,v,_ => v = nV xB
 | 6,v,w => ∃ s,v = .slice (some ⟨s,0,none⟩) 2 2 /\ H2 w s xB xB
 | 7,v,w => ∃ s,v = nV (xMul s) /\ H2 w s xB xB
 | 8,v,_ => v = nV (xN 5)
 | 9,v,w => ∃ p s,v = .slice (some ⟨p,0,none⟩) 2 2 /\ H2 w p (xMul s) (xN 5) /\ H2 w s xB xB
 | 10,v,w => ∃ p s,v = nV (xGt p s) /\ H2 w p (xMul s) (xN 5) /\ H2 w s xB xB
 | 11,v,w => ∃ r q p s,v = .slice (some ⟨r,0,none⟩) 2 2 /\ H2 w r (xEq q) (xGt p s) /\ H2 w q xA (xN 1) /\ H2 w p (xMul s) (xN 5) /\ H2 w s xB xB
 | 12,v,w => ∃ r q p s,v = nV (xAnd r q p s) /\ H2 w r (xEq q) (xGt p s) /\ H2 w q xA (xN 1) /\ H2 w p (xMul s) (xN 5) /\ H2 w s xB xB
 | 13,v,w => ∃ t,v = .pointer (some ⟨t,0,none⟩) /\ w.heap[t]? = some (.cells (nC zNL).toArray 67 (0,0)) /\ B <= t
 | _,_,_ => True
theorem awF_mono (B: Nat): ∀ (i: Nat) (v: Value) (w w': World),awF B i v w -> Below w.heap.size w w' -> awF B i v w'
 | 0,_,_,_,h,_ => h
 | 1,_,_,_,h,_ => h
 | 2,_,_,_,⟨q,h,h1⟩,hb => ⟨q,h,h1.on hb⟩
 | 3,_,_,_,⟨q,h,h1⟩,hb => ⟨q,h,h1.on hb⟩
 | 4,_,_,_,h,_ => h
 | 5,_,_,_,h,_ => h
 | 6,_,_,_,⟨q,h,h1⟩,hb => ⟨q,h,h1.on hb⟩
 | 7,_,_,_,⟨q,h,h1⟩,hb => ⟨q,h,h1.on hb⟩
 | 8,_,_,_,h,_ => h
 | 9,_,_,_,⟨p,s,h,h1,h2⟩,hb => ⟨p,s,h,h1.on hb,h2.on hb⟩
 | 10,_,_,_,⟨p,s,h,h1,h2⟩,hb => ⟨p,s,h,h1.on hb,h2.on hb⟩
 | 11,_,_,_,⟨r,q,p,s,h,h1,h2,h3,h4⟩,hb => ⟨r,q,p,s,h,h1.on hb,h2.on hb,h3.on hb,h4.on hb⟩
 | 12,_,_,_,⟨r,q,p,s,h,h1,h2,h3,h4⟩,hb => ⟨r,q,p,s,h,h1.on hb,h2.on hb,h3.on hb,h4.on hb⟩
 | 13,_,_,_,⟨t,h,h1,h2⟩,hb => ⟨t,h,(hb.block _ (Array.getElem?_eq_some_iff.1 h1).1).trans h1,h2⟩
 | _ + 14,_,_,_,_,_ => trivial
def awS (i: Nat): Nat := if i = 13 then 3 else 11 + i
def awL: List Nat := [3,11,12,13,14,15,16,17,18,19,20,21,22,23]
theorem slot_of {a: Act} {t: Nat} {v: Value} (h: a.eval (.tmp t) = v): a.tmps[t]?.getD undef = v := by simpa [Act.eval] using h
section
variable {Q: Exit -> Act -> World -> Prop} {K: Act -> World -> Prop} {o: Oper} {a: Act} {w: World}
theorem ncells' {W: World} {p: Nat} {k: NL} (h: W.heap[p]? = some (.cells (nC k).toArray 67 (0,0))): W.cell? ⟨p,0,none⟩ = some (.string k.op) /\ W.cell? ⟨p,1,none⟩ = some (.int .i64 k.vk) /\ W.cell? ⟨p,2,none⟩ = some (.int .i64 k.vn) /\ W.cell? ⟨p,3,none⟩ = some (.string k.vs) /\ W.cell? ⟨p,4,none⟩ = some (.int .i64 k.var) /\ W.cell? ⟨p,5,none⟩ = some (.int .i64 k.col) /\ W.cell? ⟨p,6,none⟩ = some (.slice k.a k.kids.length k.c) := by
 refine ⟨?_, ?_, ?_, ?_, ?_, ?_, ?_⟩ <;> (rw [cell_of_row _ _ _ _ _ _ h]; rfl)
theorem aop_load {s p: Nat} {x: NL} (ho: o.op = .load 67 (.tmp s)) (hs: a.eval (.tmp s) = .pointer (some ⟨p,0,none⟩)) (hc: w.heap[p]? = some (.cells (nC x).toArray 67 (0,0))) (hK: K (a.put o.dst (nV x)) w): Oper.wp Try.prog o a w K Q := by
 have hs' := slot_of hs
 obtain ⟨c0,c1,c2,c3,c4,c5,c6⟩ := ncells' hc
 unfold Oper.wp
 simp [execOp,ho,go_sem,hs',c0,c1,c2,c3,c4,c5,c6]
 exact hK
theorem aop_slice {s t: Nat} {x y: NL} (ho: o.op = .buildSlice 38 2 #[(0, .tmp s),(1, .tmp t)]) (hs: a.eval (.tmp s) = nV x) (ht: a.eval (.tmp t) = nV y) (hK: K (a.put o.dst (.slice (some ⟨w.heap.size,0,none⟩) 2 2)) (w.alloc (.cells (nC x ++ nC y).toArray 67))): Oper.wp Try.prog o a w K Q := by
 have hs' := slot_of hs
 have ht' := slot_of ht
 unfold nV at hs' ht'
 unfold Oper.wp
 simp [execOp,ho,go_sem,hs',ht',run_underlying Try.underlying38]
 exact hK
theorem aop_build {s n c: Nat} {ad: Option Addr} {op: ByteArray} (ho: o.op = .build 67 #[(0, .const (.string op)),(4, .tmp s)]) (hs: a.eval (.tmp s) = .slice ad n c) (hK: K (a.put o.dst (.agg #[.string op, .int .i64 0, .int .i64 0, .string ⟨#[]⟩, .int .i64 0, .int .i64 0, .slice ad n c])) w): Oper.wp Try.prog o a w K Q := by
 have hs' := slot_of hs
 unfold Oper.wp
 simp [execOp,ho,go_sem,hs']
 exact hK
theorem aop_num {n: Int} {T: TypeId} (ho: o.op = .call { callee := .value (.func 45),args := #[.const (.int .i64 n)],argTypes := #[T] }) (hK: K (a.put o.dst (nV (xN n))) (w.alloc (.cells (nC (xN n)).toArray 67))): Oper.wp Try.prog o a w K Q := by
 unfold Oper.wp
 simp [execOp,ho,resolve,invoke,go_sem]
 refine (nnum_walk n w).mono ?_
 rintro e w' ⟨rfl,rfl⟩
 exact hK
theorem aop_alloc (ho: o.op = .alloc 67) (hK: K (a.put o.dst (.pointer (some ⟨w.heap.size,0,none⟩))) (w.alloc (.cells (nC zNL).toArray 67))): Oper.wp Try.prog o a w K Q := by
 unfold Oper.wp
 simp [execOp,ho,go_sem]
 exact hK
end
structure Aw (W: World) (r q p s t g: Nat): Prop where
 h1: H2 W r (xEq q) (xGt p s)
 h2: H2 W q xA (xN 1)
 h3: H2 W p (xMul s) (xN 5)
 h4: H2 W s xB xB
 ht: W.heap[t]? = some (.cells (nC (xAnd r q p s)).toArray 67 (0,0))
 hg: W.heap[g]? = some (.cells #[.int .i64 2, .int .i64 4611686018427387904, .string ⟨#[]⟩] 44 (0,0))
theorem Aw.on {W W': World} {r q p s t g: Nat} (h: Aw W r q p s t g) (hb: Below W.heap.size W W'): Aw W' r q p s t g :=
 ⟨h.h1.on hb,h.h2.on hb,h.h3.on hb,h.h4.on hb,(hb.block _ (Array.getElem?_eq_some_iff.1 h.ht).1).trans h.ht,(hb.block _ (Array.getElem?_eq_some_iff.1 h.hg).1).trans h.hg⟩
theorem H2.ne {w: World} {p t: Nat} {x y z: NL} (h: H2 w p x y) (ht: w.heap[t]? = some (.cells (nC z).toArray 67 (0,0))): p ≠ t := fun e => by
 unfold H2 at h
 rw [e,ht] at h
 injection h with h
 injection h with h _ _
 have := congrArg Array.size h
 simp [nC] at this
theorem H2.set7 {w: World} {p t: Nat} {x y: NL} (h: H2 w p x y) (hne: p ≠ t) (v0 v1 v2 v3 v4 v5 v6: Value): H2 (((((((w.setCell ⟨t,0,none⟩ v0).setCell ⟨t,1,none⟩ v1).setCell ⟨t,2,none⟩ v2).setCell ⟨t,3,none⟩ v3).setCell ⟨t,4,none⟩ v4).setCell ⟨t,5,none⟩ v5).setCell ⟨t,6,none⟩ v6) p x y :=
 (nheap_set7 hne w v0 v1 v2 v3 v4 v5 v6).trans h
theorem t_set7 {w: World} {t r q p s: Nat} (ht: w.heap[t]? = some (.cells (nC zNL).toArray 67 (0,0))): (((((((w.setCell ⟨t,0,none⟩ (.string ⟨#[97,110,100]⟩)).setCell ⟨t,1,none⟩ (.int .i64 0)).setCell ⟨t,2,none⟩ (.int .i64 0)).setCell ⟨t,3,none⟩ (.string ⟨#[]⟩)).setCell ⟨t,4,none⟩ (.int .i64 0)).setCell ⟨t,5,none⟩ (.int .i64 0)).setCell ⟨t,6,none⟩ (.slice (some ⟨r,0,none⟩) 2 2)).heap[t]? = some (.cells (nC (xAnd r q p s)).toArray 67 (0,0)) :=
 heap_setCell_same _ _ _ _ _ _ (heap_setCell_same _ _ _ _ _ _ (heap_setCell_same _ _ _ _ _ _ (heap_setCell_same _ _ _ _ _ _ (heap_setCell_same _ _ _ _ _ _ (heap_setCell_same _ _ _ _ _ _ (heap_setCell_same _ _ _ _ _ _ ht))))))
def rowX (b: Nat) (m: Int): List RowL := [⟨some ⟨b,0,none⟩,2,[⟨2,m,⟨#[]⟩⟩,gV]⟩]
theorem rowX_fit (b: Nat) (m: Int) (hm: fits m = true): RowsFit (rowX b m) := by
 refine ⟨Nat.le_of_ble_eq_true rfl,fun r hr => ?_⟩
 simp only [rowX,List.mem_cons,List.not_mem_nil,or_false] at hr
 subst hr
 refine ⟨Nat.le_of_ble_eq_true rfl,fun v hv => ?_⟩
 simp only [List.mem_cons,List.not_mem_nil,or_false] at hv
 rcases hv with rfl | rfl
 · exact ⟨rfl,hm,Nat.le_of_ble_eq_true rfl⟩
 · exact ⟨rfl,rfl,Nat.le_of_ble_eq_true rfl⟩
theorem rowX_in {W: World} {b c: Nat} {m: Int} {T U: TypeId} {f1 f2: Nat × Nat} (h1: W.heap[b]? = some (.cells #[.int .i64 2, .int .i64 m, .string ⟨#[]⟩, .int .i64 2, .int .i64 4611686018427387904, .string ⟨#[]⟩] T f1)) (h2: W.heap[c]? = some (.cells #[.slice (some ⟨b,0,none⟩) 2 2] U f2)): RowsIn W (some ⟨c,0,none⟩) (rowX b m) :=
 ⟨slg_flat rowC_len h2,fun r hr => by
  simp only [rowX,List.mem_cons,List.not_mem_nil,or_false] at hr
  subst hr
  exact slg_flat vvC_len h1⟩
theorem aw_call {W: World} {r q p s t g b c: Nat} {m: Int} {T U: TypeId} {f1 f2: Nat × Nat} (h: Aw W r q p s t g) (hm: fits m = true) (h1: W.heap[b]? = some (.cells #[.int .i64 2, .int .i64 m, .string ⟨#[]⟩, .int .i64 2, .int .i64 4611686018427387904, .string ⟨#[]⟩] T f1)) (h2: W.heap[c]? = some (.cells #[.slice (some ⟨b,0,none⟩) 2 2] U f2)) :
 Calls Try.prog 20 #[.agg #[.string ⟨#[97,110,100]⟩, .int .i64 0, .int .i64 0, .string ⟨#[]⟩, .int .i64 0, .int .i64 0, .slice (some ⟨r,0,none⟩) 2 2], .slice (some ⟨c,0,none⟩) 1 1] W fun e w' => e = .returned (.tuple #[vvV (evN 5 (rowX b m) (xAnd r q p s)).1, .int .i64 (evN 5 (rowX b m) (xAnd r q p s)).2]) /\ Below W.heap.size W w' :=
 evalF_walk (n := 5) (by decide) (rc := 1) (rowX_fit b m hm) (xAnd r q p s) (xAnd_in h.h1 h.h2 h.h3 h.h4 5) (xAnd_deep r q p s) (rowX_in h1 h2)
theorem nawake_walk (w: World): Calls Try.prog 15 #[] w fun e w' => e = .returned (.bool true) /\ Below w.heap.size w w' := by
 go_enter Try.func15,Try.ntmps15
 go_wp2_with fail
 refine Rw.to_letter (F := fun W => Below w.heap.size w W /\ W.heap[w.heap.size]? = some (.cells (nC xA).toArray 67 (0,0)) /\ W.heap[w.heap.size + 1]? = some (.cells (nC xB).toArray 67 (0,0))) ⟨below_two w _ _,(Below.heap_alloc _ _ _ (by simp)).trans (Rw.heap_new w _),heap_two w _ _⟩ ?_
 rintro W ⟨hB,hA,hb⟩
 have HB := Rw.dh hB
 have lA := (Array.getElem?_eq_some_iff.1 hA).1
 have lB := (Array.getElem?_eq_some_iff.1 hb).1
 refine Rw.wp_region_facts (U := W) 14 awS awL (awF W.heap.size) (awF_mono W.heap.size) (by intro i j hi hj; unfold awS; split <;> split <;> omega) (by intro i hi; have: i = 0 \/ i = 1 \/ i = 2 \/ i = 3 \/ i = 4 \/ i = 5 \/ i = 6 \/ i = 7 \/ i = 8 \/ i = 9 \/ i = 10 \/ i = 11 \/ i = 12 \/ i = 13 := (by omega); rcases this with rfl | rfl | rfl | rfl | rfl | rfl | rfl | rfl | rfl | rfl | rfl | rfl | rfl | rfl <;> decide) (by intro i hi; show awS i < 54; unfold awS; split <;> omega) (by kernel_rfl) (by kernel_rfl) (by kernel_rfl) (by simp) (Rw.lowO_of (by kernel_rfl)) (by kernel_rfl) ?_ ?_
 · intro i o a w2 hi hi14 hfr hbw hdep
   have e1: a.eval (.tmp 1) = .pointer (some ⟨w.heap.size,0,none⟩) := hfr.eval (by decide)
   have e2: a.eval (.tmp 2) = .pointer (some ⟨w.heap.size + 1,0,none⟩) := hfr.eval (by decide)
   have hA2 := (hbw.block _ lA).trans hA
   have hb2 := (hbw.block _ lB).trans hb
   have HW: ∀ ob,Below w2.heap.size w2 (w2.alloc ob) := fun ob => Rw.below_alloc w2 ob
   have hcs: i = 0 \/ i = 1 \/ i = 2 \/ i = 3 \/ i = 4 \/ i = 5 \/ i = 6 \/ i = 7 \/ i = 8 \/ i = 9 \/ i = 10 \/ i = 11 \/ i = 12 \/ i = 13 := by omega
   have dep: ∀ k,(o.after.any fun e => Region.binds .any e && e.on == k) = true -> awF W.heap.size k (a.eval (.tmp (awS k))) w2 := fun k h => Rw.depO (F := fun k => awF W.heap.size k (a.eval (.tmp (awS k))) w2) k h hdep
   rcases hcs with rfl | rfl | rfl | rfl | rfl | rfl | rfl | rfl | rfl | rfl | rfl | rfl | rfl | rfl
   · obtain rfl := Option.some.inj hi
     exact ⟨rfl,fun K hK => aop_load rfl e1 hA2 (hK _ _ (Below.refl _ _) rfl)⟩
   · obtain rfl := Option.some.inj hi
     exact ⟨rfl,fun K hK => aop_num rfl (hK _ _ (HW _) rfl)⟩
   · obtain rfl := Option.some.inj hi
     have d0: a.eval (.tmp 11) = nV xA := dep 0 (by kernel_rfl)
     have d1: a.eval (.tmp 12) = nV (xN 1) := dep 1 (by kernel_rfl)
     exact ⟨rfl,fun K hK => aop_slice rfl d0 d1 (hK _ _ (HW _) ⟨_,rfl,Rw.heap_new _ _⟩)⟩
   · obtain rfl := Option.some.inj hi
     obtain ⟨q,d0,h1⟩: ∃ q,a.eval (.tmp 13) = .slice (some ⟨q,0,none⟩) 2 2 /\ H2 w2 q xA (xN 1) := dep 2 (by kernel_rfl)
     exact ⟨rfl,fun K hK => aop_build rfl d0 (hK _ _ (Below.refl _ _) ⟨q,rfl,h1⟩)⟩
   · obtain rfl := Option.some.inj hi
     exact ⟨rfl,fun K hK => aop_load rfl e2 hb2 (hK _ _ (Below.refl _ _) rfl)⟩
   · obtain rfl := Option.some.inj hi
     exact ⟨rfl,fun K hK => aop_load rfl e2 hb2 (hK _ _ (Below.refl _ _) rfl)⟩
   · obtain rfl := Option.some.inj hi
     have d0: a.eval (.tmp 15) = nV xB := dep 4 (by kernel_rfl)
     have d1: a.eval (.tmp 16) = nV xB := dep 5 (by kernel_rfl)
     exact ⟨rfl,fun K hK => aop_slice rfl d0 d1 (hK _ _ (HW _) ⟨_,rfl,Rw.heap_new _ _⟩)⟩
   · obtain rfl := Option.some.inj hi
     obtain ⟨q,d0,h1⟩: ∃ q,a.eval (.tmp 17) = .slice (some ⟨q,0,none⟩) 2 2 /\ H2 w2 q xB xB := dep 6 (by kernel_rfl)
     exact ⟨rfl,fun K hK => aop_build rfl d0 (hK _ _ (Below.refl _ _) ⟨q,rfl,h1⟩)⟩
   · obtain rfl := Option.some.inj hi
     exact ⟨rfl,fun K hK => aop_num rfl (hK _ _ (HW _) rfl)⟩
   · obtain rfl := Option.some.inj hi
     obtain ⟨s,d0,h1⟩: ∃ s,a.eval (.tmp 18) = nV (xMul s) /\ H2 w2 s xB xB := dep 7 (by kernel_rfl)
     have d1: a.eval (.tmp 19) = nV (xN 5) := dep 8 (by kernel_rfl)
     exact ⟨rfl,fun K hK => aop_slice rfl d0 d1 (hK _ _ (HW _) ⟨_,s,rfl,Rw.heap_new _ _,h1.on (HW _)⟩)⟩
   · obtain rfl := Option.some.inj hi
     obtain ⟨p,s,d0,h1,h2⟩: ∃ p s,a.eval (.tmp 20) = .slice (some ⟨p,0,none⟩) 2 2 /\ H2 w2 p (xMul s) (xN 5) /\ H2 w2 s xB xB := dep 9 (by kernel_rfl)
     exact ⟨rfl,fun K hK => aop_build rfl d0 (hK _ _ (Below.refl _ _) ⟨p,s,rfl,h1,h2⟩)⟩
   · obtain rfl := Option.some.inj hi
     obtain ⟨q,d0,h1⟩: ∃ q,a.eval (.tmp 14) = nV (xEq q) /\ H2 w2 q xA (xN 1) := dep 3 (by kernel_rfl)
     obtain ⟨p,s,d1,h2,h3⟩: ∃ p s,a.eval (.tmp 21) = nV (xGt p s) /\ H2 w2 p (xMul s) (xN 5) /\ H2 w2 s xB xB := dep 10 (by kernel_rfl)
     exact ⟨rfl,fun K hK => aop_slice rfl d0 d1 (hK _ _ (HW _) ⟨_,q,p,s,rfl,Rw.heap_new _ _,h1.on (HW _),h2.on (HW _),h3.on (HW _)⟩)⟩
   · obtain rfl := Option.some.inj hi
     obtain ⟨r,q,p,s,d0,h1,h2,h3,h4⟩: ∃ r q p s,a.eval (.tmp 22) = .slice (some ⟨r,0,none⟩) 2 2 /\ H2 w2 r (xEq q) (xGt p s) /\ H2 w2 q xA (xN 1) /\ H2 w2 p (xMul s) (xN 5) /\ H2 w2 s xB xB := dep 11 (by kernel_rfl)
     exact ⟨rfl,fun K hK => aop_build rfl d0 (hK _ _ (Below.refl _ _) ⟨r,q,p,s,rfl,h1,h2,h3,h4⟩)⟩
   · obtain rfl := Option.some.inj hi
     exact ⟨rfl,fun K hK => aop_alloc rfl (hK _ _ (HW _) ⟨_,rfl,Rw.heap_new _ _,hbw.size⟩)⟩
 · intro a w2 hfr hbw hk
   obtain ⟨r,q,p,s,k12,h1,h2,h3,h4⟩: ∃ r q p s,a.eval (.tmp 23) = .agg #[.string ⟨#[97,110,100]⟩, .int .i64 0, .int .i64 0, .string ⟨#[]⟩, .int .i64 0, .int .i64 0, .slice (some ⟨r,0,none⟩) 2 2] /\ H2 w2 r (xEq q) (xGt p s) /\ H2 w2 q xA (xN 1) /\ H2 w2 p (xMul s) (xN 5) /\ H2 w2 s xB xB := hk 12 (by decide)
   obtain ⟨t,k13,ht,htB⟩: ∃ t,a.eval (.tmp 3) = .pointer (some ⟨t,0,none⟩) /\ w2.heap[t]? = some (.cells (nC zNL).toArray 67 (0,0)) /\ W.heap.size <= t := hk 13 (by decide)
   have htw: w.heap.size <= t := Nat.le_trans hB.size htB
   have ha := hfr.all (by intro t ht; simp [awL] at ht; show t < 54; omega)
   rw [ha]
   simp only [Rw.putAll,awL]
   rw [k13,k12]
   generalize a.eval (.tmp 11) = u11,a.eval (.tmp 12) = u12,a.eval (.tmp 13) = u13,a.eval (.tmp 14) = u14,a.eval (.tmp 15) = u15,a.eval (.tmp 16) = u16,a.eval (.tmp 17) = u17,a.eval (.tmp 18) = u18,a.eval (.tmp 19) = u19,a.eval (.tmp 20) = u20,a.eval (.tmp 21) = u21,a.eval (.tmp 22) = u22
   simp only [Act.put,List.setIfInBounds_toArray,List.set_cons_succ,List.set_cons_zero]
   have HBw := Rw.dh (below_on HB.out hbw)
   have HH := Rw.dh (And.intro h1 (And.intro h2 (And.intro h3 h4)))
   have HT := Rw.dh ht
   obtain ⟨z0,z1,z2,z3,z4,z5,z6⟩: w2.cell? ⟨t,0,none⟩ = some (.string ⟨#[]⟩) /\ w2.cell? ⟨t,1,none⟩ = some (.int .i64 0) /\ w2.cell? ⟨t,2,none⟩ = some (.int .i64 0) /\ w2.cell? ⟨t,3,none⟩ = some (.string ⟨#[]⟩) /\ w2.cell? ⟨t,4,none⟩ = some (.int .i64 0) /\ w2.cell? ⟨t,5,none⟩ = some (.int .i64 0) /\ w2.cell? ⟨t,6,none⟩ = some (.slice none 0 0) := ncells' ht
   have htl := (Array.getElem?_eq_some_iff.1 ht).1
   have y0: w2.frozen? ⟨t,0,none⟩ = false := frozen_of_row _ _ _ _ _ ht
   have y1: w2.frozen? ⟨t,1,none⟩ = false := frozen_of_row _ _ _ _ _ ht
   have y2: w2.frozen? ⟨t,2,none⟩ = false := frozen_of_row _ _ _ _ _ ht
   have y3: w2.frozen? ⟨t,3,none⟩ = false := frozen_of_row _ _ _ _ _ ht
   have y4: w2.frozen? ⟨t,4,none⟩ = false := frozen_of_row _ _ _ _ _ ht
   have y5: w2.frozen? ⟨t,5,none⟩ = false := frozen_of_row _ _ _ _ _ ht
   have y6: w2.frozen? ⟨t,6,none⟩ = false := frozen_of_row _ _ _ _ _ ht
   clear k12 k13 ha h1 h2 h3 h4 ht hk hfr hbw hA hb lA lB hB
   go_wp2_with fail
   have f1 := HH.out.1.set7 (HH.out.1.ne HT.out) (.string ⟨#[97,110,100]⟩) (.int .i64 0) (.int .i64 0) (.string ⟨#[]⟩) (.int .i64 0) (.int .i64 0) (.slice (some ⟨r,0,none⟩) 2 2)
   have f2 := HH.out.2.1.set7 (HH.out.2.1.ne HT.out) (.string ⟨#[97,110,100]⟩) (.int .i64 0) (.int .i64 0) (.string ⟨#[]⟩) (.int .i64 0) (.int .i64 0) (.slice (some ⟨r,0,none⟩) 2 2)
   have f3 := HH.out.2.2.1.set7 (HH.out.2.2.1.ne HT.out) (.string ⟨#[97,110,100]⟩) (.int .i64 0) (.int .i64 0) (.string ⟨#[]⟩) (.int .i64 0) (.int .i64 0) (.slice (some ⟨r,0,none⟩) 2 2)
   have f4 := HH.out.2.2.2.set7 (HH.out.2.2.2.ne HT.out) (.string ⟨#[97,110,100]⟩) (.int .i64 0) (.int .i64 0) (.string ⟨#[]⟩) (.int .i64 0) (.int .i64 0) (.slice (some ⟨r,0,none⟩) 2 2)
   have ft := t_set7 (r := r) (q := q) (p := p) (s := s) HT.out
   have fB := nbelow_set7 htw HBw.out (.string ⟨#[97,110,100]⟩) (.int .i64 0) (.int .i64 0) (.string ⟨#[]⟩) (.int .i64 0) (.int .i64 0) (.slice (some ⟨r,0,none⟩) 2 2)
   have hsz: (((((((w2.setCell ⟨t,0,none⟩ (.string ⟨#[97,110,100]⟩)).setCell ⟨t,1,none⟩ (.int .i64 0)).setCell ⟨t,2,none⟩ (.int .i64 0)).setCell ⟨t,3,none⟩ (.string ⟨#[]⟩)).setCell ⟨t,4,none⟩ (.int .i64 0)).setCell ⟨t,5,none⟩ (.int .i64 0)).setCell ⟨t,6,none⟩ (.slice (some ⟨r,0,none⟩) 2 2)).heap.size = w2.heap.size := by simp
   clear z0 z1 z2 z3 z4 z5 z6 y0 y1 y2 y3 y4 y5 y6 HH HT HBw htl
   generalize ((((((w2.setCell ⟨t,0,none⟩ (.string ⟨#[97,110,100]⟩)).setCell ⟨t,1,none⟩ (.int .i64 0)).setCell ⟨t,2,none⟩ (.int .i64 0)).setCell ⟨t,3,none⟩ (.string ⟨#[]⟩)).setCell ⟨t,4,none⟩ (.int .i64 0)).setCell ⟨t,5,none⟩ (.int .i64 0)).setCell ⟨t,6,none⟩ (.slice (some ⟨r,0,none⟩) 2 2) = S7 at *
   rw [<- hsz]
   have b3 := below_three S7 (.cells #[.int .i64 2, .int .i64 4611686018427387904, .string ⟨#[]⟩] 44) (.cells #[.int .i64 2, .int .i64 2, .string ⟨#[]⟩, .int .i64 2, .int .i64 4611686018427387904, .string ⟨#[]⟩] 44) (.cells #[.slice (some ⟨S7.heap.size + 1,0,none⟩) 2 2] 65)
   have hg: (((S7.alloc (.cells #[.int .i64 2, .int .i64 4611686018427387904, .string ⟨#[]⟩] 44)).alloc (.cells #[.int .i64 2, .int .i64 2, .string ⟨#[]⟩, .int .i64 2, .int .i64 4611686018427387904, .string ⟨#[]⟩] 44)).alloc (.cells #[.slice (some ⟨S7.heap.size + 1,0,none⟩) 2 2] 65)).heap[S7.heap.size]? = some (.cells #[.int .i64 2, .int .i64 4611686018427387904, .string ⟨#[]⟩] 44 (0,0)) := (Below.heap_alloc _ _ _ (by simp; omega)).trans ((Below.heap_alloc _ _ _ (by simp)).trans (Rw.heap_new S7 _))
   have hC := aw_call (m := 2) (Aw.mk (f1.on b3) (f2.on b3) (f3.on b3) (f4.on b3) ((b3.block _ (Array.getElem?_eq_some_iff.1 ft).1).trans ft) hg) rfl ((Below.heap_alloc _ _ _ (by simp)).trans (heap_two S7 _ _)) (heap_three S7 _ _ _)
   have hAw := Aw.mk (f1.on b3) (f2.on b3) (f3.on b3) (f4.on b3) ((b3.block _ (Array.getElem?_eq_some_iff.1 ft).1).trans ft) hg
   rw [show evN 5 (rowX (S7.heap.size + 1) 2) (xAnd r q p s) = (⟨1,0,⟨#[]⟩⟩,0) from ev_first] at hC
   refine hC.mono ?_
   rintro e w5 ⟨rfl,hb5⟩
   have HA5 := Rw.dh (hAw.on hb5)
   have HB5 := Rw.dh (below_on (below_on fB b3) hb5)
   obtain ⟨c0,c1,c2,c3,c4,c5,c6⟩: w5.cell? ⟨t,0,none⟩ = some (.string ⟨#[97,110,100]⟩) /\ w5.cell? ⟨t,1,none⟩ = some (.int .i64 0) /\ w5.cell? ⟨t,2,none⟩ = some (.int .i64 0) /\ w5.cell? ⟨t,3,none⟩ = some (.string ⟨#[]⟩) /\ w5.cell? ⟨t,4,none⟩ = some (.int .i64 0) /\ w5.cell? ⟨t,5,none⟩ = some (.int .i64 0) /\ w5.cell? ⟨t,6,none⟩ = some (.slice (some ⟨r,0,none⟩) 2 2) := ncells' (hAw.on hb5).ht
   obtain ⟨g0,g1,g2, -, -, -, g6⟩ := vbox (hAw.on hb5).hg (Below.refl _ _)
   have htl := (Array.getElem?_eq_some_iff.1 (hAw.on hb5).ht).1
   clear hC hAw hb5 b3 hg f1 f2 f3 f4 ft fB htw htB
   clear hsz
   unfold vvV valV
   go_wp2_with fail
   have b4 := below_three w5 (.cells #[.int .i64 1, .int .i64 0, .string ⟨#[]⟩] 44) (.cells #[.int .i64 2, .int .i64 1, .string ⟨#[]⟩, .int .i64 2, .int .i64 4611686018427387904, .string ⟨#[]⟩] 44) (.cells #[.slice (some ⟨w5.heap.size + 1,0,none⟩) 2 2] 65)
   have hv: (((w5.alloc (.cells #[.int .i64 1, .int .i64 0, .string ⟨#[]⟩] 44)).alloc (.cells #[.int .i64 2, .int .i64 1, .string ⟨#[]⟩, .int .i64 2, .int .i64 4611686018427387904, .string ⟨#[]⟩] 44)).alloc (.cells #[.slice (some ⟨w5.heap.size + 1,0,none⟩) 2 2] 65)).heap[w5.heap.size]? = some (.cells #[.int .i64 1, .int .i64 0, .string ⟨#[]⟩] 44 (0,0)) := (Below.heap_alloc _ _ _ (by simp; omega)).trans ((Below.heap_alloc _ _ _ (by simp)).trans (Rw.heap_new w5 _))
   have hC := aw_call (m := 1) (HA5.out.on b4) rfl ((Below.heap_alloc _ _ _ (by simp)).trans (heap_two w5 _ _)) (heap_three w5 _ _ _)
   rw [show evN 5 (rowX (w5.heap.size + 1) 1) (xAnd r q p s) = (vz,7) from ev_second] at hC
   refine hC.mono ?_
   rintro e w6 ⟨rfl,hb6⟩
   have HB6 := Rw.dh (below_on (below_on HB5.out b4) hb6)
   obtain ⟨v0,v1,v2, -, -, -, v6⟩ := vbox hv hb6
   clear hC hb6 b4 hv HA5 HB5 c0 c1 c2 c3 c4 c5 c6 g0 g1 g2 g6 htl
   unfold vvV valV vz
   go_wp2
   go_ret
   exact ⟨rfl,HB6.out.alloc HB6.out.size _⟩
end Go.Proofs.Ytdaikppppkbfoaa
