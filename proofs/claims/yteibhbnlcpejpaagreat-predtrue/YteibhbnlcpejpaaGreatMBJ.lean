import Derived.Test.YteibhbnlcpejpaaGreatMBI
import Derived.Test.YteibhbnlcpejpaaGreatMAT
set_option maxRecDepth 100000
set_option maxHeartbeats 4000000
namespace Go.Proofs.YteibhbnlcpejpaaGreat
open Go.RowKit
def rowN (l: List NL): Array Value := (Rw.flat nC l).toArray
set_option maxRecDepth 100000
section
variable {Q: Exit -> Act -> World -> Prop} {K: Act -> World -> Prop} {o: Oper} {a: Act} {w: World}
theorem iop_exprs {s: Nat} {ad: Addr} {v: Value} (ho: o.op = .load 28 (.tmp s)) (hs: a.eval (.tmp s) = .pointer (some ad)) (hc: w.cell? ad = some v) (hK: K (a.put o.dst v) w): Oper.wp Tryz.prog o a w K Q := by
 have hs' := kslot_of hs
 unfold Oper.wp
 simp [execOp,ho,go_sem,hs',hc]
 exact hK
theorem iop_nodes {s: Nat} {ad: Addr} {v: Value} (ho: o.op = .load 42 (.tmp s)) (hs: a.eval (.tmp s) = .pointer (some ad)) (hc: w.cell? ad = some v) (hK: K (a.put o.dst v) w): Oper.wp Tryz.prog o a w K Q := by
 have hs' := kslot_of hs
 unfold Oper.wp
 simp [execOp,ho,go_sem,hs',hc]
 exact hK
theorem iop_len {s n c: Nat} {ad: Option Addr} (ho: o.op = .call { callee := .builtin .len,args := #[.tmp s],argTypes := #[28] }) (hs: a.eval (.tmp s) = .slice ad n c) (hK: K (a.put o.dst (.int .i64 (n: Int))) w): Oper.wp Tryz.prog o a w K Q := by
 have hs' := kslot_of hs
 unfold Oper.wp
 simp [execOp,ho,go_sem,hs',Builtin.len_,run_underlying Tryz.underlying28]
 exact hK
theorem made1: madeCells (nV zNL).cells 7 = rowN [zNL] := by kernel_rfl
theorem made2: madeCells (nV zNL).cells 14 = rowN [zNL,zNL] := by kernel_rfl
theorem run_mk (w: World) {m: Nat} (hm: m = 1 \/ m = 2): (Instr.makeSlice 42 (.int .i64 (m: Int)) (.int .i64 (m: Int))).run Tryz.prog w = .ok (.slice (some ⟨w.heap.size,0,none⟩) m m) (w.alloc (.cells (rowN (List.replicate m zNL)) 44)) := by
 obtain ⟨i,hi,hz⟩ := Option.map_eq_some_iff.1 (show (Tryz.prog.info? 44).map (fun i => (i.zero,i.size,i.bytes)) = some (some (nV zNL),7,88) by kernel_rfl)
 simp only [Prod.mk.injEq] at hz
 obtain ⟨hz,hs,hb⟩ := hz
 refine (run_make (P := Tryz.prog) w 42 44 i _ Tryz.underlying42 hi hz .i64 .i64 (m: Int) (m: Int) (by omega) (by omega) (by rw [hb]; omega) (by omega)).trans ?_
 rw [hs]
 rcases hm with rfl | rfl
 · exact congrArg (fun z => Result.ok (Value.slice (some ⟨w.heap.size,0,none⟩) 1 1) (w.alloc (.cells z 44))) made1
 · exact congrArg (fun z => Result.ok (Value.slice (some ⟨w.heap.size,0,none⟩) 2 2) (w.alloc (.cells z 44))) made2
theorem iop_make {s m: Nat} (hm: m = 1 \/ m = 2) (ho: o.op = .makeSlice 42 (.tmp s) (.tmp s)) (hs: a.eval (.tmp s) = .int .i64 (m: Int)) (hK: K (a.put o.dst (.slice (some ⟨w.heap.size,0,none⟩) m m)) (w.alloc (.cells (rowN (List.replicate m zNL)) 44))): Oper.wp Tryz.prog o a w K Q := by
 have hs' := kslot_of hs
 have hr := run_mk w hm
 unfold Oper.wp
 simp [execOp,ho,go_sem,hs',hr]
 exact hK
theorem iop_build {s t n c: Nat} {ad: Option Addr} {op: ByteArray} (ho: o.op = .build 44 #[(0, .tmp s),(4, .tmp t)]) (hs: a.eval (.tmp s) = .string op) (ht: a.eval (.tmp t) = .slice ad n c) (hK: K (a.put o.dst (.agg #[.string op, .int .i64 0, .int .i64 0, .string ⟨#[]⟩, .int .i64 0, .int .i64 0, .slice ad n c])) w): Oper.wp Tryz.prog o a w K Q := by
 have hs' := kslot_of hs
 have ht' := kslot_of ht
 unfold Oper.wp
 simp [execOp,ho,go_sem,hs',ht']
 exact hK
theorem iop_indexN {s t q m j: Nat} (ho: o.op = .indexAddr 42 (.tmp s) (.tmp t)) (hs: a.eval (.tmp s) = .slice (some ⟨q,0,none⟩) m m) (ht: a.eval (.tmp t) = .int .i64 (j: Int)) (hj: j < m) (hK: K (a.put o.dst (.pointer (some ⟨q,j * 7,none⟩))) w): Oper.wp Tryz.prog o a w K Q := by
 have hs' := kslot_of hs
 have ht' := kslot_of ht
 unfold Oper.wp
 simp [execOp,ho,go_sem,hs',ht',hj]
 exact hK
theorem iop_indexT {s t p j: Nat} (ho: o.op = .indexAddr 233 (.tmp s) (.tmp t)) (hs: a.eval (.tmp s) = .pointer (some ⟨p,0,none⟩)) (ht: a.eval (.tmp t) = .int .i64 (j: Int)) (hj: j < 2) (hK: K (a.put o.dst (.pointer (some ⟨p,j,none⟩))) w): Oper.wp Tryz.prog o a w K Q := by
 have hs' := kslot_of hs
 have ht' := kslot_of ht
 have hj': (j: Int) < 2 := by omega
 unfold Oper.wp
 simp [execOp,ho,go_sem,hs',ht',hj']
 exact hK
theorem iop_indexC {s p j: Nat} (ho: o.op = .indexAddr 233 (.tmp s) (.const (.int .i64 (j: Int)))) (hs: a.eval (.tmp s) = .pointer (some ⟨p,0,none⟩)) (hj: j < 2) (hK: K (a.put o.dst (.pointer (some ⟨p,j,none⟩))) w): Oper.wp Tryz.prog o a w K Q := by
 have hs' := kslot_of hs
 have hj': (j: Int) < 2 := by omega
 unfold Oper.wp
 simp [execOp,ho,go_sem,hs',hj']
 exact hK
theorem iop_loadX {s p: Nat} {x: XL} (ho: o.op = .load 30 (.tmp s)) (hs: a.eval (.tmp s) = .pointer (some ⟨p,0,none⟩)) (hc: w.heap[p]? = some (.cells (xC x).toArray 30 (0,0))) (hK: K (a.put o.dst (xV x)) w): Oper.wp Tryz.prog o a w K Q := by
 have hs' := kslot_of hs
 obtain ⟨x0,x1,x2,x3,x4,x5,x6⟩ := xbox (x := x) hc
 unfold Oper.wp
 simp [execOp,ho,go_sem,hs',x0,x1,x2,x3,x4,x5,x6]
 exact hK
theorem iop_found {s t: Nat} {T U: TypeId} {x y: Value} {P: Ending -> World -> Prop} (ho: o.op = .call { callee := .value (.func 64),args := #[.tmp s, .tmp t],argTypes := #[T,U] }) (hs: a.eval (.tmp s) = x) (ht: a.eval (.tmp t) = y) (hC: Calls Tryz.prog 64 #[x,y] w P)
 (hK: ∀ e w',P e w' -> (∃ v,e = .returned v /\ K (a.put o.dst v) w') \/ (∃ c,e = .panicked c /\ Q (.panic c) a w')): Oper.wp Tryz.prog o a w K Q := by
 have hs' := kslot_of hs
 have ht' := kslot_of ht
 unfold Oper.wp
 simp [execOp,ho,resolve,invoke,go_sem,hs',ht']
 refine hC.mono ?_
 intro e w' h
 rcases hK e w' h with ⟨v,rfl,hk⟩ | ⟨c,rfl,hq⟩
 · exact hk
 · exact hq
theorem iop_typeOf {s t u: Nat} {T U V: TypeId} {x: ByteArray} {m n: Int} (ho: o.op = .call { callee := .value (.func 110),args := #[.tmp s, .tmp t, .tmp u],argTypes := #[T,U,V] }) (hs: a.eval (.tmp s) = .string x) (ht: a.eval (.tmp t) = .int .i64 m) (hu: a.eval (.tmp u) = .int .i64 n)
 (hK: ∀ v,typeO x.toList m n = some v -> K (a.put o.dst (.int .i64 v)) w) (hP: typeO x.toList m n = none -> Q (.panic (stopped 4 0)) a w): Oper.wp Tryz.prog o a w K Q := by
 have hs' := kslot_of hs
 have ht' := kslot_of ht
 have hu' := kslot_of hu
 unfold Oper.wp
 simp [execOp,ho,resolve,invoke,go_sem,hs',ht',hu']
 refine (typeOf_walk x m n w).mono ?_
 rintro e w' ⟨rfl,rfl⟩
 cases h: typeO x.toList m n with
 | none => exact hP h
 | some v => exact hK v h
theorem iop_extract0 {s: Nat} {x y: Value} (ho: o.op = .extract (.tmp s) 0) (hs: a.eval (.tmp s) = .tuple #[x,y]) (hK: K (a.put o.dst x) w): Oper.wp Tryz.prog o a w K Q := by
 have hs' := kslot_of hs
 unfold Oper.wp
 simp [execOp,ho,go_sem,hs']
 exact hK
theorem iop_extract1 {s: Nat} {x y: Value} (ho: o.op = .extract (.tmp s) 1) (hs: a.eval (.tmp s) = .tuple #[x,y]) (hK: K (a.put o.dst y) w): Oper.wp Tryz.prog o a w K Q := by
 have hs' := kslot_of hs
 unfold Oper.wp
 simp [execOp,ho,go_sem,hs']
 exact hK
theorem iop_storeT {s t p j: Nat} {v0 v1 v: Int} (ho: o.op = .store 3 (.tmp s) (.tmp t)) (hd: o.dst = none) (hs: a.eval (.tmp s) = .pointer (some ⟨p,j,none⟩)) (ht: a.eval (.tmp t) = .int .i64 v) (hj: j < 2) (hc: w.heap[p]? = some (.cells #[.int .i64 v0, .int .i64 v1] 233 (0,0)))
 (hK: ∀ w',w'.heap[p]? = some (.cells #[.int .i64 (if j = 0 then v else v0), .int .i64 (if j = 0 then v1 else v)] 233 (0,0)) -> (∀ q,q ≠ p -> w'.heap[q]? = w.heap[q]?) -> w'.heap.size = w.heap.size -> Below p w w' -> K a w'): Oper.wp Tryz.prog o a w K Q := by
 have hs' := kslot_of hs
 have ht' := kslot_of ht
 have hk := hK (w.setCell ⟨p,j,none⟩ (.int .i64 v)) (by
  have h0 := heap_setCell_same w p j _ 233 (.int .i64 v) hc
  rcases (by omega: j = 0 \/ j = 1) with rfl | rfl
  · simpa using h0
  · simpa using h0) (fun q hq => heap_setCell_other _ _ _ _ hq) (by simp) ((Below.refl p w).setCell (Nat.le_refl _) _)
 have e0: w.cell? ⟨p,j,none⟩ = some (.int .i64 (if j = 0 then v0 else v1)) := by
  rw [cell_of_row _ _ _ _ _ _ hc]
  rcases (by omega: j = 0 \/ j = 1) with rfl | rfl <;> rfl
 have f: w.frozen? ⟨p,j,none⟩ = false := frozen_of_row _ _ _ _ _ hc
 unfold Oper.wp
 simp [execOp,ho,go_sem,hs',ht',e0,f,hd]
 exact hk
end
def mV (xo: ByteArray) (q m: Nat): Value := .agg #[.string xo, .int .i64 0, .int .i64 0, .string ⟨#[]⟩, .int .i64 0, .int .i64 0, .slice (some ⟨q,0,none⟩) m m]
def fmF (b B m xp: Nat) (xa: Option Addr) (xo: ByteArray): Nat -> Value -> World -> Prop
 | 0,v,_ => v = .pointer (some ⟨b,0,none⟩)
 | 1,v,_ => v = .string xo
 | 2,v,_ => v = .string xo
 | 3,v,_ => v = .pointer (some ⟨b,6,none⟩)
 | 4,v,_ => v = .slice xa m xp
 | 5,v,_ => v = .int .i64 (m: Int)
 | 6,v,w => ∃ q,B <= q /\ v = .slice (some ⟨q,0,none⟩) m m /\ w.heap[q]? = some (.cells (rowN (List.replicate m zNL)) 44 (0,0))
 | 7,v,w => ∃ q,B <= q /\ v = mV xo q m /\ w.heap[q]? = some (.cells (rowN (List.replicate m zNL)) 44 (0,0))
 | 8,v,w => ∃ p,B <= p /\ v = .pointer (some ⟨p,0,none⟩) /\ w.heap[p]? = some (.cells (nC zNL).toArray 44 (0,0))
 | _,_,_ => True
theorem fmF_mono {b B m xp: Nat} {xa: Option Addr} {xo: ByteArray}: ∀ (j: Nat) (u: Value) (w w': World),Below w.heap.size w w' -> fmF b B m xp xa xo j u w -> fmF b B m xp xa xo j u w'
 | 0,_,_,_,_,h | 1,_,_,_,_,h | 2,_,_,_,_,h | 3,_,_,_,_,h | 4,_,_,_,_,h | 5,_,_,_,_,h => h
 | 6,_,_,_,hb,⟨q,h1,h2,h3⟩ => ⟨q,h1,h2,(hb.block q (Array.getElem?_eq_some_iff.1 h3).1).trans h3⟩
 | 7,_,_,_,hb,⟨q,h1,h2,h3⟩ => ⟨q,h1,h2,(hb.block q (Array.getElem?_eq_some_iff.1 h3).1).trans h3⟩
 | 8,_,_,_,hb,⟨q,h1,h2,h3⟩ => ⟨q,h1,h2,(hb.block q (Array.getElem?_eq_some_iff.1 h3).1).trans h3⟩
 | _ + 9,_,_,_,_,_ => trivial
def SLq (xo: ByteArray) (m: Nat) (a: Act) (q: Nat): Prop := a.eval (.tmp 57) = .slice (some ⟨q,0,none⟩) m m \/ a.eval (.tmp 58) = mV xo q m
structure JX (xo: ByteArray) (m: Nat) (a: Act) (w: World): Prop where
 box: ∀ p,a.eval (.tmp 8) = .pointer (some ⟨p,0,none⟩) -> p < w.heap.size
 row: ∀ q,SLq xo m a q -> q < w.heap.size
 two: ∀ p q,a.eval (.tmp 8) = .pointer (some ⟨p,0,none⟩) -> SLq xo m a q -> p ≠ q
theorem JX.keep {xo: ByteArray} {m: Nat} {a a': Act} {w w': World} (h: JX xo m a w) (e8: a'.eval (.tmp 8) = a.eval (.tmp 8)) (e57: a'.eval (.tmp 57) = a.eval (.tmp 57)) (e58: a'.eval (.tmp 58) = a.eval (.tmp 58)) (hs: w.heap.size <= w'.heap.size): JX xo m a' w' := by
 have hq: ∀ q,SLq xo m a' q -> SLq xo m a q := fun q hq => by unfold SLq at hq ⊢; rwa [e57,e58] at hq
 exact ⟨fun p hp => Nat.lt_of_lt_of_le (h.box p (e8 ▸ hp)) hs,fun q g => Nat.lt_of_lt_of_le (h.row q (hq q g)) hs,fun p q hp g => h.two p q (e8 ▸ hp) (hq q g)⟩
theorem mV_inj {xo: ByteArray} {q q' m: Nat} (h: mV xo q m = mV xo q' m): q = q' := by
 unfold mV at h
 simp at h
 exact h
theorem sl_inj {q q' m: Nat} (h: Value.slice (some ⟨q,0,none⟩) m m = .slice (some ⟨q',0,none⟩) m m): q = q' := by
 simp at h
 exact h
theorem pt_inj {q q': Nat} (h: Value.pointer (some ⟨q,0,none⟩) = .pointer (some ⟨q',0,none⟩)): q = q' := by
 simp at h
 exact h
set_option maxRecDepth 100000
theorem set14_a {w: World} {p: Nat} {T: TypeId} {a0 a1 a2 a3 a4 a5 a6 a7 a8 a9 a10 a11 a12 a13 b0 b1 b2 b3 b4 b5 b6: Value} (h: w.heap[p]? = some (.cells #[a0,a1,a2,a3,a4,a5,a6,a7,a8,a9,a10,a11,a12,a13] T (0,0))): (((((((w.setCell ⟨p,0,none⟩ b0).setCell ⟨p,1,none⟩ b1).setCell ⟨p,2,none⟩ b2).setCell ⟨p,3,none⟩ b3).setCell ⟨p,4,none⟩ b4).setCell ⟨p,5,none⟩ b5).setCell ⟨p,6,none⟩ b6).heap[p]? = some (.cells #[b0,b1,b2,b3,b4,b5,b6,a7,a8,a9,a10,a11,a12,a13] T (0,0)) := by
 have h0 := heap_setCell_same w p 0 _ T b0 h
 have h1 := heap_setCell_same _ p 1 _ T b1 h0
 have h2 := heap_setCell_same _ p 2 _ T b2 h1
 have h3 := heap_setCell_same _ p 3 _ T b3 h2
 have h4 := heap_setCell_same _ p 4 _ T b4 h3
 have h5 := heap_setCell_same _ p 5 _ T b5 h4
 have h6 := heap_setCell_same _ p 6 _ T b6 h5
 simpa using h6
theorem set14_b {w: World} {p: Nat} {T: TypeId} {a0 a1 a2 a3 a4 a5 a6 a7 a8 a9 a10 a11 a12 a13 b0 b1 b2 b3 b4 b5 b6: Value} (h: w.heap[p]? = some (.cells #[a0,a1,a2,a3,a4,a5,a6,a7,a8,a9,a10,a11,a12,a13] T (0,0))): (((((((w.setCell ⟨p,7,none⟩ b0).setCell ⟨p,8,none⟩ b1).setCell ⟨p,9,none⟩ b2).setCell ⟨p,10,none⟩ b3).setCell ⟨p,11,none⟩ b4).setCell ⟨p,12,none⟩ b5).setCell ⟨p,13,none⟩ b6).heap[p]? = some (.cells #[a0,a1,a2,a3,a4,a5,a6,b0,b1,b2,b3,b4,b5,b6] T (0,0)) := by
 have h0 := heap_setCell_same w p 7 _ T b0 h
 have h1 := heap_setCell_same _ p 8 _ T b1 h0
 have h2 := heap_setCell_same _ p 9 _ T b2 h1
 have h3 := heap_setCell_same _ p 10 _ T b3 h2
 have h4 := heap_setCell_same _ p 11 _ T b4 h3
 have h5 := heap_setCell_same _ p 12 _ T b5 h4
 have h6 := heap_setCell_same _ p 13 _ T b6 h5
 simpa using h6
theorem rowN_one (y: NL): rowN [y] = (nC y).toArray := by simp [rowN,Rw.flat]
theorem rowN_two (y z: NL): rowN [y,z] = (nC y ++ nC z).toArray := by simp [rowN,Rw.flat]
section
variable {Q: Exit -> Act -> World -> Prop} {K: Act -> World -> Prop} {o: Oper} {a: Act} {w: World}
theorem nop_two0 {s t p: Nat} {y1 y2 z: NL} (ho: o.op = .store 44 (.tmp s) (.tmp t)) (hd: o.dst = none) (hs: a.eval (.tmp s) = .pointer (some ⟨p,0,none⟩)) (ht: a.eval (.tmp t) = nV z) (hy: w.heap[p]? = some (.cells (nC y1 ++ nC y2).toArray 44 (0,0))) (hK: ∀ w',w'.heap[p]? = some (.cells (nC z ++ nC y2).toArray 44 (0,0)) -> (∀ q,q ≠ p -> w'.heap[q]? = w.heap[q]?) -> w'.heap.size = w.heap.size -> Below p w w' -> K a w'): Oper.wp Tryz.prog o a w K Q := by
 have hs' := kslot_of hs
 have ht' := kslot_of ht
 have e0: w.cell? ⟨p,0,none⟩ = some (.string y1.op) := by rw [cell_of_row _ _ _ _ _ _ hy]; rfl
 have e1: w.cell? ⟨p,1,none⟩ = some (.int .i64 y1.vk) := by rw [cell_of_row _ _ _ _ _ _ hy]; rfl
 have e2: w.cell? ⟨p,2,none⟩ = some (.int .i64 y1.vn) := by rw [cell_of_row _ _ _ _ _ _ hy]; rfl
 have e3: w.cell? ⟨p,3,none⟩ = some (.string y1.vs) := by rw [cell_of_row _ _ _ _ _ _ hy]; rfl
 have e4: w.cell? ⟨p,4,none⟩ = some (.int .i64 y1.var) := by rw [cell_of_row _ _ _ _ _ _ hy]; rfl
 have e5: w.cell? ⟨p,5,none⟩ = some (.int .i64 y1.col) := by rw [cell_of_row _ _ _ _ _ _ hy]; rfl
 have e6: w.cell? ⟨p,6,none⟩ = some (.slice y1.a y1.kids.length y1.c) := by rw [cell_of_row _ _ _ _ _ _ hy]; rfl
 have f: ∀ i,w.frozen? ⟨p,i,none⟩ = false := fun i => frozen_of_row _ _ _ _ _ hy
 have k := hK (((((((w.setCell ⟨p,0,none⟩ (.string z.op)).setCell ⟨p,1,none⟩ (.int .i64 z.vk)).setCell ⟨p,2,none⟩ (.int .i64 z.vn)).setCell ⟨p,3,none⟩ (.string z.vs)).setCell ⟨p,4,none⟩ (.int .i64 z.var)).setCell ⟨p,5,none⟩ (.int .i64 z.col)).setCell ⟨p,6,none⟩ (.slice z.a z.kids.length z.c)) (set14_a hy) (fun q hq => by rw [heap_setCell_other _ _ _ _ hq,heap_setCell_other _ _ _ _ hq,heap_setCell_other _ _ _ _ hq,heap_setCell_other _ _ _ _ hq,heap_setCell_other _ _ _ _ hq,heap_setCell_other _ _ _ _ hq,heap_setCell_other _ _ _ _ hq]) (by simp) (((((((((Below.refl p w).setCell (Nat.le_refl _) _).setCell (Nat.le_refl _) _).setCell (Nat.le_refl _) _).setCell (Nat.le_refl _) _).setCell (Nat.le_refl _) _).setCell (Nat.le_refl _) _).setCell (Nat.le_refl _) _))
 unfold nV at ht'
 unfold Oper.wp
 simp [execOp,ho,go_sem,hs',ht',e0,e1,e2,e3,e4,e5,e6,f,hd]
 exact k
theorem nop_two1 {s t p: Nat} {y1 y2 z: NL} (ho: o.op = .store 44 (.tmp s) (.tmp t)) (hd: o.dst = none) (hs: a.eval (.tmp s) = .pointer (some ⟨p,7,none⟩)) (ht: a.eval (.tmp t) = nV z) (hy: w.heap[p]? = some (.cells (nC y1 ++ nC y2).toArray 44 (0,0))) (hK: ∀ w',w'.heap[p]? = some (.cells (nC y1 ++ nC z).toArray 44 (0,0)) -> (∀ q,q ≠ p -> w'.heap[q]? = w.heap[q]?) -> w'.heap.size = w.heap.size -> Below p w w' -> K a w'): Oper.wp Tryz.prog o a w K Q := by
 have hs' := kslot_of hs
 have ht' := kslot_of ht
 have e0: w.cell? ⟨p,7,none⟩ = some (.string y2.op) := by rw [cell_of_row _ _ _ _ _ _ hy]; rfl
 have e1: w.cell? ⟨p,8,none⟩ = some (.int .i64 y2.vk) := by rw [cell_of_row _ _ _ _ _ _ hy]; rfl
 have e2: w.cell? ⟨p,9,none⟩ = some (.int .i64 y2.vn) := by rw [cell_of_row _ _ _ _ _ _ hy]; rfl
 have e3: w.cell? ⟨p,10,none⟩ = some (.string y2.vs) := by rw [cell_of_row _ _ _ _ _ _ hy]; rfl
 have e4: w.cell? ⟨p,11,none⟩ = some (.int .i64 y2.var) := by rw [cell_of_row _ _ _ _ _ _ hy]; rfl
 have e5: w.cell? ⟨p,12,none⟩ = some (.int .i64 y2.col) := by rw [cell_of_row _ _ _ _ _ _ hy]; rfl
 have e6: w.cell? ⟨p,13,none⟩ = some (.slice y2.a y2.kids.length y2.c) := by rw [cell_of_row _ _ _ _ _ _ hy]; rfl
 have f: ∀ i,w.frozen? ⟨p,i,none⟩ = false := fun i => frozen_of_row _ _ _ _ _ hy
 have k := hK (((((((w.setCell ⟨p,7,none⟩ (.string z.op)).setCell ⟨p,8,none⟩ (.int .i64 z.vk)).setCell ⟨p,9,none⟩ (.int .i64 z.vn)).setCell ⟨p,10,none⟩ (.string z.vs)).setCell ⟨p,11,none⟩ (.int .i64 z.var)).setCell ⟨p,12,none⟩ (.int .i64 z.col)).setCell ⟨p,13,none⟩ (.slice z.a z.kids.length z.c)) (set14_b hy) (fun q hq => by rw [heap_setCell_other _ _ _ _ hq,heap_setCell_other _ _ _ _ hq,heap_setCell_other _ _ _ _ hq,heap_setCell_other _ _ _ _ hq,heap_setCell_other _ _ _ _ hq,heap_setCell_other _ _ _ _ hq,heap_setCell_other _ _ _ _ hq]) (by simp) (((((((((Below.refl p w).setCell (Nat.le_refl _) _).setCell (Nat.le_refl _) _).setCell (Nat.le_refl _) _).setCell (Nat.le_refl _) _).setCell (Nat.le_refl _) _).setCell (Nat.le_refl _) _).setCell (Nat.le_refl _) _))
 unfold nV at ht'
 unfold Oper.wp
 simp [execOp,ho,go_sem,hs',ht',e0,e1,e2,e3,e4,e5,e6,f,hd]
 exact k
theorem nop_storeR {s t q j m: Nat} {z: NL} {L: List NL} (hm: m = 1 \/ m = 2) (ho: o.op = .store 44 (.tmp s) (.tmp t)) (hd: o.dst = none) (hs: a.eval (.tmp s) = .pointer (some ⟨q,j * 7,none⟩)) (ht: a.eval (.tmp t) = nV z) (hL: L.length = m) (hj: j < m) (hc: w.heap[q]? = some (.cells (rowN L) 44 (0,0)))
 (hK: ∀ w',w'.heap[q]? = some (.cells (rowN (L.set j z)) 44 (0,0)) -> (∀ p,p ≠ q -> w'.heap[p]? = w.heap[p]?) -> w'.heap.size = w.heap.size -> Below q w w' -> K a w'): Oper.wp Tryz.prog o a w K Q := by
 rcases hm with rfl | rfl
 · obtain ⟨y,rfl⟩ := List.length_eq_one_iff.1 hL
   obtain rfl: j = 0 := by omega
   rw [rowN_one] at hc
   exact nop_store ho hd hs ht ⟨y,hc⟩ fun w' h1 h2 h3 h4 => hK w' (by rw [List.set_cons_zero,rowN_one]; exact h1) h2 h3 h4
 · obtain ⟨y1,y2,rfl⟩: ∃ y1 y2,L = [y1,y2] := by
    match L,hL with
    | [y1,y2],_ => exact ⟨y1,y2,rfl⟩
   rw [rowN_two] at hc
   rcases (by omega: j = 0 \/ j = 1) with rfl | rfl
   · exact nop_two0 ho hd hs ht hc fun w' h1 h2 h3 h4 => hK w' (by rw [List.set_cons_zero,rowN_two]; exact h1) h2 h3 h4
   · exact nop_two1 ho hd hs ht hc fun w' h1 h2 h3 h4 => hK w' (by rw [List.set_cons_succ,List.set_cons_zero,rowN_two]; exact h1) h2 h3 h4
end
def tyAt (f: XL -> Chk) (kids: List XL) (j i: Nat): Int := if i < j then ((kids[i]?.map fun k => (f k).2.1).getD 0) else 0
structure FI (w wr: World) (X: Array Value) (xo: ByteArray) (m p q t: Nat) (kids: List XL) (f: XL -> Chk) (ys: List NL): Prop where
 bel: Below w.heap.size w wr
 x: wr.heap[w.heap.size]? = some (.cells X 30 (0,0))
 z: wr.heap[w.heap.size + 1]? = some (.cells (nC zNL).toArray 44 (0,0))
 box: wr.heap[p]? = some (.cells (nC (.mk xo 0 0 ⟨#[]⟩ 0 0 (some ⟨q,0,none⟩) m (List.replicate m zNL))).toArray 44 (0,0))
 row: wr.heap[q]? = some (.cells (rowN (ys ++ List.replicate (m - ys.length) zNL)) 44 (0,0))
 tys: wr.heap[t]? = some (.cells #[.int .i64 (tyAt f kids ys.length 0), .int .i64 (tyAt f kids ys.length 1)] 233 (0,0))
 ok: ∀ (i: Nat) k y,kids[i]? = some k -> ys[i]? = some y -> (f k).2.2 = 0 /\ (∀ n,LikeN n (f k).1 y) /\ ∀ n,InN n wr y /\ OffN (fun b => w.heap.size + 2 <= b /\ b ≠ p /\ b ≠ q /\ b ≠ t) n y
theorem FI.on {w wr W: World} {X: Array Value} {xo: ByteArray} {m p q t: Nat} {kids: List XL} {f: XL -> Chk} {ys: List NL} (h: FI w wr X xo m p q t kids f ys) (hb: Below wr.heap.size wr W): FI w W X xo m p q t kids f ys := by
 have g: ∀ {b: Nat} {o: Obj},wr.heap[b]? = some o -> W.heap[b]? = some o := fun {b o} e => (hb.block b (Array.getElem?_eq_some_iff.1 e).1).trans e
 exact ⟨below_on h.bel hb,g h.x,g h.z,g h.box,g h.row,g h.tys,fun i k y h1 h2 => ⟨(h.ok i k y h1 h2).1,(h.ok i k y h1 h2).2.1,fun n => ⟨((h.ok i k y h1 h2).2.2 n).1.on hb,((h.ok i k y h1 h2).2.2 n).2⟩⟩⟩
theorem set_done {ys: List NL} {m: Nat} (y: NL) (h: ys.length < m): (ys ++ List.replicate (m - ys.length) zNL).set ys.length y = (ys ++ [y]) ++ List.replicate (m - (ys ++ [y]).length) zNL := by
 have e: m - ys.length = (m - (ys ++ [y]).length) + 1 := by rw [List.length_append]; simp; omega
 rw [e,List.replicate_succ,List.set_append_right _ _ (Nat.le_refl _),Nat.sub_self,List.set_cons_zero,List.append_assoc]
 rfl
def GoodK (U W: World) (r: Chk) (y: NL): Prop := r.2.2 = 0 /\ (∀ n,LikeN n r.1 y) /\ ∀ n,InN n W y /\ OffN (fun b => U.heap.size <= b) n y
theorem GoodK.turn {U W W': World} {r: Chk} {y: NL} (h: GoodK U W r y) (hs: W.heap.size <= W'.heap.size) (hb: ∀ b,b < W.heap.size -> U.heap.size <= b -> W'.heap[b]? = W.heap[b]?): GoodK U W' r y :=
 ⟨h.1,h.2.1,fun n => ⟨(h.2.2 n).1.turn (h.2.2 n).2 hs hb,(h.2.2 n).2⟩⟩
theorem FI.step {w U W: World} {X: Array Value} {xo: ByteArray} {m p q t: Nat} {kids: List XL} {f: XL -> Chk} {ys: List NL} {k: XL} {y: NL} (h: FI w U X xo m p q t kids f ys) (hm: ys.length < m) (hk: kids[ys.length]? = some k) (far: w.heap.size + 2 <= p /\ w.heap.size + 2 <= q /\ w.heap.size + 2 <= t /\ p ≠ q /\ p ≠ t /\ q ≠ t)
 (hB: Below (w.heap.size + 2) U W) (hs: U.heap.size <= W.heap.size) (ho: ∀ b,b < U.heap.size -> b ≠ q -> b ≠ t -> W.heap[b]? = U.heap[b]?) (hr: W.heap[q]? = some (.cells (rowN ((ys ++ List.replicate (m - ys.length) zNL).set ys.length y)) 44 (0,0)))
 (ht: W.heap[t]? = some (.cells #[.int .i64 (if ys.length = 0 then (f k).2.1 else tyAt f kids ys.length 0), .int .i64 (if ys.length = 0 then tyAt f kids ys.length 1 else (f k).2.1)] 233 (0,0))) (hm2: m <= 2) (hg: GoodK U W (f k) y): FI w W X xo m p q t kids f (ys ++ [y]) := by
 have lt: ∀ {b: Nat} {o: Obj},U.heap[b]? = some o -> b < U.heap.size := fun e => (Array.getElem?_eq_some_iff.1 e).1
 have hl: (ys ++ [y]).length = ys.length + 1 := by simp
 refine ⟨h.bel.trans (hB.mono (by omega)),(ho _ (lt h.x) (by omega) (by omega)).trans h.x,(ho _ (lt h.z) (by omega) (by omega)).trans h.z,(ho _ (lt h.box) far.2.2.2.1 far.2.2.2.2.1).trans h.box, ?_, ?_, ?_⟩
 · rw [hr,set_done y hm]
 · rw [ht,hl]
   rcases (by omega: ys.length = 0 \/ ys.length = 1) with e | e
   · rw [e] at hk ⊢
     simp [tyAt,hk]
   · rw [e] at hk ⊢
     simp [tyAt,hk]
 · intro i k' y' h1 h2
   by_cases hi: i < ys.length
   · rw [List.getElem?_append_left hi] at h2
     obtain ⟨g1,g2,g3⟩ := h.ok i k' y' h1 h2
     exact ⟨g1,g2,fun n => ⟨(g3 n).1.turn (g3 n).2 hs fun b hb hp => ho b hb hp.2.2.1 hp.2.2.2,(g3 n).2⟩⟩
   · have hi': i = ys.length := by
      have := (List.getElem?_eq_some_iff.1 h2).1
      omega
     subst hi'
     rw [hk] at h1
     cases h1
     rw [List.getElem?_append_right (Nat.le_refl _),Nat.sub_self] at h2
     cases h2
     exact ⟨hg.1,hg.2.1,fun n => ⟨(hg.2.2 n).1,(hg.2.2 n).2.mono fun b hb => ⟨by have := lt h.z; omega,by have := lt h.box; omega,by have := lt h.row; omega,by have := lt h.tys; omega⟩⟩⟩
theorem chk_err {xo: ByteArray} {f: XL -> Chk} {kids: List XL} {j: Nat} {k: XL} (hm: kids.length = 1 \/ kids.length = 2) (hk: kids[j]? = some k) (hok: ∀ (i: Nat) k',i < j -> kids[i]? = some k' -> (f k').2.2 = 0) (he: ((f k).2.2 != 0) = true): chkKids xo f kids = (zNL,0,(f k).2.2) := by
 have he': ((f k).2.2 == 0) = false := by simpa using he
 rcases hm with hm | hm
 · obtain ⟨x,rfl⟩ := List.length_eq_one_iff.1 hm
   match j,hk with
   | 0,rfl => simp only [chkKids,chkOne,he']; rfl
 · match kids,hm with
   | [x,z],_ =>
    match j,hk,hok with
    | 0,rfl,_ => simp only [chkKids,chkTwo,he']; rfl
    | 1,rfl,hok =>
     have h0: ((f x).2.2 == 0) = true := by simpa using hok 0 x (by omega) rfl
     simp only [chkKids,chkTwo,he',h0]; rfl
theorem chk_fine {xo: ByteArray} {f: XL -> Chk} {kids: List XL} (hm: kids.length = 1 \/ kids.length = 2) (hok: ∀ k' ∈ kids,(f k').2.2 = 0): chkKids xo f kids = chkTyped xo (kids.map fun k => (f k).1) (typeO xo.toList (tyAt f kids kids.length 0) (tyAt f kids kids.length 1)) := by
 rcases hm with hm | hm
 · obtain ⟨x,rfl⟩ := List.length_eq_one_iff.1 hm
   have h0: ((f x).2.2 == 0) = true := by simpa using hok x (by simp)
   simp only [chkKids,chkOne,h0]; rfl
 · match kids,hm with
   | [x,z],_ =>
    have h0: ((f x).2.2 == 0) = true := by simpa using hok x (by simp)
    have h1: ((f z).2.2 == 0) = true := by simpa using hok z (by simp)
    simp only [chkKids,chkTwo,h0,h1]; rfl
def frF (U: World) (p q t j m: Nat) (a: Option Addr) (l c: Nat) (k: XL) (r: Chk) (L0: List NL): Nat -> Value -> World -> Prop
 | 0,v,_ => v = .pointer (some ⟨p,6,none⟩)
 | 1,v,_ => v = .slice (some ⟨q,0,none⟩) m m
 | 2,v,_ => v = .int .i64 (j: Int)
 | 3,v,_ => v = .int .i64 (j: Int)
 | 4,v,_ => v = .slice a l c
 | 5,v,_ => v = xV k
 | 6,v,w => ∃ y,v = .tuple #[nV y, .int .i64 r.2.1] /\ GoodK U w r y
 | 7,v,w => ∃ y,v = .tuple #[nV y, .int .i64 r.2.1] /\ GoodK U w r y
 | 8,v,w => ∃ y,v = nV y /\ GoodK U w r y
 | 9,v,_ => v = .int .i64 r.2.1
 | 10,v,_ => v = .pointer (some ⟨q,j * 7,none⟩)
 | 11,_,w => ∃ y,w.heap[q]? = some (.cells (rowN (L0.set j y)) 44 (0,0)) /\ GoodK U w r y
 | 12,v,_ => v = .pointer (some ⟨t,j,none⟩)
 | _,_,_ => True
theorem frF_turn {U: World} {p q t j m: Nat} {a: Option Addr} {l c: Nat} {k: XL} {r: Chk} {L0: List NL} {w w': World} (hs: w.heap.size <= w'.heap.size) (hb: ∀ b,b < w.heap.size -> U.heap.size <= b -> w'.heap[b]? = w.heap[b]?): ∀ (i: Nat) (u: Value),i ≠ 11 -> frF U p q t j m a l c k r L0 i u w -> frF U p q t j m a l c k r L0 i u w'
 | 0,_,_,h | 1,_,_,h | 2,_,_,h | 3,_,_,h | 4,_,_,h | 5,_,_,h | 9,_,_,h | 10,_,_,h | 12,_,_,h => h
 | 6,_,_,⟨y,h1,h2⟩ => ⟨y,h1,h2.turn hs hb⟩
 | 7,_,_,⟨y,h1,h2⟩ => ⟨y,h1,h2.turn hs hb⟩
 | 8,_,_,⟨y,h1,h2⟩ => ⟨y,h1,h2.turn hs hb⟩
 | 11,_,h,_ => absurd rfl h
 | _ + 13,_,_,_ => trivial
theorem frF_mono {U: World} {p q t j m: Nat} {a: Option Addr} {l c: Nat} {k: XL} {r: Chk} {L0: List NL} {w w': World} (hb: Below w.heap.size w w') (i: Nat) (u: Value) (h: frF U p q t j m a l c k r L0 i u w): frF U p q t j m a l c k r L0 i u w' := by
 by_cases e: i = 11
 · subst e
   obtain ⟨y,h1,h2⟩ := h
   exact ⟨y,(hb.block q (Array.getElem?_eq_some_iff.1 h1).1).trans h1,h2.turn hb.size fun b hlt _ => hb.block b hlt⟩
 · exact frF_turn hb.size (fun b hlt _ => hb.block b hlt) i u e h
def JR (U: World) (q j: Nat) (L0: List NL) (W: World): Prop := (∃ L,(L = L0 \/ ∃ z,L = L0.set j z) /\ W.heap[q]? = some (.cells (rowN L) 44 (0,0))) /\ ∀ b,b < U.heap.size -> b ≠ q -> W.heap[b]? = U.heap[b]?
theorem JR.on {U W W': World} {q j: Nat} {L0: List NL} (h: JR U q j L0 W) (hs: U.heap.size <= W.heap.size) (hb: Below W.heap.size W W'): JR U q j L0 W' := by
 obtain ⟨⟨L,h1,h2⟩,h3⟩ := h
 exact ⟨⟨L,h1,(hb.block q (Array.getElem?_eq_some_iff.1 h2).1).trans h2⟩,fun b hlt hn => (hb.block b (by omega)).trans (h3 b hlt hn)⟩
theorem JR.put {U W W': World} {q j: Nat} {L0 L: List NL} {z: NL} (h: JR U q j L0 W) (hL: L = L0 \/ ∃ z,L = L0.set j z) (hr: W'.heap[q]? = some (.cells (rowN (L.set j z)) 44 (0,0))) (ho: ∀ b,b ≠ q -> W'.heap[b]? = W.heap[b]?): JR U q j L0 W' /\ W'.heap[q]? = some (.cells (rowN (L0.set j z)) 44 (0,0)) := by
 have e: L.set j z = L0.set j z := by
  rcases hL with rfl | ⟨z',rfl⟩
  · rfl
  · rw [List.set_set]
 rw [e] at hr
 exact ⟨⟨⟨_,Or.inr ⟨z,rfl⟩,hr⟩,fun b hlt hn => (ho b hn).trans (h.2 b hlt hn)⟩,hr⟩
theorem FI.node {w wr: World} {X: Array Value} {xo: ByteArray} {m p q t: Nat} {kids: List XL} {f: XL -> Chk} {ys: List NL} (h: FI w wr X xo m p q t kids f ys) (hy: ys.length = m) (hk: kids.length = m) (hm: m <= 2) (hq: w.heap.size + 2 <= q) (hx: xo.size <= 1048576) (n: Nat) :
 LikeN n (.mk xo 0 0 ⟨#[]⟩ 0 0 none 0 (kids.map fun k => (f k).1)) (.mk xo 0 0 ⟨#[]⟩ 0 0 (some ⟨q,0,none⟩) m ys) /\ InN n wr (.mk xo 0 0 ⟨#[]⟩ 0 0 (some ⟨q,0,none⟩) m ys) /\ OffN (fun b => w.heap.size + 2 <= b) n (.mk xo 0 0 ⟨#[]⟩ 0 0 (some ⟨q,0,none⟩) m ys) := by
 have at_: ∀ (i: Nat) y,ys[i]? = some y -> ∃ k,kids[i]? = some k := fun i y e => by
  have := (List.getElem?_eq_some_iff.1 e).1
  exact ⟨kids[i]'(by omega),List.getElem?_eq_getElem _⟩
 cases n with
 | zero => exact ⟨trivial,trivial,trivial⟩
 | succ n =>
  refine ⟨⟨rfl,rfl,rfl,rfl,rfl,rfl, ?_,fun i k k' h1 h2 => ?_⟩,⟨⟨(by decide: fits 0 = true),(by decide: fits 0 = true),Nat.le_trans hx (by decide),Nat.zero_le _, ?_⟩, ?_,fun y hy' => ?_⟩,Or.inr fun b o e => ?_,fun y hy' => ?_⟩
  · show (kids.map _).length = ys.length
    rw [List.length_map]; omega
  · change (kids.map fun k => (f k).1)[i]? = some k at h1
    change ys[i]? = some k' at h2
    obtain ⟨x,hx'⟩ := at_ i k' h2
    rw [List.getElem?_map,hx'] at h1
    cases h1
    exact (h.ok i x k' hx' h2).2.1 n
  · show ys.length <= _
    omega
  · have hr := h.row
    rw [hy,Nat.sub_self,List.replicate_zero,List.append_nil] at hr
    exact slg_flat nC_len hr
  · obtain ⟨i,hi⟩ := List.getElem?_of_mem hy'
    obtain ⟨x,hx'⟩ := at_ i y hi
    exact ((h.ok i x y hx' hi).2.2 n).1
  · cases e
    exact hq
  · obtain ⟨i,hi⟩ := List.getElem?_of_mem hy'
    obtain ⟨x,hx'⟩ := at_ i y hi
    exact ((h.ok i x y hx' hi).2.2 n).2.mono fun b hb => hb.1
def feF (b z t: Nat) (xo: ByteArray) (N: NL) (t0 t1: Int): Nat -> Value -> World -> Prop
 | 0,v,_ => v = nV N
 | 1,v,_ => v = .pointer (some ⟨b,0,none⟩)
 | 2,v,_ => v = .string xo
 | 3,v,_ => v = .pointer (some ⟨t,0,none⟩)
 | 4,v,_ => v = .int .i64 t0
 | 5,v,_ => v = .pointer (some ⟨t,1,none⟩)
 | 6,v,_ => v = .int .i64 t1
 | 7,v,_ => ∃ u,v = .int .i64 u /\ typeO xo.toList t0 t1 = some u
 | 8,_,w => w.heap[z]? = some (.cells (nC N).toArray 44 (0,0))
 | _,_,_ => True
theorem feF_val {b z t: Nat} {xo: ByteArray} {N: NL} {t0 t1: Int}: ∀ (i: Nat) (u: Value) (w w': World),i ≠ 8 -> feF b z t xo N t0 t1 i u w -> feF b z t xo N t0 t1 i u w'
 | 0,_,_,_,_,h | 1,_,_,_,_,h | 2,_,_,_,_,h | 3,_,_,_,_,h | 4,_,_,_,_,h | 5,_,_,_,_,h | 6,_,_,_,_,h | 7,_,_,_,_,h => h
 | 8,_,_,_,h,_ => absurd rfl h
 | _ + 9,_,_,_,_,_ => trivial
end Go.Proofs.YteibhbnlcpejpaaGreat
