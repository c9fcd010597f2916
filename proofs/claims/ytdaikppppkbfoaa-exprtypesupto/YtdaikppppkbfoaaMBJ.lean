import Derived.Test.YtdaikppppkbfoaaMBA
import Derived.Test.YtdaikppppkbfoaaMBI
namespace Go.Proofs.Ytdaikppppkbfoaa
open Go.RowKit
def rowN (l: List NL): Array Value := (Rw.flat nC l).toArray
set_option maxRecDepth 100000
section
variable {Q: Exit -> Act -> World -> Prop} {K: Act -> World -> Prop} {o: Oper} {a: Act} {w: World}
theorem iop_exprs {s: Nat} {ad: Addr} {v: Value} (ho: o.op = .load 26 (.tmp s)) (hs: a.eval (.tmp s) = .pointer (some ad)) (hc: w.cell? ad = some v) (hK: K (a.put o.dst v) w): Oper.wp Try.prog o a w K Q := by
 have hs' := kslot_of hs
 unfold Oper.wp
 simp [execOp,ho,go_sem,hs',hc]
 exact hK
theorem iop_nodes {s: Nat} {ad: Addr} {v: Value} (ho: o.op = .load 38 (.tmp s)) (hs: a.eval (.tmp s) = .pointer (some ad)) (hc: w.cell? ad = some v) (hK: K (a.put o.dst v) w): Oper.wp Try.prog o a w K Q := by
 have hs' := kslot_of hs
 unfold Oper.wp
 simp [execOp,ho,go_sem,hs',hc]
 exact hK
theorem iop_len {s n c: Nat} {ad: Option Addr} (ho: o.op = .call { callee := .builtin .len,args := #[.tmp s],argTypes := #[26] }) (hs: a.eval (.tmp s) = .slice ad n c) (hK: K (a.put o.dst (.int .i64 (n: Int))) w): Oper.wp Try.prog o a w K Q := by
 have hs' := kslot_of hs
 unfold Oper.wp
 simp [execOp,ho,go_sem,hs',Builtin.len_,run_underlying Try.underlying26]
 exact hK
theorem made1: madeCells (nV zNL).cells 7 = rowN [zNL] := by kernel_rfl
theorem made2: madeCells (nV zNL).cells 14 = rowN [zNL,zNL] := by kernel_rfl
theorem run_mk (w: World) {m: Nat} (hm: m = 1 \/ m = 2): (Instr.makeSlice 38 (.int .i64 (m: Int)) (.int .i64 (m: Int))).run Try.prog w = .ok (.slice (some ⟨w.heap.size,0,none⟩) m m) (w.alloc (.cells (rowN (List.replicate m zNL)) 67)) := by
 obtain ⟨i,hi,hz⟩ := Option.map_eq_some_iff.1 (show (Try.prog.info? 67).map (fun i => (i.zero,i.size,i.bytes)) = some (some (nV zNL),7,88) by kernel_rfl)
 simp only [Prod.mk.injEq] at hz
 obtain ⟨hz,hs,hb⟩ := hz
 refine (run_make (P := Try.prog) w 38 67 i _ Try.underlying38 hi hz .i64 .i64 (m: Int) (m: Int) (by omega) (by omega) (by rw [hb]; omega) (by omega)).trans ?_
 rw [hs]
 rcases hm with rfl | rfl
 · exact congrArg (fun z => Result.ok (Value.slice (some ⟨w.heap.size,0,none⟩) 1 1) (w.alloc (.cells z 67))) made1
 · exact congrArg (fun z => Result.ok (Value.slice (some ⟨w.heap.size,0,none⟩) 2 2) (w.alloc (.cells z 67))) made2
theorem iop_make {s m: Nat} (hm: m = 1 \/ m = 2) (ho: o.op = .makeSlice 38 (.tmp s) (.tmp s)) (hs: a.eval (.tmp s) = .int .i64 (m: Int)) (hK: K (a.put o.dst (.slice (some ⟨w.heap.size,0,none⟩) m m)) (w.alloc (.cells (rowN (List.replicate m zNL)) 67))): Oper.wp Try.prog o a w K Q := by
 have hs' := kslot_of hs
 have hr := run_mk w hm
 unfold Oper.wp
 simp [execOp,ho,go_sem,hs',hr]
 exact hK
theorem iop_build {s t n c: Nat} {ad: Option Addr} {op: ByteArray} (ho: o.op = .build 67 #[(0, .tmp s),(4, .tmp t)]) (hs: a.eval (.tmp s) = .string op) (ht: a.eval (.tmp t) = .slice ad n c) (hK: K (a.put o.dst (.agg #[.string op, .int .i64 0, .int .i64 0, .string ⟨#[]⟩, .int .i64 0, .int .i64 0, .slice ad n c])) w): Oper.wp Try.prog o a w K Q := by
 have hs' := kslot_of hs
 have ht' := kslot_of ht
 unfold Oper.wp
 simp [execOp,ho,go_sem,hs',ht']
 exact hK
theorem iop_indexN {s t q m j: Nat} (ho: o.op = .indexAddr 38 (.tmp s) (.tmp t)) (hs: a.eval (.tmp s) = .slice (some ⟨q,0,none⟩) m m) (ht: a.eval (.tmp t) = .int .i64 (j: Int)) (hj: j < m) (hK: K (a.put o.dst (.pointer (some ⟨q,j * 7,none⟩))) w): Oper.wp Try.prog o a w K Q := by
 have hs' := kslot_of hs
 have ht' := kslot_of ht
 unfold Oper.wp
 simp [execOp,ho,go_sem,hs',ht',hj]
 exact hK
theorem iop_indexT {s t p j: Nat} (ho: o.op = .indexAddr 173 (.tmp s) (.tmp t)) (hs: a.eval (.tmp s) = .pointer (some ⟨p,0,none⟩)) (ht: a.eval (.tmp t) = .int .i64 (j: Int)) (hj: j < 2) (hK: K (a.put o.dst (.pointer (some ⟨p,j,none⟩))) w): Oper.wp Try.prog o a w K Q := by
 have hs' := kslot_of hs
 have ht' := kslot_of ht
 have hj': (j: Int) < 2 := by omega
 unfold Oper.wp
 simp [execOp,ho,go_sem,hs',ht',hj']
 exact hK
theorem iop_indexC {s p j: Nat} (ho: o.op = .indexAddr 173 (.tmp s) (.const (.int .i64 (j: Int)))) (hs: a.eval (.tmp s) = .pointer (some ⟨p,0,none⟩)) (hj: j < 2) (hK: K (a.put o.dst (.pointer (some ⟨p,j,none⟩))) w): Oper.wp Try.prog o a w K Q := by
 have hs' := kslot_of hs
 have hj': (j: Int) < 2 := by omega
 unfold Oper.wp
 simp [execOp,ho,go_sem,hs',hj']
 exact hK
theorem iop_loadX {s p: Nat} {x: XL} (ho: o.op = .load 46 (.tmp s)) (hs: a.eval (.tmp s) = .pointer (some ⟨p,0,none⟩)) (hc: w.heap[p]? = some (.cells (xC x).toArray 46 (0,0))) (hK: K (a.put o.dst (xV x)) w): Oper.wp Try.prog o a w K Q := by
 have hs' := kslot_of hs
 obtain ⟨x0,x1,x2,x3,x4,x5,x6⟩ := xbox (x := x) hc
 unfold Oper.wp
 simp [execOp,ho,go_sem,hs',x0,x1,x2,x3,x4,x5,x6]
 exact hK
theorem iop_found {s t: Nat} {T U: TypeId} {x y: Value} {P: Ending -> World -> Prop} (ho: o.op = .call { callee := .value (.func 53),args := #[.tmp s, .tmp t],argTypes := #[T,U] }) (hs: a.eval (.tmp s) = x) (ht: a.eval (.tmp t) = y) (hC: Calls Try.prog 53 #[x,y] w P)
 (hK: ∀ e w',P e w' -> (∃ v,e = .returned v /\ K (a.put o.dst v) w') \/ (∃ c,e = .panicked c /\ Q (.panic c) a w')): Oper.wp Try.prog o a w K Q := by
 have hs' := kslot_of hs
 have ht' := kslot_of ht
 unfold Oper.wp
 simp [execOp,ho,resolve,invoke,go_sem,hs',ht']
 refine hC.mono ?_
 intro e w' h
 rcases hK e w' h with ⟨v,rfl,hk⟩ | ⟨c,rfl,hq⟩
 · exact hk
 · exact hq
theorem iop_typeOf {s t u: Nat} {T U V: TypeId} {x: ByteArray} {m n: Int} (ho: o.op = .call { callee := .value (.func 81),args := #[.tmp s, .tmp t, .tmp u],argTypes := #[T,U,V] }) (hs: a.eval (.tmp s) = .string x) (ht: a.eval (.tmp t) = .int .i64 m) (hu: a.eval (.tmp u) = .int .i64 n)
 (hK: ∀ v,typeO x.toList m n = some v -> K (a.put o.dst (.int .i64 v)) w) (hP: typeO x.toList m n = none -> Q (.panic (stopped 4 0)) a w): Oper.wp Try.prog o a w K Q := by
 have hs' := kslot_of hs
 have ht' := kslot_of ht
 have hu' := kslot_of hu
 unfold Oper.wp
 simp [execOp,ho,resolve,invoke,go_sem,hs',ht',hu']
 refine (typeOf_walk x m n w).mono ?_
 rintro e w' ⟨rfl,rfl⟩
 cases h: typeO x.toList m n with
 | none => exact hP h
 | some v => exact hK v h
theorem iop_extract0 {s: Nat} {x y: Value} (ho: o.op = .extract (.tmp s) 0) (hs: a.eval (.tmp s) = .tuple #[x,y]) (hK: K (a.put o.dst x) w): Oper.wp Try.prog o a w K Q := by
 have hs' := kslot_of hs
 unfold Oper.wp
 simp [execOp,ho,go_sem,hs']
 exact hK
theorem iop_extract1 {s: Nat} {x y: Value} (ho: o.op = .extract (.tmp s) 1) (hs: a.eval (.tmp s) = .tuple #[x,y]) (hK: K (a.put o.dst y) w): Oper.wp Try.prog o a w K Q := by
 have hs' := kslot_of hs
 unfold Oper.wp
 simp [execOp,ho,go_sem,hs']
 exact hK
theorem iop_storeT {s t p j: Nat} {v0 v1 v: Int} (ho: o.op = .store 3 (.tmp s) (.tmp t)) (hd: o.dst = none) (hs: a.eval (.tmp s) = .pointer (some ⟨p,j,none⟩)) (ht: a.eval (.tmp t) = .int .i64 v) (hj: j < 2) (hc: w.heap[p]? = some (.cells #[.int .i64 v0, .int .i64 v1] 173 (0,0)))
 (hK: ∀ w',w'.heap[p]? = some (.cells #[.int .i64 (if j = 0 then v else v0), .int .i64 (if j = 0 then v1 else v)] 173 (0,0)) -> (∀ q,q ≠ p -> w'.heap[q]? = w.heap[q]?) -> w'.heap.size = w.heap.size -> Below p w w' -> K a w'): Oper.wp Try.prog o a w K Q := by
 have hs' := kslot_of hs
 have ht' := kslot_of ht
 have hk := hK (w.setCell ⟨p,j,none⟩ (.int .i64 v)) (by
  have h0 := heap_setCell_same w p j _ 173 (.int .i64 v) hc
  rcases (by omega: j = 0 \/ j = 1) with rfl | rfl
  · simpa using h0
  · simpa using h0) (fun q hq => heap_setCell_other _ _ _ _ hq) (by simp) ((Below.refl p w).setCell (Nat.le_refl _) _)
 have e0: w.cell? ⟨p,j,none⟩ = some (.int .i64 (if j = 0 then v0 else v1)) := by
  rw [cell_of_row _ _ _ _ _ _ hc]
  rcases (by omega: j = 0 \/ j = 1) with rfl | rfl <;> rfl
 have f: w.frozen? ⟨p,j,none⟩ = false := frozen_of_row _ _ _ _ _ hc
 unfold Oper.wp
 simp [execOp,ho,go_sem,hs',ht',e0,f,hd]
 exact hk
end
def mV (xo: ByteArray) (q m: Nat): Value := .agg #[.string xo, .int .i64 0, .int .i64 0, .string ⟨#[]⟩, .int .i64 0, .int .i64 0, .slice (some ⟨q,0,none⟩) m m]
def fmF (b B m xp: Nat) (xa: Option Addr) (xo: ByteArray): Nat -> Value -> World -> Prop
 | 0,v,_ => v = .pointer (some ⟨b,0,none⟩)
 | 1,v,_ => v = .string xo
 | 2,v,_ => v = .string xo
 | 3,v,_ => v = .pointer (some ⟨b,6,none⟩)
 | 4,v,_ => v = .slice xa m xp
 | 5,v,_ => v = .int .i64 (m: Int)
 | 6,v,w => ∃ q,B <= q /\ v = .slice (some ⟨q,0,none⟩) m m /\ w.heap[q]? = some (.cells (rowN (List.replicate m zNL)) 67 (0,0))
 | 7,v,w => ∃ q,B <= q /\ v = mV xo q m /\ w.heap[q]? = some (.cells (rowN (List.replicate m zNL)) 67 (0,0))
 | 8,v,w => ∃ p,B <= p /\ v = .pointer (some ⟨p,0,none⟩) /\ w.heap[p]? = some (.cells (nC zNL).toArray 67 (0,0))
 | _,_,_ => True
theorem fmF_mono {b B m xp: Nat} {xa: Option Addr} {xo: ByteArray}: ∀ (j: Nat) (u: Value) (w w': World),Below w.heap.size w w' -> fmF b B m xp xa xo j u w -> fmF b B m xp xa xo j u w'
 | 0,_,_,_,_,h | 1,_,_,_,_,h | 2,_,_,_,_,h | 3,_,_,_,_,h | 4,_,_,_,_,h | 5,_,_,_,_,h => h
 | 6,_,_,_,hb,⟨q,h1,h2,h3⟩ => ⟨q,h1,h2,(hb.block q (Array.getElem?_eq_some_iff.1 h3).1).trans h3⟩
 | 7,_,_,_,hb,⟨q,h1,h2,h3⟩ => ⟨q,h1,h2,(hb.block q (Array.getElem?_eq_some_iff.1 h3).1).trans h3⟩
 | 8,_,_,_,hb,⟨q,h1,h2,h3⟩ => ⟨q,h1,h2,(hb.block q (Array.getElem?_eq_some_iff.1 h3).1).trans h3⟩
 | _ + 9,_,_,_,_,_ => trivial
def SLq (xo: ByteArray) (m: Nat) (a: Act) (q: Nat): Prop := a.eval (.tmp 57) = .slice (some ⟨q,0,none⟩) m m \/ a.eval (.tmp 58) = mV xo q m
structure JX (xo: ByteArray) (m: Nat) (a: Act) (w: World): Prop where
 box: ∀ p,a.eval (.tmp 8) = .pointer (some ⟨p,0,none⟩) -> p < w.heap.size
 row: ∀ q,SLq xo m a q -> q < w.heap.size
 two: ∀ p q,a.eval (.tmp 8) = .pointer (some ⟨p,0,none⟩) -> SLq xo m a q -> p ≠ q
theorem JX.keep {xo: ByteArray} {m: Nat} {a a': Act} {w w': World} (h: JX xo m a w) (e8: a'.eval (.tmp 8) = a.eval (.tmp 8)) (e57: a'.eval (.tmp 57) = a.eval (.tmp 57)) (e58: a'.eval (.tmp 58) = a.eval (.tmp 58)) (hs: w.heap.size <= w'.heap.size): JX xo m a' w' := by
 have hq: ∀ q,SLq xo m a' q -> SLq xo m a q := fun q hq => by unfold SLq at hq ⊢; rwa [e57,e58] at hq
 exact ⟨fun p hp => Nat.lt_of_lt_of_le (h.box p (e8 ▸ hp)) hs,fun q g => Nat.lt_of_lt_of_le (h.row q (hq q g)) hs,fun p q hp g => h.two p q (e8 ▸ hp) (hq q g)⟩
theorem mV_inj {xo: ByteArray} {q q' m: Nat} (h: mV xo q m = mV xo q' m): q = q' := by
 unfold mV at h
 simp at h
 exact h
theorem sl_inj {q q' m: Nat} (h: Value.slice (some ⟨q,0,none⟩) m m = .slice (some ⟨q',0,none⟩) m m): q = q' := by
 simp at h
 exact h
theorem pt_inj {q q': Nat} (h: Value.pointer (some ⟨q,0,none⟩) = .pointer (some ⟨q',0,none⟩)): q = q' := by
 simp at h
 exact h
end Go.Proofs.Ytdaikppppkbfoaa
