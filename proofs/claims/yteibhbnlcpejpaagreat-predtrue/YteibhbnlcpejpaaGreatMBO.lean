import Derived.Test.YteibhbnlcpejpaaGreatMBM
import Derived.Test.YteibhbnlcpejpaaGreatMBN
set_option maxRecDepth 100000
set_option maxHeartbeats 4000000
namespace Go.Proofs.YteibhbnlcpejpaaGreat
open Go.RowKit
set_option maxRecDepth 100000
def wsV (a: Option Addr) (n c: Nat): Value := .agg #[.int .i64 0, .string ⟨#[]⟩, .string ⟨#[]⟩, .string ⟨#[]⟩, .slice none 0 0, .slice none 0 0, .slice none 0 0, .slice a n c, .slice none 0 0, .slice none 0 0, .int .i64 0, .int .i64 0, .bool false, .bool false, .slice none 0 0]
def rsV (a1 a2 a3: Option Addr) (n c1 c2 c3: Nat): Value := .agg #[.int .i64 0, .string ⟨#[]⟩, .string ⟨#[]⟩, .string ⟨#[]⟩, .slice none 0 0, .slice a1 0 c1, .slice a2 0 c2, .slice a3 n c3, .slice none 0 0, .slice none 0 0, .int .i64 0, .int .i64 0, .bool false, .bool false, .slice none 0 0]
section
variable {Q: Exit -> Act -> World -> Prop} {K: Act -> World -> Prop} {o: Oper} {a: Act} {w: World}
theorem sop_f0 {s p: Nat} (ho: o.op = .fieldAddr 41 (.tmp s) 0) (hs: a.eval (.tmp s) = .pointer (some ⟨p,0,none⟩)) (hK: K (a.put o.dst (.pointer (some ⟨p,0,none⟩))) w): Oper.wp Tryz.prog o a w K Q := by
 have hs' := kslot_of hs
 unfold Oper.wp
 simp [execOp,ho,go_sem,hs',run_underlying Tryz.underlying41]
 exact hK
theorem sop_f1 {s p: Nat} (ho: o.op = .fieldAddr 41 (.tmp s) 1) (hs: a.eval (.tmp s) = .pointer (some ⟨p,0,none⟩)) (hK: K (a.put o.dst (.pointer (some ⟨p,1,none⟩))) w): Oper.wp Tryz.prog o a w K Q := by
 have hs' := kslot_of hs
 unfold Oper.wp
 simp [execOp,ho,go_sem,hs',run_underlying Tryz.underlying41]
 exact hK
theorem sop_f2 {s p: Nat} (ho: o.op = .fieldAddr 41 (.tmp s) 2) (hs: a.eval (.tmp s) = .pointer (some ⟨p,0,none⟩)) (hK: K (a.put o.dst (.pointer (some ⟨p,2,none⟩))) w): Oper.wp Tryz.prog o a w K Q := by
 have hs' := kslot_of hs
 unfold Oper.wp
 simp [execOp,ho,go_sem,hs',run_underlying Tryz.underlying41]
 exact hK
theorem sop_f3 {s p: Nat} (ho: o.op = .fieldAddr 41 (.tmp s) 3) (hs: a.eval (.tmp s) = .pointer (some ⟨p,0,none⟩)) (hK: K (a.put o.dst (.pointer (some ⟨p,3,none⟩))) w): Oper.wp Tryz.prog o a w K Q := by
 have hs' := kslot_of hs
 unfold Oper.wp
 simp [execOp,ho,go_sem,hs',run_underlying Tryz.underlying41]
 exact hK
theorem sop_f4 {s p: Nat} (ho: o.op = .fieldAddr 41 (.tmp s) 4) (hs: a.eval (.tmp s) = .pointer (some ⟨p,0,none⟩)) (hK: K (a.put o.dst (.pointer (some ⟨p,4,none⟩))) w): Oper.wp Tryz.prog o a w K Q := by
 have hs' := kslot_of hs
 unfold Oper.wp
 simp [execOp,ho,go_sem,hs',run_underlying Tryz.underlying41]
 exact hK
theorem sop_f5 {s p: Nat} (ho: o.op = .fieldAddr 41 (.tmp s) 5) (hs: a.eval (.tmp s) = .pointer (some ⟨p,0,none⟩)) (hK: K (a.put o.dst (.pointer (some ⟨p,5,none⟩))) w): Oper.wp Tryz.prog o a w K Q := by
 have hs' := kslot_of hs
 unfold Oper.wp
 simp [execOp,ho,go_sem,hs',run_underlying Tryz.underlying41]
 exact hK
theorem sop_f6 {s p: Nat} (ho: o.op = .fieldAddr 41 (.tmp s) 6) (hs: a.eval (.tmp s) = .pointer (some ⟨p,0,none⟩)) (hK: K (a.put o.dst (.pointer (some ⟨p,6,none⟩))) w): Oper.wp Tryz.prog o a w K Q := by
 have hs' := kslot_of hs
 unfold Oper.wp
 simp [execOp,ho,go_sem,hs',run_underlying Tryz.underlying41]
 exact hK
theorem sop_f7 {s p: Nat} (ho: o.op = .fieldAddr 41 (.tmp s) 7) (hs: a.eval (.tmp s) = .pointer (some ⟨p,0,none⟩)) (hK: K (a.put o.dst (.pointer (some ⟨p,7,none⟩))) w): Oper.wp Tryz.prog o a w K Q := by
 have hs' := kslot_of hs
 unfold Oper.wp
 simp [execOp,ho,go_sem,hs',run_underlying Tryz.underlying41]
 exact hK
theorem sop_f10 {s p: Nat} (ho: o.op = .fieldAddr 41 (.tmp s) 10) (hs: a.eval (.tmp s) = .pointer (some ⟨p,0,none⟩)) (hK: K (a.put o.dst (.pointer (some ⟨p,10,none⟩))) w): Oper.wp Tryz.prog o a w K Q := by
 have hs' := kslot_of hs
 unfold Oper.wp
 simp [execOp,ho,go_sem,hs',run_underlying Tryz.underlying41]
 exact hK
theorem sop_f11 {s p: Nat} (ho: o.op = .fieldAddr 41 (.tmp s) 11) (hs: a.eval (.tmp s) = .pointer (some ⟨p,0,none⟩)) (hK: K (a.put o.dst (.pointer (some ⟨p,11,none⟩))) w): Oper.wp Tryz.prog o a w K Q := by
 have hs' := kslot_of hs
 unfold Oper.wp
 simp [execOp,ho,go_sem,hs',run_underlying Tryz.underlying41]
 exact hK
theorem sop_f12 {s p: Nat} (ho: o.op = .fieldAddr 41 (.tmp s) 12) (hs: a.eval (.tmp s) = .pointer (some ⟨p,0,none⟩)) (hK: K (a.put o.dst (.pointer (some ⟨p,12,none⟩))) w): Oper.wp Tryz.prog o a w K Q := by
 have hs' := kslot_of hs
 unfold Oper.wp
 simp [execOp,ho,go_sem,hs',run_underlying Tryz.underlying41]
 exact hK
theorem sop_f13 {s p: Nat} (ho: o.op = .fieldAddr 41 (.tmp s) 13) (hs: a.eval (.tmp s) = .pointer (some ⟨p,0,none⟩)) (hK: K (a.put o.dst (.pointer (some ⟨p,13,none⟩))) w): Oper.wp Tryz.prog o a w K Q := by
 have hs' := kslot_of hs
 unfold Oper.wp
 simp [execOp,ho,go_sem,hs',run_underlying Tryz.underlying41]
 exact hK
theorem sop_int {s: Nat} {ad: Addr} {v: Value} (ho: o.op = .load 3 (.tmp s)) (hs: a.eval (.tmp s) = .pointer (some ad)) (hc: w.cell? ad = some v) (hK: K (a.put o.dst v) w): Oper.wp Tryz.prog o a w K Q := by
 have hs' := kslot_of hs
 unfold Oper.wp
 simp [execOp,ho,go_sem,hs',hc]
 exact hK
theorem sop_str {s: Nat} {ad: Addr} {v: Value} (ho: o.op = .load 9 (.tmp s)) (hs: a.eval (.tmp s) = .pointer (some ad)) (hc: w.cell? ad = some v) (hK: K (a.put o.dst v) w): Oper.wp Tryz.prog o a w K Q := by
 have hs' := kslot_of hs
 unfold Oper.wp
 simp [execOp,ho,go_sem,hs',hc]
 exact hK
theorem sop_cols {s: Nat} {ad: Addr} {v: Value} (ho: o.op = .load 37 (.tmp s)) (hs: a.eval (.tmp s) = .pointer (some ad)) (hc: w.cell? ad = some v) (hK: K (a.put o.dst v) w): Oper.wp Tryz.prog o a w K Q := by
 have hs' := kslot_of hs
 unfold Oper.wp
 simp [execOp,ho,go_sem,hs',hc]
 exact hK
theorem sop_exprs {s: Nat} {ad: Addr} {v: Value} (ho: o.op = .load 28 (.tmp s)) (hs: a.eval (.tmp s) = .pointer (some ad)) (hc: w.cell? ad = some v) (hK: K (a.put o.dst v) w): Oper.wp Tryz.prog o a w K Q := by
 have hs' := kslot_of hs
 unfold Oper.wp
 simp [execOp,ho,go_sem,hs',hc]
 exact hK
theorem sop_bool {s: Nat} {ad: Addr} {v: Value} (ho: o.op = .load 4 (.tmp s)) (hs: a.eval (.tmp s) = .pointer (some ad)) (hc: w.cell? ad = some v) (hK: K (a.put o.dst v) w): Oper.wp Tryz.prog o a w K Q := by
 have hs' := kslot_of hs
 unfold Oper.wp
 simp [execOp,ho,go_sem,hs',hc]
 exact hK
theorem sop_pxs {s: Nat} {T: TypeId} {x: Value} {P: Ending -> World -> Prop} (ho: o.op = .call { callee := .value (.func 68),args := #[.tmp s],argTypes := #[T] }) (hs: a.eval (.tmp s) = x) (hC: Calls Tryz.prog 68 #[x] w P)
 (hK: ∀ e w',P e w' -> ∃ v,e = .returned v /\ K (a.put o.dst v) w'): Oper.wp Tryz.prog o a w K Q := by
 have hs' := kslot_of hs
 unfold Oper.wp
 simp [execOp,ho,resolve,invoke,go_sem,hs']
 refine hC.mono ?_
 intro e w' h
 obtain ⟨v,rfl,hk⟩ := hK e w' h
 exact hk
theorem sop_alloc (ho: o.op = .alloc 151) (hK: K (a.put o.dst (.pointer (some ⟨w.heap.size,0,none⟩))) (w.alloc (.cells #[.int .i64 0, .string ⟨#[]⟩, .string ⟨#[]⟩, .string ⟨#[]⟩, .slice none 0 0, .slice none 0 0, .slice none 0 0, .slice none 0 0, .slice none 0 0, .slice none 0 0, .int .i64 0, .int .i64 0, .bool false, .bool false, .slice none 0 0] 151))): Oper.wp Tryz.prog o a w K Q := by
 unfold Oper.wp
 simp [execOp,ho,go_sem]
 exact hK
theorem sop_build {a1 a2 a3: Option Addr} {n c1 c2 c3: Nat} (ho: o.op = .build 151 #[(0, .tmp 11),(1, .tmp 13),(2, .tmp 15),(3, .tmp 17),(4, .tmp 19),(5, .tmp 22),(6, .tmp 25),(7, .tmp 28),(10, .tmp 30),(11, .tmp 32),(12, .tmp 34),(13, .tmp 36)])
 (h11: a.eval (.tmp 11) = .int .i64 0) (h13: a.eval (.tmp 13) = .string ⟨#[]⟩) (h15: a.eval (.tmp 15) = .string ⟨#[]⟩) (h17: a.eval (.tmp 17) = .string ⟨#[]⟩) (h19: a.eval (.tmp 19) = .slice none 0 0) (h22: a.eval (.tmp 22) = .slice a1 0 c1) (h25: a.eval (.tmp 25) = .slice a2 0 c2) (h28: a.eval (.tmp 28) = .slice a3 n c3) (h30: a.eval (.tmp 30) = .int .i64 0) (h32: a.eval (.tmp 32) = .int .i64 0) (h34: a.eval (.tmp 34) = .bool false) (h36: a.eval (.tmp 36) = .bool false)
 (hK: K (a.put o.dst (rsV a1 a2 a3 n c1 c2 c3)) w): Oper.wp Tryz.prog o a w K Q := by
 have g11 := kslot_of h11
 have g13 := kslot_of h13
 have g15 := kslot_of h15
 have g17 := kslot_of h17
 have g19 := kslot_of h19
 have g22 := kslot_of h22
 have g25 := kslot_of h25
 have g28 := kslot_of h28
 have g30 := kslot_of h30
 have g32 := kslot_of h32
 have g34 := kslot_of h34
 have g36 := kslot_of h36
 unfold Oper.wp
 simp [execOp,ho,go_sem,g11,g13,g15,g17,g19,g22,g25,g28,g30,g32,g34,g36]
 exact hK
end
def AlikeL (l: List XL) (B: Nat) (w: World) (a': Option Addr) (l': List XL): Prop := l'.length = l.length /\ Rw.SlG xC 7 w a' l' /\ (l' = [] \/ ∀ b o,a' = some ⟨b,o,none⟩ -> B <= b) /\ (∀ k ∈ l',∀ m,In m w k /\ Off (fun b => B <= b) m k) /\ (∀ (j: Nat) k k',l[j]? = some k -> l'[j]? = some k' -> Like 60 k k')
theorem AlikeL.on {l l': List XL} {B: Nat} {w w': World} {a': Option Addr} (h: AlikeL l B w a' l') (hb: Below w.heap.size w w'): AlikeL l B w' a' l' :=
 ⟨h.1,h.2.1.below hb,h.2.2.1,fun k hk m => ⟨(h.2.2.2.1 k hk m).1.on hb,(h.2.2.2.1 k hk m).2⟩,h.2.2.2.2⟩
theorem set15_row {w: World} {p: Nat} {T: TypeId} {a0 a1 a2 a3 a4 a5 a6 a7 a8 a9 a10 a11 a12 a13 a14 b0 b1 b2 b3 b4 b5 b6 b7 b8 b9 b10 b11 b12 b13 b14: Value} (h: w.heap[p]? = some (.cells #[a0,a1,a2,a3,a4,a5,a6,a7,a8,a9,a10,a11,a12,a13,a14] T (0,0))): (((((((((((((((w.setCell ⟨p,0,none⟩ b0).setCell ⟨p,1,none⟩ b1).setCell ⟨p,2,none⟩ b2).setCell ⟨p,3,none⟩ b3).setCell ⟨p,4,none⟩ b4).setCell ⟨p,5,none⟩ b5).setCell ⟨p,6,none⟩ b6).setCell ⟨p,7,none⟩ b7).setCell ⟨p,8,none⟩ b8).setCell ⟨p,9,none⟩ b9).setCell ⟨p,10,none⟩ b10).setCell ⟨p,11,none⟩ b11).setCell ⟨p,12,none⟩ b12).setCell ⟨p,13,none⟩ b13).setCell ⟨p,14,none⟩ b14).heap[p]? = some (.cells #[b0,b1,b2,b3,b4,b5,b6,b7,b8,b9,b10,b11,b12,b13,b14] T (0,0)) := by
 have h0 := heap_setCell_same w p 0 _ T b0 h
 have h1 := heap_setCell_same _ p 1 _ T b1 h0
 have h2 := heap_setCell_same _ p 2 _ T b2 h1
 have h3 := heap_setCell_same _ p 3 _ T b3 h2
 have h4 := heap_setCell_same _ p 4 _ T b4 h3
 have h5 := heap_setCell_same _ p 5 _ T b5 h4
 have h6 := heap_setCell_same _ p 6 _ T b6 h5
 have h7 := heap_setCell_same _ p 7 _ T b7 h6
 have h8 := heap_setCell_same _ p 8 _ T b8 h7
 have h9 := heap_setCell_same _ p 9 _ T b9 h8
 have h10 := heap_setCell_same _ p 10 _ T b10 h9
 have h11 := heap_setCell_same _ p 11 _ T b11 h10
 have h12 := heap_setCell_same _ p 12 _ T b12 h11
 have h13 := heap_setCell_same _ p 13 _ T b13 h12
 have h14 := heap_setCell_same _ p 14 _ T b14 h13
 simpa using h14
theorem sop_store {Q: Exit -> Act -> World -> Prop} {K: Act -> World -> Prop} {o: Oper} {a: Act} {w: World} {s t p: Nat} {a1 a2 a3: Option Addr} {n c1 c2 c3: Nat} (ho: o.op = .store 151 (.tmp s) (.tmp t)) (hd: o.dst = none) (hs: a.eval (.tmp s) = .pointer (some ⟨p,0,none⟩)) (ht: a.eval (.tmp t) = rsV a1 a2 a3 n c1 c2 c3) (hc: w.heap[p]? = some (.cells #[.int .i64 0, .string ⟨#[]⟩, .string ⟨#[]⟩, .string ⟨#[]⟩, .slice none 0 0, .slice none 0 0, .slice none 0 0, .slice none 0 0, .slice none 0 0, .slice none 0 0, .int .i64 0, .int .i64 0, .bool false, .bool false, .slice none 0 0] 151 (0,0)))
 (hK: ∀ w',w'.heap[p]? = some (.cells #[.int .i64 0, .string ⟨#[]⟩, .string ⟨#[]⟩, .string ⟨#[]⟩, .slice none 0 0, .slice a1 0 c1, .slice a2 0 c2, .slice a3 n c3, .slice none 0 0, .slice none 0 0, .int .i64 0, .int .i64 0, .bool false, .bool false, .slice none 0 0] 151 (0,0)) -> (∀ q,q ≠ p -> w'.heap[q]? = w.heap[q]?) -> w'.heap.size = w.heap.size -> Below p w w' -> K a w'): Oper.wp Tryz.prog o a w K Q := by
 have hs' := kslot_of hs
 have ht' := kslot_of ht
 have e0: w.cell? ⟨p,0,none⟩ = some (.int .i64 0) := by rw [cell_of_row _ _ _ _ _ _ hc]; rfl
 have e1: w.cell? ⟨p,1,none⟩ = some (.string ⟨#[]⟩) := by rw [cell_of_row _ _ _ _ _ _ hc]; rfl
 have e2: w.cell? ⟨p,2,none⟩ = some (.string ⟨#[]⟩) := by rw [cell_of_row _ _ _ _ _ _ hc]; rfl
 have e3: w.cell? ⟨p,3,none⟩ = some (.string ⟨#[]⟩) := by rw [cell_of_row _ _ _ _ _ _ hc]; rfl
 have e4: w.cell? ⟨p,4,none⟩ = some (.slice none 0 0) := by rw [cell_of_row _ _ _ _ _ _ hc]; rfl
 have e5: w.cell? ⟨p,5,none⟩ = some (.slice none 0 0) := by rw [cell_of_row _ _ _ _ _ _ hc]; rfl
 have e6: w.cell? ⟨p,6,none⟩ = some (.slice none 0 0) := by rw [cell_of_row _ _ _ _ _ _ hc]; rfl
 have e7: w.cell? ⟨p,7,none⟩ = some (.slice none 0 0) := by rw [cell_of_row _ _ _ _ _ _ hc]; rfl
 have e8: w.cell? ⟨p,8,none⟩ = some (.slice none 0 0) := by rw [cell_of_row _ _ _ _ _ _ hc]; rfl
 have e9: w.cell? ⟨p,9,none⟩ = some (.slice none 0 0) := by rw [cell_of_row _ _ _ _ _ _ hc]; rfl
 have e10: w.cell? ⟨p,10,none⟩ = some (.int .i64 0) := by rw [cell_of_row _ _ _ _ _ _ hc]; rfl
 have e11: w.cell? ⟨p,11,none⟩ = some (.int .i64 0) := by rw [cell_of_row _ _ _ _ _ _ hc]; rfl
 have e12: w.cell? ⟨p,12,none⟩ = some (.bool false) := by rw [cell_of_row _ _ _ _ _ _ hc]; rfl
 have e13: w.cell? ⟨p,13,none⟩ = some (.bool false) := by rw [cell_of_row _ _ _ _ _ _ hc]; rfl
 have e14: w.cell? ⟨p,14,none⟩ = some (.slice none 0 0) := by rw [cell_of_row _ _ _ _ _ _ hc]; rfl
 have f: ∀ i,w.frozen? ⟨p,i,none⟩ = false := fun i => frozen_of_row _ _ _ _ _ hc
 have k := hK (((((((((((((((w.setCell ⟨p,0,none⟩ (.int .i64 0)).setCell ⟨p,1,none⟩ (.string ⟨#[]⟩)).setCell ⟨p,2,none⟩ (.string ⟨#[]⟩)).setCell ⟨p,3,none⟩ (.string ⟨#[]⟩)).setCell ⟨p,4,none⟩ (.slice none 0 0)).setCell ⟨p,5,none⟩ (.slice a1 0 c1)).setCell ⟨p,6,none⟩ (.slice a2 0 c2)).setCell ⟨p,7,none⟩ (.slice a3 n c3)).setCell ⟨p,8,none⟩ (.slice none 0 0)).setCell ⟨p,9,none⟩ (.slice none 0 0)).setCell ⟨p,10,none⟩ (.int .i64 0)).setCell ⟨p,11,none⟩ (.int .i64 0)).setCell ⟨p,12,none⟩ (.bool false)).setCell ⟨p,13,none⟩ (.bool false)).setCell ⟨p,14,none⟩ (.slice none 0 0)) (set15_row hc) (fun q hq => by rw [heap_setCell_other _ _ _ _ hq,heap_setCell_other _ _ _ _ hq,heap_setCell_other _ _ _ _ hq,heap_setCell_other _ _ _ _ hq,heap_setCell_other _ _ _ _ hq,heap_setCell_other _ _ _ _ hq,heap_setCell_other _ _ _ _ hq,heap_setCell_other _ _ _ _ hq,heap_setCell_other _ _ _ _ hq,heap_setCell_other _ _ _ _ hq,heap_setCell_other _ _ _ _ hq,heap_setCell_other _ _ _ _ hq,heap_setCell_other _ _ _ _ hq,heap_setCell_other _ _ _ _ hq,heap_setCell_other _ _ _ _ hq]) (by simp) ((((((((((((((((Below.refl p w).setCell (Nat.le_refl _) _).setCell (Nat.le_refl _) _).setCell (Nat.le_refl _) _).setCell (Nat.le_refl _) _).setCell (Nat.le_refl _) _).setCell (Nat.le_refl _) _).setCell (Nat.le_refl _) _).setCell (Nat.le_refl _) _).setCell (Nat.le_refl _) _).setCell (Nat.le_refl _) _).setCell (Nat.le_refl _) _).setCell (Nat.le_refl _) _).setCell (Nat.le_refl _) _).setCell (Nat.le_refl _) _).setCell (Nat.le_refl _) _)
 unfold rsV at ht'
 unfold Oper.wp
 simp [execOp,ho,go_sem,hs',ht',e0,e1,e2,e3,e4,e5,e6,e7,e8,e9,e10,e11,e12,e13,e14,f,hd]
 exact k
theorem zero_no {w: World} {p o: Nat} {s: ByteArray} {i: Int} (h: w.heap[p]? = some (.cells #[.int .i64 0, .string ⟨#[]⟩, .string ⟨#[]⟩, .string ⟨#[]⟩, .slice none 0 0, .slice none 0 0, .slice none 0 0, .slice none 0 0, .slice none 0 0, .slice none 0 0, .int .i64 0, .int .i64 0, .bool false, .bool false, .slice none 0 0] 151 (0,0))) (c0: w.cell? ⟨p,o,none⟩ = some (.string s)) (c1: w.cell? ⟨p,o + 1,none⟩ = some (.int .i64 i)): False := by
 rw [cell_of_row _ _ _ _ _ _ h] at c0 c1
 by_cases ho: o < 15
 · rcases (by omega: o = 0 \/ o = 1 \/ o = 2 \/ o = 3 \/ o = 4 \/ o = 5 \/ o = 6 \/ o = 7 \/ o = 8 \/ o = 9 \/ o = 10 \/ o = 11 \/ o = 12 \/ o = 13 \/ o = 14) with rfl | rfl | rfl | rfl | rfl | rfl | rfl | rfl | rfl | rfl | rfl | rfl | rfl | rfl | rfl
   all_goals first | (simp at c0; done) | (simp at c1; done)
 · rw [Array.getElem?_eq_none (by simp; omega)] at c0
   cases c0
theorem SlG_past {w W: World} {p: Nat} {a: Option Addr} {l: List XL} (h: Rw.SlG xC 7 w a l) (hz: w.heap[p]? = some (.cells #[.int .i64 0, .string ⟨#[]⟩, .string ⟨#[]⟩, .string ⟨#[]⟩, .slice none 0 0, .slice none 0 0, .slice none 0 0, .slice none 0 0, .slice none 0 0, .slice none 0 0, .int .i64 0, .int .i64 0, .bool false, .bool false, .slice none 0 0] 151 (0,0))) (hs: w.heap.size <= W.heap.size) (ho: ∀ b,b ≠ p -> W.heap[b]? = w.heap[b]?): Rw.SlG xC 7 W a l := by
 cases l with
 | nil => exact Or.inl rfl
 | cons x l =>
  rcases h with h | ⟨b,o,e,hlt,hc⟩
  · cases h
  have c0: w.cell? ⟨b,o,none⟩ = some (.string x.op) := by simpa using hc 0 x rfl 0 _ rfl
  have c1: w.cell? ⟨b,o + 1,none⟩ = some (.int .i64 x.vk) := by simpa using hc 0 x rfl 1 _ rfl
  have hn: b ≠ p := fun q => by subst q; exact zero_no hz c0 c1
  exact Rw.SlG.turn (Or.inr ⟨b,o,e,hlt,hc⟩) hs fun b' o' e' _ => ho b' (by rw [e] at e'; cases e'; exact hn)
theorem In_past {w W: World} {p: Nat} (hz: w.heap[p]? = some (.cells #[.int .i64 0, .string ⟨#[]⟩, .string ⟨#[]⟩, .string ⟨#[]⟩, .slice none 0 0, .slice none 0 0, .slice none 0 0, .slice none 0 0, .slice none 0 0, .slice none 0 0, .int .i64 0, .int .i64 0, .bool false, .bool false, .slice none 0 0] 151 (0,0))) (hs: w.heap.size <= W.heap.size) (ho: ∀ b,b ≠ p -> W.heap[b]? = w.heap[b]?): ∀ {n: Nat} {x: XL},In n w x -> In n W x
 | 0,_,_ => trivial
 | _ + 1,_,h => ⟨h.1,SlG_past h.2.1 hz hs ho,fun k hk => In_past hz hs ho (h.2.2 k hk)⟩
theorem AlikeL.past {l l': List XL} {B: Nat} {w W: World} {p: Nat} {a': Option Addr} (h: AlikeL l B w a' l') (hz: w.heap[p]? = some (.cells #[.int .i64 0, .string ⟨#[]⟩, .string ⟨#[]⟩, .string ⟨#[]⟩, .slice none 0 0, .slice none 0 0, .slice none 0 0, .slice none 0 0, .slice none 0 0, .slice none 0 0, .int .i64 0, .int .i64 0, .bool false, .bool false, .slice none 0 0] 151 (0,0))) (hs: w.heap.size <= W.heap.size) (ho: ∀ b,b ≠ p -> W.heap[b]? = w.heap[b]?): AlikeL l B W a' l' :=
 ⟨h.1,SlG_past h.2.1 hz hs ho,h.2.2.1,fun k hk m => ⟨In_past hz hs ho (h.2.2.2.1 k hk m).1,(h.2.2.2.1 k hk m).2⟩,h.2.2.2.2⟩
def fpF (b B n c: Nat) (a: Option Addr) (l: List XL): Nat -> Value -> World -> Prop
 | 0,v,_ => v = .pointer (some ⟨b,0,none⟩)
 | 1,v,_ => v = .int .i64 0
 | 2,v,_ => v = .pointer (some ⟨b,1,none⟩)
 | 3,v,_ => v = .string ⟨#[]⟩
 | 4,v,_ => v = .pointer (some ⟨b,2,none⟩)
 | 5,v,_ => v = .string ⟨#[]⟩
 | 6,v,_ => v = .pointer (some ⟨b,3,none⟩)
 | 7,v,_ => v = .string ⟨#[]⟩
 | 8,v,_ => v = .pointer (some ⟨b,4,none⟩)
 | 9,v,_ => v = .slice none 0 0
 | 10,v,_ => v = .pointer (some ⟨b,5,none⟩)
 | 11,v,_ => v = .slice none 0 0
 | 12,v,_ => ∃ a1 c1,v = .slice a1 0 c1
 | 13,v,_ => v = .pointer (some ⟨b,6,none⟩)
 | 14,v,_ => v = .slice none 0 0
 | 15,v,_ => ∃ a1 c1,v = .slice a1 0 c1
 | 16,v,_ => v = .pointer (some ⟨b,7,none⟩)
 | 17,v,_ => v = .slice a n c
 | 18,v,w => ∃ a3 c3 l3,v = .slice a3 n c3 /\ AlikeL l B w a3 l3
 | 19,v,_ => v = .pointer (some ⟨b,10,none⟩)
 | 20,v,_ => v = .int .i64 0
 | 21,v,_ => v = .pointer (some ⟨b,11,none⟩)
 | 22,v,_ => v = .int .i64 0
 | 23,v,_ => v = .pointer (some ⟨b,12,none⟩)
 | 24,v,_ => v = .bool false
 | 25,v,_ => v = .pointer (some ⟨b,13,none⟩)
 | 26,v,_ => v = .bool false
 | 27,v,w => ∃ a1 c1 a2 c2 a3 c3 l3,v = rsV a1 a2 a3 n c1 c2 c3 /\ AlikeL l B w a3 l3
 | 28,v,w => ∃ p,v = .pointer (some ⟨p,0,none⟩) /\ w.heap[p]? = some (.cells #[.int .i64 0, .string ⟨#[]⟩, .string ⟨#[]⟩, .string ⟨#[]⟩, .slice none 0 0, .slice none 0 0, .slice none 0 0, .slice none 0 0, .slice none 0 0, .slice none 0 0, .int .i64 0, .int .i64 0, .bool false, .bool false, .slice none 0 0] 151 (0,0)) /\ b + 2 <= p
 | _,_,_ => True
theorem fpF_mono {b B n c: Nat} {a: Option Addr} {l: List XL}: ∀ (i: Nat) (v: Value) (w w': World),fpF b B n c a l i v w -> Below w.heap.size w w' -> fpF b B n c a l i v w'
 | 0,_,_,_,h,_ => h
 | 1,_,_,_,h,_ => h
 | 2,_,_,_,h,_ => h
 | 3,_,_,_,h,_ => h
 | 4,_,_,_,h,_ => h
 | 5,_,_,_,h,_ => h
 | 6,_,_,_,h,_ => h
 | 7,_,_,_,h,_ => h
 | 8,_,_,_,h,_ => h
 | 9,_,_,_,h,_ => h
 | 10,_,_,_,h,_ => h
 | 11,_,_,_,h,_ => h
 | 12,_,_,_,h,_ => h
 | 13,_,_,_,h,_ => h
 | 14,_,_,_,h,_ => h
 | 15,_,_,_,h,_ => h
 | 16,_,_,_,h,_ => h
 | 17,_,_,_,h,_ => h
 | 18,_,_,_,⟨a3,c3,l3,h1,h2⟩,hb => ⟨a3,c3,l3,h1,h2.on hb⟩
 | 19,_,_,_,h,_ => h
 | 20,_,_,_,h,_ => h
 | 21,_,_,_,h,_ => h
 | 22,_,_,_,h,_ => h
 | 23,_,_,_,h,_ => h
 | 24,_,_,_,h,_ => h
 | 25,_,_,_,h,_ => h
 | 26,_,_,_,h,_ => h
 | 27,_,_,_,⟨a1,c1,a2,c2,a3,c3,l3,h1,h2⟩,hb => ⟨a1,c1,a2,c2,a3,c3,l3,h1,h2.on hb⟩
 | 28,_,_,_,⟨p,h1,h2,h3⟩,hb => ⟨p,h1,(hb.block p (Array.getElem?_eq_some_iff.1 h2).1).trans h2,h3⟩
 | _ + 29,_,_,_,_,_ => trivial
def pS (i: Nat): Nat := if i < 28 then 10 + i else 3
def pLR: List Nat := [3,10,11,12,13,14,15,16,17,18,19,20,21,22,23,24,25,26,27,28,29,30,31,32,33,34,35,36,37]
structure PlS (w wr: World) (l l3: List XL) (a: Option Addr) (n c p: Nat) (a1 a2 a3: Option Addr) (c1 c2 c3: Nat): Prop where
 bel: Below w.heap.size w wr
 s: wr.heap[w.heap.size]? = some (.cells #[.int .i64 0, .string ⟨#[]⟩, .string ⟨#[]⟩, .string ⟨#[]⟩, .slice none 0 0, .slice none 0 0, .slice none 0 0, .slice a n c, .slice none 0 0, .slice none 0 0, .int .i64 0, .int .i64 0, .bool false, .bool false, .slice none 0 0] 41 (0,0))
 r: wr.heap[w.heap.size + 1]? = some (.cells #[.int .i64 0, .string ⟨#[]⟩, .string ⟨#[]⟩, .string ⟨#[]⟩, .slice none 0 0, .slice none 0 0, .slice none 0 0, .slice none 0 0, .slice none 0 0, .slice none 0 0, .int .i64 0, .int .i64 0, .bool false, .bool false, .slice none 0 0] 151 (0,0))
 x: wr.heap[p]? = some (.cells #[.int .i64 0, .string ⟨#[]⟩, .string ⟨#[]⟩, .string ⟨#[]⟩, .slice none 0 0, .slice a1 0 c1, .slice a2 0 c2, .slice a3 n c3, .slice none 0 0, .slice none 0 0, .int .i64 0, .int .i64 0, .bool false, .bool false, .slice none 0 0] 151 (0,0))
 al: AlikeL l w.heap.size wr a3 l3
def PlainSP (l: List XL) (w: World) (e: Ending) (W: World): Prop := Below w.heap.size w W /\ ∃ a1 c1 a2 c2 a3 c3 l3,e = .returned (rsV a1 a2 a3 l.length c1 c2 c3) /\ AlikeL l w.heap.size W a3 l3
theorem plainS_walk {l: List XL} {a: Option Addr} {c: Nat} {w: World} (hs: Rw.SlG xC 7 w a l) (hi: ∀ k ∈ l,In 60 w k) (hd: ∀ k ∈ l,deepB 60 k = false) (hl: l.length <= 1048576): Calls Tryz.prog 60 #[wsV a l.length c] w (PlainSP l w) := by
 have HC := Rw.dh (fun W (hb: Below w.heap.size w W) => plains_walk (c := c) 60 (plain_walk 60) (hs.below hb) (fun k hk => (hi k hk).on hb) hd (by omega))
 have H0 := Rw.dh (fun W c => plains_walk (l := []) (a := none) (w := W) (c := c) 60 (plain_walk 60) (Or.inl rfl) (fun k hk => by cases hk) (fun k hk => by cases hk) (by simp))
 have HLn := Rw.dh hl
 clear hs hi hd hl
 unfold wsV
 generalize hn: l.length = n at *
 go_enter Tryz.func60,Tryz.ntmps60
 go_wp2_with fail
 refine Rw.to_letter (F := fun W => Below w.heap.size w W /\ W.heap[w.heap.size]? = some (.cells #[.int .i64 0, .string ⟨#[]⟩, .string ⟨#[]⟩, .string ⟨#[]⟩, .slice none 0 0, .slice none 0 0, .slice none 0 0, .slice a n c, .slice none 0 0, .slice none 0 0, .int .i64 0, .int .i64 0, .bool false, .bool false, .slice none 0 0] 41 (0,0)) /\ W.heap[w.heap.size + 1]? = some (.cells #[.int .i64 0, .string ⟨#[]⟩, .string ⟨#[]⟩, .string ⟨#[]⟩, .slice none 0 0, .slice none 0 0, .slice none 0 0, .slice none 0 0, .slice none 0 0, .slice none 0 0, .int .i64 0, .int .i64 0, .bool false, .bool false, .slice none 0 0] 151 (0,0))) ⟨below_two w _ _,(Below.heap_alloc _ _ _ (by simp)).trans (Rw.heap_new w _),heap_two w _ _⟩ ?_
 rintro W ⟨hB,hst,hro⟩
 have HW := Rw.dh (And.intro hB (And.intro hst hro))
 have hlt := (Array.getElem?_eq_some_iff.1 hst).1
 have hlt1 := (Array.getElem?_eq_some_iff.1 hro).1
 clear hB hst hro
 refine Rw.wp_region_facts (U := W) 29 pS pLR (fpF w.heap.size w.heap.size n c a l) fpF_mono (by intro i j hi hj; unfold pS; split <;> split <;> omega) (by intro i hi; unfold pS pLR; split <;> simp <;> omega) (by intro i hi; show pS i < 87; unfold pS; split <;> omega) (by kernel_rfl) (by kernel_rfl) (by kernel_rfl) (by simp) (Rw.lowO_of (by kernel_rfl)) (by kernel_rfl) ?_ ?_
 · intro i o a2 w2 hi hi29 hfr hbw hdep
   have e1: a2.eval (.tmp 1) = .pointer (some ⟨w.heap.size,0,none⟩) := hfr.eval (by decide)
   have hst := (hbw.block _ hlt).trans HW.out.2.1
   have hBw := below_on HW.out.1 hbw
   have dep: ∀ q,(o.after.any fun e => Region.binds .any e && e.on == q) = true -> fpF w.heap.size w.heap.size n c a l q (a2.eval (.tmp (pS q))) w2 := fun q h => Rw.depO (F := fun q => fpF w.heap.size w.heap.size n c a l q (a2.eval (.tmp (pS q))) w2) q h hdep
   have hcs: i = 0 \/ i = 1 \/ i = 2 \/ i = 3 \/ i = 4 \/ i = 5 \/ i = 6 \/ i = 7 \/ i = 8 \/ i = 9 \/ i = 10 \/ i = 11 \/ i = 12 \/ i = 13 \/ i = 14 \/ i = 15 \/ i = 16 \/ i = 17 \/ i = 18 \/ i = 19 \/ i = 20 \/ i = 21 \/ i = 22 \/ i = 23 \/ i = 24 \/ i = 25 \/ i = 26 \/ i = 27 \/ i = 28 := by omega
   rcases hcs with rfl | rfl | rfl | rfl | rfl | rfl | rfl | rfl | rfl | rfl | rfl | rfl | rfl | rfl | rfl | rfl | rfl | rfl | rfl | rfl | rfl | rfl | rfl | rfl | rfl | rfl | rfl | rfl | rfl
   · obtain rfl := Option.some.inj hi
     exact ⟨rfl,fun K hK => sop_f0 rfl e1 (hK _ _ (Below.refl _ _) rfl)⟩
   · obtain rfl := Option.some.inj hi
     have d: a2.eval (.tmp 10) = .pointer (some ⟨w.heap.size,0,none⟩) := dep 0 (by kernel_rfl)
     have x: w2.cell? ⟨w.heap.size,0,none⟩ = some (.int .i64 0) := by rw [cell_of_row _ _ _ _ _ _ hst]; rfl
     exact ⟨rfl,fun K hK => sop_int rfl d x (hK _ _ (Below.refl _ _) rfl)⟩
   · obtain rfl := Option.some.inj hi
     exact ⟨rfl,fun K hK => sop_f1 rfl e1 (hK _ _ (Below.refl _ _) rfl)⟩
   · obtain rfl := Option.some.inj hi
     have d: a2.eval (.tmp 12) = .pointer (some ⟨w.heap.size,1,none⟩) := dep 2 (by kernel_rfl)
     have x: w2.cell? ⟨w.heap.size,1,none⟩ = some (.string ⟨#[]⟩) := by rw [cell_of_row _ _ _ _ _ _ hst]; rfl
     exact ⟨rfl,fun K hK => sop_str rfl d x (hK _ _ (Below.refl _ _) rfl)⟩
   · obtain rfl := Option.some.inj hi
     exact ⟨rfl,fun K hK => sop_f2 rfl e1 (hK _ _ (Below.refl _ _) rfl)⟩
   · obtain rfl := Option.some.inj hi
     have d: a2.eval (.tmp 14) = .pointer (some ⟨w.heap.size,2,none⟩) := dep 4 (by kernel_rfl)
     have x: w2.cell? ⟨w.heap.size,2,none⟩ = some (.string ⟨#[]⟩) := by rw [cell_of_row _ _ _ _ _ _ hst]; rfl
     exact ⟨rfl,fun K hK => sop_str rfl d x (hK _ _ (Below.refl _ _) rfl)⟩
   · obtain rfl := Option.some.inj hi
     exact ⟨rfl,fun K hK => sop_f3 rfl e1 (hK _ _ (Below.refl _ _) rfl)⟩
   · obtain rfl := Option.some.inj hi
     have d: a2.eval (.tmp 16) = .pointer (some ⟨w.heap.size,3,none⟩) := dep 6 (by kernel_rfl)
     have x: w2.cell? ⟨w.heap.size,3,none⟩ = some (.string ⟨#[]⟩) := by rw [cell_of_row _ _ _ _ _ _ hst]; rfl
     exact ⟨rfl,fun K hK => sop_str rfl d x (hK _ _ (Below.refl _ _) rfl)⟩
   · obtain rfl := Option.some.inj hi
     exact ⟨rfl,fun K hK => sop_f4 rfl e1 (hK _ _ (Below.refl _ _) rfl)⟩
   · obtain rfl := Option.some.inj hi
     have d: a2.eval (.tmp 18) = .pointer (some ⟨w.heap.size,4,none⟩) := dep 8 (by kernel_rfl)
     have x: w2.cell? ⟨w.heap.size,4,none⟩ = some (.slice none 0 0) := by rw [cell_of_row _ _ _ _ _ _ hst]; rfl
     exact ⟨rfl,fun K hK => sop_cols rfl d x (hK _ _ (Below.refl _ _) rfl)⟩
   · obtain rfl := Option.some.inj hi
     exact ⟨rfl,fun K hK => sop_f5 rfl e1 (hK _ _ (Below.refl _ _) rfl)⟩
   · obtain rfl := Option.some.inj hi
     have d: a2.eval (.tmp 20) = .pointer (some ⟨w.heap.size,5,none⟩) := dep 10 (by kernel_rfl)
     have x: w2.cell? ⟨w.heap.size,5,none⟩ = some (.slice none 0 0) := by rw [cell_of_row _ _ _ _ _ _ hst]; rfl
     exact ⟨rfl,fun K hK => sop_exprs rfl d x (hK _ _ (Below.refl _ _) rfl)⟩
   · obtain rfl := Option.some.inj hi
     have d: a2.eval (.tmp 21) = .slice none 0 0 := dep 11 (by kernel_rfl)
     refine ⟨rfl,fun K hK => sop_pxs rfl d (H0.out w2 0) ?_⟩
     rintro e w3 ⟨a',c',l',rfl,_,_,_,_,_,hb3⟩
     exact ⟨_,rfl,hK _ _ hb3 ⟨_,_,rfl⟩⟩
   · obtain rfl := Option.some.inj hi
     exact ⟨rfl,fun K hK => sop_f6 rfl e1 (hK _ _ (Below.refl _ _) rfl)⟩
   · obtain rfl := Option.some.inj hi
     have d: a2.eval (.tmp 23) = .pointer (some ⟨w.heap.size,6,none⟩) := dep 13 (by kernel_rfl)
     have x: w2.cell? ⟨w.heap.size,6,none⟩ = some (.slice none 0 0) := by rw [cell_of_row _ _ _ _ _ _ hst]; rfl
     exact ⟨rfl,fun K hK => sop_exprs rfl d x (hK _ _ (Below.refl _ _) rfl)⟩
   · obtain rfl := Option.some.inj hi
     have d: a2.eval (.tmp 24) = .slice none 0 0 := dep 14 (by kernel_rfl)
     refine ⟨rfl,fun K hK => sop_pxs rfl d (H0.out w2 0) ?_⟩
     rintro e w3 ⟨a',c',l',rfl,_,_,_,_,_,hb3⟩
     exact ⟨_,rfl,hK _ _ hb3 ⟨_,_,rfl⟩⟩
   · obtain rfl := Option.some.inj hi
     exact ⟨rfl,fun K hK => sop_f7 rfl e1 (hK _ _ (Below.refl _ _) rfl)⟩
   · obtain rfl := Option.some.inj hi
     have d: a2.eval (.tmp 26) = .pointer (some ⟨w.heap.size,7,none⟩) := dep 16 (by kernel_rfl)
     have x: w2.cell? ⟨w.heap.size,7,none⟩ = some (.slice a n c) := by rw [cell_of_row _ _ _ _ _ _ hst]; rfl
     exact ⟨rfl,fun K hK => sop_exprs rfl d x (hK _ _ (Below.refl _ _) rfl)⟩
   · obtain rfl := Option.some.inj hi
     have d: a2.eval (.tmp 27) = .slice a n c := dep 17 (by kernel_rfl)
     refine ⟨rfl,fun K hK => sop_pxs rfl d (HC.out w2 hBw) ?_⟩
     rintro e w3 ⟨a',c',l',rfl,g1,g2,g3,g4,g5,hb3⟩
     have hsz := hBw.size
     exact ⟨_,rfl,hK _ _ hb3 ⟨a',c',l',by rw [hn],g1,g2,g3.imp id fun h b o e => Nat.le_trans hsz (h b o e),fun k hk m => ⟨(g4 k hk m).1,(g4 k hk m).2.mono fun b hb => Nat.le_trans hsz hb⟩,g5⟩⟩
   · obtain rfl := Option.some.inj hi
     exact ⟨rfl,fun K hK => sop_f10 rfl e1 (hK _ _ (Below.refl _ _) rfl)⟩
   · obtain rfl := Option.some.inj hi
     have d: a2.eval (.tmp 29) = .pointer (some ⟨w.heap.size,10,none⟩) := dep 19 (by kernel_rfl)
     have x: w2.cell? ⟨w.heap.size,10,none⟩ = some (.int .i64 0) := by rw [cell_of_row _ _ _ _ _ _ hst]; rfl
     exact ⟨rfl,fun K hK => sop_int rfl d x (hK _ _ (Below.refl _ _) rfl)⟩
   · obtain rfl := Option.some.inj hi
     exact ⟨rfl,fun K hK => sop_f11 rfl e1 (hK _ _ (Below.refl _ _) rfl)⟩
   · obtain rfl := Option.some.inj hi
     have d: a2.eval (.tmp 31) = .pointer (some ⟨w.heap.size,11,none⟩) := dep 21 (by kernel_rfl)
     have x: w2.cell? ⟨w.heap.size,11,none⟩ = some (.int .i64 0) := by rw [cell_of_row _ _ _ _ _ _ hst]; rfl
     exact ⟨rfl,fun K hK => sop_int rfl d x (hK _ _ (Below.refl _ _) rfl)⟩
   · obtain rfl := Option.some.inj hi
     exact ⟨rfl,fun K hK => sop_f12 rfl e1 (hK _ _ (Below.refl _ _) rfl)⟩
   · obtain rfl := Option.some.inj hi
     have d: a2.eval (.tmp 33) = .pointer (some ⟨w.heap.size,12,none⟩) := dep 23 (by kernel_rfl)
     have x: w2.cell? ⟨w.heap.size,12,none⟩ = some (.bool false) := by rw [cell_of_row _ _ _ _ _ _ hst]; rfl
     exact ⟨rfl,fun K hK => sop_bool rfl d x (hK _ _ (Below.refl _ _) rfl)⟩
   · obtain rfl := Option.some.inj hi
     exact ⟨rfl,fun K hK => sop_f13 rfl e1 (hK _ _ (Below.refl _ _) rfl)⟩
   · obtain rfl := Option.some.inj hi
     have d: a2.eval (.tmp 35) = .pointer (some ⟨w.heap.size,13,none⟩) := dep 25 (by kernel_rfl)
     have x: w2.cell? ⟨w.heap.size,13,none⟩ = some (.bool false) := by rw [cell_of_row _ _ _ _ _ _ hst]; rfl
     exact ⟨rfl,fun K hK => sop_bool rfl d x (hK _ _ (Below.refl _ _) rfl)⟩
   · obtain rfl := Option.some.inj hi
     have d11: a2.eval (.tmp 11) = .int .i64 0 := dep 1 (by kernel_rfl)
     have d13: a2.eval (.tmp 13) = .string ⟨#[]⟩ := dep 3 (by kernel_rfl)
     have d15: a2.eval (.tmp 15) = .string ⟨#[]⟩ := dep 5 (by kernel_rfl)
     have d17: a2.eval (.tmp 17) = .string ⟨#[]⟩ := dep 7 (by kernel_rfl)
     have d19: a2.eval (.tmp 19) = .slice none 0 0 := dep 9 (by kernel_rfl)
     obtain ⟨a22,c22,d22⟩: ∃ a1 c1,a2.eval (.tmp 22) = .slice a1 0 c1 := dep 12 (by kernel_rfl)
     obtain ⟨a25,c25,d25⟩: ∃ a1 c1,a2.eval (.tmp 25) = .slice a1 0 c1 := dep 15 (by kernel_rfl)
     obtain ⟨a28,c28,l3,d28,h3⟩: ∃ a3 c3 l3,a2.eval (.tmp 28) = .slice a3 n c3 /\ AlikeL l w.heap.size w2 a3 l3 := dep 18 (by kernel_rfl)
     have d30: a2.eval (.tmp 30) = .int .i64 0 := dep 20 (by kernel_rfl)
     have d32: a2.eval (.tmp 32) = .int .i64 0 := dep 22 (by kernel_rfl)
     have d34: a2.eval (.tmp 34) = .bool false := dep 24 (by kernel_rfl)
     have d36: a2.eval (.tmp 36) = .bool false := dep 26 (by kernel_rfl)
     exact ⟨rfl,fun K hK => sop_build rfl d11 d13 d15 d17 d19 d22 d25 d28 d30 d32 d34 d36 (hK _ _ (Below.refl _ _) ⟨_,_,_,_,_,_,l3,rfl,h3⟩)⟩
   · obtain rfl := Option.some.inj hi
     exact ⟨rfl,fun K hK => sop_alloc rfl (hK _ _ (Rw.below_alloc _ _) ⟨_,rfl,Rw.heap_new _ _,by have := hbw.size; omega⟩)⟩
 · intro a2 w2 hfr hbw hk
   obtain ⟨a1,c1,a3,c3,a4,c4,l3,k27,hAl⟩: ∃ a1 c1 a2' c2 a3 c3 l3,a2.eval (.tmp 37) = rsV a1 a2' a3 n c1 c2 c3 /\ AlikeL l w.heap.size w2 a3 l3 := hk 27 (by decide)
   obtain ⟨p,k28,hp,hpB⟩: ∃ p,a2.eval (.tmp 3) = .pointer (some ⟨p,0,none⟩) /\ w2.heap[p]? = some (.cells #[.int .i64 0, .string ⟨#[]⟩, .string ⟨#[]⟩, .string ⟨#[]⟩, .slice none 0 0, .slice none 0 0, .slice none 0 0, .slice none 0 0, .slice none 0 0, .slice none 0 0, .int .i64 0, .int .i64 0, .bool false, .bool false, .slice none 0 0] 151 (0,0)) /\ w.heap.size + 2 <= p := hk 28 (by decide)
   have ha := hfr.all (by intro t ht; simp [pLR] at ht; show t < 87; omega)
   refine wpList_plain rfl fun K hK => sop_store rfl rfl k28 k27 hp fun w3 g1 g2 g3 g4 => hK _ _ ?_
   have HA := Rw.dh (hAl.past hp (by omega) g2)
   have hst := (g2 w.heap.size (by omega)).trans ((hbw.block _ hlt).trans HW.out.2.1)
   have hres := (g2 (w.heap.size + 1) (by omega)).trans ((hbw.block _ hlt1).trans HW.out.2.2)
   have HRES := Rw.dh hres
   have HB3 := Rw.dh (below_on HW.out.1 hbw |>.trans (g4.mono (by omega)))
   have H15 := Rw.dh g1
   have HST := Rw.dh hst
   clear g1 g2 g3 g4 hst hres hk k27 hAl hp hbw HC H0
   rw [ha]
   simp only [Rw.putAll,pLR]
   rw [k28]
   clear ha hfr k28
   generalize a2.eval (.tmp 10) = u10,a2.eval (.tmp 11) = u11,a2.eval (.tmp 12) = u12,a2.eval (.tmp 13) = u13,a2.eval (.tmp 14) = u14,a2.eval (.tmp 15) = u15,a2.eval (.tmp 16) = u16,a2.eval (.tmp 17) = u17,a2.eval (.tmp 18) = u18,a2.eval (.tmp 19) = u19,a2.eval (.tmp 20) = u20,a2.eval (.tmp 21) = u21,a2.eval (.tmp 22) = u22,a2.eval (.tmp 23) = u23,a2.eval (.tmp 24) = u24,a2.eval (.tmp 25) = u25,a2.eval (.tmp 26) = u26,a2.eval (.tmp 27) = u27,a2.eval (.tmp 28) = u28,a2.eval (.tmp 29) = u29,a2.eval (.tmp 30) = u30,a2.eval (.tmp 31) = u31,a2.eval (.tmp 32) = u32,a2.eval (.tmp 33) = u33,a2.eval (.tmp 34) = u34,a2.eval (.tmp 35) = u35,a2.eval (.tmp 36) = u36,a2.eval (.tmp 37) = u37
   simp only [Act.put,List.setIfInBounds_toArray,List.set_cons_succ,List.set_cons_zero]
   have HP: Hid (PlS w w3 l l3 a n c p a1 a3 a4 c1 c3 c4) := ⟨HB3.out,HST.out,HRES.out,H15.out,HA.out⟩
   clear HA HB3 H15 HST HRES
   have c8: w3.cell? ⟨w.heap.size,8,none⟩ = some (.slice none 0 0) := by rw [cell_of_row _ _ _ _ _ _ HP.out.s]; rfl
   go_wp2_with fail
   clear c8
   go_loopw [41] (fun i wr => i = .int .i64 0 /\ Hid (PlS w wr l l3 a n c p a1 a3 a4 c1 c3 c4)) (fun _ _ => 0)
   case atStart => exact ⟨rfl,HP⟩
   case round =>
    obtain ⟨rfl,HP2⟩ := hrel
    have c9: wr.cell? ⟨w.heap.size,9,none⟩ = some (.slice none 0 0) := by rw [cell_of_row _ _ _ _ _ _ HP2.out.s]; rfl
    go_wp2_with fail
    clear c9
    go_loopw [60] (fun i wr => i = .int .i64 0 /\ Hid (PlS w wr l l3 a n c p a1 a3 a4 c1 c3 c4)) (fun _ _ => 0)
    case atStart => exact ⟨rfl,HP2⟩
    case round =>
     obtain ⟨rfl,HP3⟩ := hrel
     have c14: wr.cell? ⟨w.heap.size,14,none⟩ = some (.slice none 0 0) := by rw [cell_of_row _ _ _ _ _ _ HP3.out.s]; rfl
     go_wp2_with fail
     clear c14
     go_loopw [74] (fun i wr => i = .int .i64 0 /\ Hid (PlS w wr l l3 a n c p a1 a3 a4 c1 c3 c4)) (fun _ _ => 0)
     case atStart => exact ⟨rfl,HP3⟩
     case round =>
      obtain ⟨rfl,HP4⟩ := hrel
      have hpx := HP4.out.x
      have hpr := HP4.out.r
      have y0: wr.cell? ⟨p,0,none⟩ = some (.int .i64 0) := by rw [cell_of_row _ _ _ _ _ _ hpx]; rfl
      have z0: wr.cell? ⟨w.heap.size + 1,0,none⟩ = some (.int .i64 0) := by rw [cell_of_row _ _ _ _ _ _ hpr]; rfl
      have y1: wr.cell? ⟨p,1,none⟩ = some (.string ⟨#[]⟩) := by rw [cell_of_row _ _ _ _ _ _ hpx]; rfl
      have z1: wr.cell? ⟨w.heap.size + 1,1,none⟩ = some (.string ⟨#[]⟩) := by rw [cell_of_row _ _ _ _ _ _ hpr]; rfl
      have y2: wr.cell? ⟨p,2,none⟩ = some (.string ⟨#[]⟩) := by rw [cell_of_row _ _ _ _ _ _ hpx]; rfl
      have z2: wr.cell? ⟨w.heap.size + 1,2,none⟩ = some (.string ⟨#[]⟩) := by rw [cell_of_row _ _ _ _ _ _ hpr]; rfl
      have y3: wr.cell? ⟨p,3,none⟩ = some (.string ⟨#[]⟩) := by rw [cell_of_row _ _ _ _ _ _ hpx]; rfl
      have z3: wr.cell? ⟨w.heap.size + 1,3,none⟩ = some (.string ⟨#[]⟩) := by rw [cell_of_row _ _ _ _ _ _ hpr]; rfl
      have y4: wr.cell? ⟨p,4,none⟩ = some (.slice none 0 0) := by rw [cell_of_row _ _ _ _ _ _ hpx]; rfl
      have z4: wr.cell? ⟨w.heap.size + 1,4,none⟩ = some (.slice none 0 0) := by rw [cell_of_row _ _ _ _ _ _ hpr]; rfl
      have y5: wr.cell? ⟨p,5,none⟩ = some (.slice a1 0 c1) := by rw [cell_of_row _ _ _ _ _ _ hpx]; rfl
      have z5: wr.cell? ⟨w.heap.size + 1,5,none⟩ = some (.slice none 0 0) := by rw [cell_of_row _ _ _ _ _ _ hpr]; rfl
      have y6: wr.cell? ⟨p,6,none⟩ = some (.slice a3 0 c3) := by rw [cell_of_row _ _ _ _ _ _ hpx]; rfl
      have z6: wr.cell? ⟨w.heap.size + 1,6,none⟩ = some (.slice none 0 0) := by rw [cell_of_row _ _ _ _ _ _ hpr]; rfl
      have y7: wr.cell? ⟨p,7,none⟩ = some (.slice a4 n c4) := by rw [cell_of_row _ _ _ _ _ _ hpx]; rfl
      have z7: wr.cell? ⟨w.heap.size + 1,7,none⟩ = some (.slice none 0 0) := by rw [cell_of_row _ _ _ _ _ _ hpr]; rfl
      have y8: wr.cell? ⟨p,8,none⟩ = some (.slice none 0 0) := by rw [cell_of_row _ _ _ _ _ _ hpx]; rfl
      have z8: wr.cell? ⟨w.heap.size + 1,8,none⟩ = some (.slice none 0 0) := by rw [cell_of_row _ _ _ _ _ _ hpr]; rfl
      have y9: wr.cell? ⟨p,9,none⟩ = some (.slice none 0 0) := by rw [cell_of_row _ _ _ _ _ _ hpx]; rfl
      have z9: wr.cell? ⟨w.heap.size + 1,9,none⟩ = some (.slice none 0 0) := by rw [cell_of_row _ _ _ _ _ _ hpr]; rfl
      have y10: wr.cell? ⟨p,10,none⟩ = some (.int .i64 0) := by rw [cell_of_row _ _ _ _ _ _ hpx]; rfl
      have z10: wr.cell? ⟨w.heap.size + 1,10,none⟩ = some (.int .i64 0) := by rw [cell_of_row _ _ _ _ _ _ hpr]; rfl
      have y11: wr.cell? ⟨p,11,none⟩ = some (.int .i64 0) := by rw [cell_of_row _ _ _ _ _ _ hpx]; rfl
      have z11: wr.cell? ⟨w.heap.size + 1,11,none⟩ = some (.int .i64 0) := by rw [cell_of_row _ _ _ _ _ _ hpr]; rfl
      have y12: wr.cell? ⟨p,12,none⟩ = some (.bool false) := by rw [cell_of_row _ _ _ _ _ _ hpx]; rfl
      have z12: wr.cell? ⟨w.heap.size + 1,12,none⟩ = some (.bool false) := by rw [cell_of_row _ _ _ _ _ _ hpr]; rfl
      have y13: wr.cell? ⟨p,13,none⟩ = some (.bool false) := by rw [cell_of_row _ _ _ _ _ _ hpx]; rfl
      have z13: wr.cell? ⟨w.heap.size + 1,13,none⟩ = some (.bool false) := by rw [cell_of_row _ _ _ _ _ _ hpr]; rfl
      have y14: wr.cell? ⟨p,14,none⟩ = some (.slice none 0 0) := by rw [cell_of_row _ _ _ _ _ _ hpx]; rfl
      have z14: wr.cell? ⟨w.heap.size + 1,14,none⟩ = some (.slice none 0 0) := by rw [cell_of_row _ _ _ _ _ _ hpr]; rfl
      have f: ∀ i,wr.frozen? ⟨w.heap.size + 1,i,none⟩ = false := fun i => frozen_of_row _ _ _ _ _ hpr
      clear hpx hpr
      go_wp2
      refine Rw.to_letter (F := fun U => Below w.heap.size w U /\ U.heap[w.heap.size + 1]? = some (.cells #[.int .i64 0, .string ⟨#[]⟩, .string ⟨#[]⟩, .string ⟨#[]⟩, .slice none 0 0, .slice a1 0 c1, .slice a3 0 c3, .slice a4 n c4, .slice none 0 0, .slice none 0 0, .int .i64 0, .int .i64 0, .bool false, .bool false, .slice none 0 0] 151 (0,0)) /\ AlikeL l w.heap.size U a4 l3) ⟨(((((((((((((((HP4.out.bel.setCell (Nat.le_succ _) _).setCell (Nat.le_succ _) _).setCell (Nat.le_succ _) _).setCell (Nat.le_succ _) _).setCell (Nat.le_succ _) _).setCell (Nat.le_succ _) _).setCell (Nat.le_succ _) _).setCell (Nat.le_succ _) _).setCell (Nat.le_succ _) _).setCell (Nat.le_succ _) _).setCell (Nat.le_succ _) _).setCell (Nat.le_succ _) _).setCell (Nat.le_succ _) _).setCell (Nat.le_succ _) _).setCell (Nat.le_succ _) _),set15_row HP4.out.r,HP4.out.al.past HP4.out.r (by simp) fun b hb => by rw [heap_setCell_other _ _ _ _ hb,heap_setCell_other _ _ _ _ hb,heap_setCell_other _ _ _ _ hb,heap_setCell_other _ _ _ _ hb,heap_setCell_other _ _ _ _ hb,heap_setCell_other _ _ _ _ hb,heap_setCell_other _ _ _ _ hb,heap_setCell_other _ _ _ _ hb,heap_setCell_other _ _ _ _ hb,heap_setCell_other _ _ _ _ hb,heap_setCell_other _ _ _ _ hb,heap_setCell_other _ _ _ _ hb,heap_setCell_other _ _ _ _ hb,heap_setCell_other _ _ _ _ hb,heap_setCell_other _ _ _ _ hb]⟩ ?_
      rintro U ⟨hB,hx,hal⟩
      have x0: U.cell? ⟨w.heap.size + 1,0,none⟩ = some (.int .i64 0) := by rw [cell_of_row _ _ _ _ _ _ hx]; rfl
      have x1: U.cell? ⟨w.heap.size + 1,1,none⟩ = some (.string ⟨#[]⟩) := by rw [cell_of_row _ _ _ _ _ _ hx]; rfl
      have x2: U.cell? ⟨w.heap.size + 1,2,none⟩ = some (.string ⟨#[]⟩) := by rw [cell_of_row _ _ _ _ _ _ hx]; rfl
      have x3: U.cell? ⟨w.heap.size + 1,3,none⟩ = some (.string ⟨#[]⟩) := by rw [cell_of_row _ _ _ _ _ _ hx]; rfl
      have x4: U.cell? ⟨w.heap.size + 1,4,none⟩ = some (.slice none 0 0) := by rw [cell_of_row _ _ _ _ _ _ hx]; rfl
      have x5: U.cell? ⟨w.heap.size + 1,5,none⟩ = some (.slice a1 0 c1) := by rw [cell_of_row _ _ _ _ _ _ hx]; rfl
      have x6: U.cell? ⟨w.heap.size + 1,6,none⟩ = some (.slice a3 0 c3) := by rw [cell_of_row _ _ _ _ _ _ hx]; rfl
      have x7: U.cell? ⟨w.heap.size + 1,7,none⟩ = some (.slice a4 n c4) := by rw [cell_of_row _ _ _ _ _ _ hx]; rfl
      have x8: U.cell? ⟨w.heap.size + 1,8,none⟩ = some (.slice none 0 0) := by rw [cell_of_row _ _ _ _ _ _ hx]; rfl
      have x9: U.cell? ⟨w.heap.size + 1,9,none⟩ = some (.slice none 0 0) := by rw [cell_of_row _ _ _ _ _ _ hx]; rfl
      have x10: U.cell? ⟨w.heap.size + 1,10,none⟩ = some (.int .i64 0) := by rw [cell_of_row _ _ _ _ _ _ hx]; rfl
      have x11: U.cell? ⟨w.heap.size + 1,11,none⟩ = some (.int .i64 0) := by rw [cell_of_row _ _ _ _ _ _ hx]; rfl
      have x12: U.cell? ⟨w.heap.size + 1,12,none⟩ = some (.bool false) := by rw [cell_of_row _ _ _ _ _ _ hx]; rfl
      have x13: U.cell? ⟨w.heap.size + 1,13,none⟩ = some (.bool false) := by rw [cell_of_row _ _ _ _ _ _ hx]; rfl
      have x14: U.cell? ⟨w.heap.size + 1,14,none⟩ = some (.slice none 0 0) := by rw [cell_of_row _ _ _ _ _ _ hx]; rfl
      clear f y0 z0 y1 z1 y2 z2 y3 z3 y4 z4 y5 z5 y6 z6 y7 z7 y8 z8 y9 z9 y10 z10 y11 z11 y12 z12 y13 z13 y14 z14
      exact bodyPost_ret (v := rsV a1 a3 a4 n c1 c3 c4) (by simp [results,Tryz.results60,go_sem,rsV,x0,x1,x2,x3,x4,x5,x6,x7,x8,x9,x10,x11,x12,x13,x14]) rfl ⟨hB,a1,c1,a3,c3,a4,c4,l3,by rw [hn],hal⟩
theorem deepS_walk {l: List XL} {a: Option Addr} {c: Nat} {w: World} (hs: Rw.SlG xC 7 w a l) (hi: ∀ k ∈ l,In 60 w k) (hl: l.length <= 1048576): Calls Tryz.prog 58 #[wsV a l.length c, .int .i64 4] w fun e W => e = .returned (.bool (l.any (deepB 60))) /\ Below w.heap.size w W := by
 have HC := Rw.dh (fun x (hx: x ∈ l) W (hb: Below w.heap.size w W) => deep_walk 60 (by omega) x W ((hi x hx).on hb))
 generalize hn: l.length = n at *
 have HN := Rw.dh hn
 clear hn
 have HS := Rw.dh hs
 clear hs hi
 unfold wsV xV at *
 go_enter Tryz.func58,Tryz.ntmps58
 go_wp2_with fail
 refine Rw.to_letter (F := fun W => Below w.heap.size w W /\ W.heap[w.heap.size]? = some (.cells #[.int .i64 0, .string ⟨#[]⟩, .string ⟨#[]⟩, .string ⟨#[]⟩, .slice none 0 0, .slice none 0 0, .slice none 0 0, .slice a n c, .slice none 0 0, .slice none 0 0, .int .i64 0, .int .i64 0, .bool false, .bool false, .slice none 0 0] 41 (0,0)) /\ W.heap[w.heap.size + 1]? = some (.cells #[.slice none 0 0, .slice none 0 0, .slice a n c] 28 (0,0))) ⟨below_two w _ _,(Below.heap_alloc _ _ _ (by simp)).trans (Rw.heap_new w _),heap_two w _ _⟩ ?_
 rintro W ⟨hB,hst,hro⟩
 have HW := Rw.dh (And.intro hB (And.intro hst hro))
 clear hB hst hro
 go_loopw [41] (fun i wr => ∃ j: Nat,j <= 3 /\ i = .int .i64 (j: Int) /\ Hid (Below w.heap.size w wr /\ Below W.heap.size W wr) /\ Hid (j = 3 -> l.any (deepB 60) = false)) (fun i _ => 3 - (intOf i).toNat)
 case atStart => exact ⟨0,by omega,rfl,⟨HW.out.1,Below.refl _ _⟩,fun h => by cases h⟩
 case round =>
  obtain ⟨j,hj,rfl,HR,HD⟩ := hrel
  have hrow := (HR.out.2.block _ (Array.getElem?_eq_some_iff.1 HW.out.2.2).1).trans HW.out.2.2
  by_cases h2: j < 2
  · have c0: wr.cell? ⟨w.heap.size + 1,j,none⟩ = some (.slice none 0 0) := by
     rw [cell_of_row _ _ _ _ _ _ hrow]
     rcases (by omega: j = 0 \/ j = 1) with rfl | rfl <;> rfl
    have hj3: j < 3 := by omega
    clear hrow
    go_wp2_with fail
    clear c0
    go_loopw [47] (fun i wr => i = .int .i64 0 /\ Hid (Below w.heap.size w wr /\ Below W.heap.size W wr)) (fun _ _ => 0)
    case atStart => exact ⟨rfl,HR⟩
    case round =>
     obtain ⟨rfl,HR2⟩ := hrel
     go_wp2
     go_roundw
     case rel => exact ⟨j + 1,by omega,by go_num,HR2,fun e => by omega⟩
     case measure => simp [intOf]; omega
  · by_cases h3: j = 2
    · subst h3
      have c0: wr.cell? ⟨w.heap.size + 1,2,none⟩ = some (.slice a n c) := by
       rw [cell_of_row _ _ _ _ _ _ hrow]; rfl
      clear hrow
      go_wp2_with fail
      clear c0
      go_loopw [47] (fun i wr => ∃ k: Nat,k <= n /\ i = .int .i64 (k: Int) /\ Hid (Below w.heap.size w wr /\ Below W.heap.size W wr) /\ Hid ((l.take k).any (deepB 60) = false)) (fun i _ => n - (intOf i).toNat)
      case atStart => exact ⟨0,by omega,rfl,HR,rfl⟩
      case round =>
       obtain ⟨k,hk,rfl,HR2,HD2⟩ := hrel
       by_cases k0: k < n
       · obtain ⟨b,o,x,rfl,hb,hx,hc⟩ := (HS.out.below HR2.out.1).at (j := k) (by rw [HN.out]; exact k0)
         have HXK := Rw.dh hx
         have d0: wr.cell? ⟨b,o + k * 7,none⟩ = some (.string x.op) := hc 0 _ rfl
         have d1: wr.cell? ⟨b,o + k * 7 + 1,none⟩ = some (.int .i64 x.vk) := hc 1 _ rfl
         have d2: wr.cell? ⟨b,o + k * 7 + 2,none⟩ = some (.int .i64 x.vn) := hc 2 _ rfl
         have d3: wr.cell? ⟨b,o + k * 7 + 3,none⟩ = some (.string x.vs) := hc 3 _ rfl
         have d4: wr.cell? ⟨b,o + k * 7 + 4,none⟩ = some (.string x.var) := hc 4 _ rfl
         have d5: wr.cell? ⟨b,o + k * 7 + 5,none⟩ = some (.string x.col) := hc 5 _ rfl
         have d6: wr.cell? ⟨b,o + k * 7 + 6,none⟩ = some (.slice x.a x.kids.length x.c) := hc 6 _ rfl
         have hCC := HC.out x (List.mem_of_getElem? hx) (wr.alloc (.cells #[.string x.op, .int .i64 x.vk, .int .i64 x.vn, .string x.vs, .string x.var, .string x.col, .slice x.a x.kids.length x.c] 30)) (below_on HR2.out.1 (Rw.below_alloc _ _))
         clear hc hx
         go_wp2_with fail
         refine hCC.mono ?_
         rintro e w2 ⟨rfl,hb2⟩
         have HR3 := Rw.dh (And.intro (below_on (below_on HR2.out.1 (Rw.below_alloc _ _)) hb2) (below_on (below_on HR2.out.2 (Rw.below_alloc _ _)) hb2))
         clear hCC d0 d1 d2 d3 d4 d5 d6 hb2
         generalize hdd: deepB 60 x = dd at *
         cases dd
         · go_wp2
           go_roundw
           case rel =>
            refine ⟨_,_,_,_,_,_,_,_,_, ?_,rfl⟩
            exact ⟨k + 1,k0,by go_num,HR3,by rw [Hid,List.take_add_one,List.any_append,HD2.out,HXK.out]; simp [hdd]⟩
           case measure => simp [intOf]; omega
         · go_wp2
           go_ret
           exact ⟨by rw [List.any_eq_true.2 ⟨x,List.mem_of_getElem? HXK.out,hdd⟩]; rfl,HR3.out.1⟩
       · have hk1: k = n := by omega
         subst hk1
         have HAL: Hid (l.any (deepB 60) = false) := by have := HD2.out; rw [<- HN.out,List.take_length] at this; exact this
         go_wp2
         go_roundw
         case rel => exact ⟨3,by omega,by go_num,HR2,fun _ => HAL.out⟩
         case measure => simp [intOf]
    · have hj3: j = 3 := by omega
      subst hj3
      have hst := (HR.out.2.block _ (Array.getElem?_eq_some_iff.1 HW.out.2.1).1).trans HW.out.2.1
      have c8: wr.cell? ⟨w.heap.size,8,none⟩ = some (.slice none 0 0) := by rw [cell_of_row _ _ _ _ _ _ hst]; rfl
      clear hrow hst
      go_wp2_with fail
      clear c8
      go_loopw [58] (fun i wr => i = .int .i64 0 /\ Hid (Below w.heap.size w wr /\ Below W.heap.size W wr)) (fun _ _ => 0)
      case atStart => exact ⟨rfl,HR⟩
      case round =>
       obtain ⟨rfl,HR2⟩ := hrel
       have hst := (HR2.out.2.block _ (Array.getElem?_eq_some_iff.1 HW.out.2.1).1).trans HW.out.2.1
       have c14: wr.cell? ⟨w.heap.size,14,none⟩ = some (.slice none 0 0) := by rw [cell_of_row _ _ _ _ _ _ hst]; rfl
       clear hst
       go_wp2_with fail
       clear c14
       go_loopw [69] (fun i wr => i = .int .i64 0 /\ Hid (Below w.heap.size w wr)) (fun _ _ => 0)
       case atStart => exact ⟨rfl,HR2.out.1⟩
       case round =>
        obtain ⟨rfl,HR3⟩ := hrel
        have HE: Hid (l.any (deepB 60) = false) := HD.out trivial
        go_wp2
        go_ret
        exact ⟨by rw [HE.out]; rfl,HR3.out⟩
theorem sizeS_walk {l: List XL} {a1 a2 a: Option Addr} {c1 c2 c: Nat} {w: World} (hs: Rw.SlG xC 7 w a l) (hi: ∀ k ∈ l,In 60 w k /\ deepB 60 k = false) (hl: l.length <= 1048576): Calls Tryz.prog 59 #[rsV a1 a2 a l.length c1 c2 c, .int .i64 400] w fun e W => (∃ r: Int,e = .returned (.int .i64 r)) /\ Below w.heap.size w W := by
 have HC := Rw.dh (fun x (hx: x ∈ l) W (hb: Below w.heap.size w W) M => size_walk 60 x W M ((hi x hx).1.on hb) (hi x hx).2)
 have HS := Rw.dh hs
 clear hs hi
 generalize hn: l.length = n at *
 have HN := Rw.dh hn
 clear hn
 unfold rsV xV at *
 go_enter Tryz.func59,Tryz.ntmps59
 go_wp2_with fail
 refine Rw.to_letter (F := fun W => Below w.heap.size w W /\ W.heap[w.heap.size]? = some (.cells #[.int .i64 0, .string ⟨#[]⟩, .string ⟨#[]⟩, .string ⟨#[]⟩, .slice none 0 0, .slice a1 0 c1, .slice a2 0 c2, .slice a n c, .slice none 0 0, .slice none 0 0, .int .i64 0, .int .i64 0, .bool false, .bool false, .slice none 0 0] 151 (0,0)) /\ W.heap[w.heap.size + 1]? = some (.cells #[.slice a1 0 c1, .slice a2 0 c2, .slice a n c] 49 (0,0))) ⟨below_two w _ _,(Below.heap_alloc _ _ _ (by simp)).trans (Rw.heap_new w _),heap_two w _ _⟩ ?_
 rintro W ⟨hB,hst,hro⟩
 have HW := Rw.dh (And.intro hB (And.intro hst hro))
 clear hB hst hro
 go_loopw [5,27] (fun v i wr => ∃ (j: Nat) (N: Int),j <= 3 /\ i = .int .i64 (j: Int) /\ v = .int .i64 N /\ 1 <= N /\ N <= 401 /\ Hid (Below w.heap.size w wr /\ Below W.heap.size W wr)) (fun _ i _ => 3 - (intOf i).toNat)
 case atStart => exact ⟨0,1,by omega,rfl,rfl,by omega,by omega,HW.out.1,Below.refl _ _⟩
 case round =>
  obtain ⟨j,N,hj,rfl,rfl,hN1,hN2,HR⟩ := hrel
  have hrow := (HR.out.2.block _ (Array.getElem?_eq_some_iff.1 HW.out.2.2).1).trans HW.out.2.2
  by_cases h2: j < 2
  · obtain ⟨a0,c0',c0⟩: ∃ a0 c0',wr.cell? ⟨w.heap.size + 1,j,none⟩ = some (.slice a0 0 c0') := by
     rcases (by omega: j = 0 \/ j = 1) with rfl | rfl
     · exact ⟨a1,c1,by rw [cell_of_row _ _ _ _ _ _ hrow]; rfl⟩
     · exact ⟨a2,c2,by rw [cell_of_row _ _ _ _ _ _ hrow]; rfl⟩
    have hj3: j < 3 := by omega
    clear hrow
    go_wp2_with fail
    clear c0
    go_loopw [5,8] (fun v i wr => v = .int .i64 N /\ i = .int .i64 0 /\ Hid (Below w.heap.size w wr /\ Below W.heap.size W wr)) (fun _ _ _ => 0)
    case atStart => exact ⟨rfl,rfl,HR⟩
    case round =>
     obtain ⟨rfl,rfl,HR2⟩ := hrel
     go_wp2
     go_roundw
     case rel => exact ⟨j + 1,N,by omega,by go_num,rfl,by omega,by omega,HR2⟩
     case measure => simp [intOf]; omega
  · by_cases h3: j = 2
    · subst h3
      have c0: wr.cell? ⟨w.heap.size + 1,2,none⟩ = some (.slice a n c) := by
       rw [cell_of_row _ _ _ _ _ _ hrow]; rfl
      clear hrow
      go_wp2_with fail
      clear c0
      go_loopw [5,8] (fun v i wr => ∃ (k: Nat) (N: Int),k <= n /\ i = .int .i64 (k: Int) /\ v = .int .i64 N /\ 1 <= N /\ N <= 401 /\ Hid (Below w.heap.size w wr /\ Below W.heap.size W wr)) (fun _ i _ => n - (intOf i).toNat)
      case atStart => exact ⟨0,N,by omega,rfl,rfl,by omega,by omega,HR⟩
      case round =>
       clear hN1 hN2
       obtain ⟨k,N,hk,rfl,rfl,hN1,hN2,HR2⟩ := hrel
       by_cases k0: k < n
       · by_cases hNM: N <= 400
         · obtain ⟨b,o,x,rfl,hb,hx,hc⟩ := (HS.out.below HR2.out.1).at (j := k) (by rw [HN.out]; exact k0)
           have d0: wr.cell? ⟨b,o + k * 7,none⟩ = some (.string x.op) := hc 0 _ rfl
           have d1: wr.cell? ⟨b,o + k * 7 + 1,none⟩ = some (.int .i64 x.vk) := hc 1 _ rfl
           have d2: wr.cell? ⟨b,o + k * 7 + 2,none⟩ = some (.int .i64 x.vn) := hc 2 _ rfl
           have d3: wr.cell? ⟨b,o + k * 7 + 3,none⟩ = some (.string x.vs) := hc 3 _ rfl
           have d4: wr.cell? ⟨b,o + k * 7 + 4,none⟩ = some (.string x.var) := hc 4 _ rfl
           have d5: wr.cell? ⟨b,o + k * 7 + 5,none⟩ = some (.string x.col) := hc 5 _ rfl
           have d6: wr.cell? ⟨b,o + k * 7 + 6,none⟩ = some (.slice x.a x.kids.length x.c) := hc 6 _ rfl
           have hCC := HC.out x (List.mem_of_getElem? hx) wr HR2.out.1 (400 - N) (by omega) (by omega)
           clear hc hx
           go_wp2_with fail
           refine hCC.mono ?_
           rintro e w2 ⟨v,rfl,hv1,hv2,hb2⟩
           have HR3 := Rw.dh (And.intro (below_on HR2.out.1 hb2) (below_on HR2.out.2 hb2))
           clear hCC d0 d1 d2 d3 d4 d5 d6 hb2
           go_wp2
           go_roundw
           case rel =>
            refine ⟨_,_,_,_,_,_,_,_,_,_,_,_,_,_,_,_,_,_,_,_,_,_,_, ?_,rfl⟩
            exact ⟨k + 1,N + v,k0,by go_num,rfl,by omega,by omega,HR3⟩
           case measure => simp [intOf]; omega
         · go_wp2
           go_roundw
           case rel => exact ⟨3,N,by omega,by go_num,rfl,by omega,by omega,HR2⟩
           case measure => simp [intOf]
       · go_wp2
         go_roundw
         case rel => exact ⟨3,N,by omega,by go_num,rfl,by omega,by omega,HR2⟩
         case measure => simp [intOf]
    · have hj3: j = 3 := by omega
      subst hj3
      clear hrow
      have hst := (HR.out.2.block _ (Array.getElem?_eq_some_iff.1 HW.out.2.1).1).trans HW.out.2.1
      have c8: wr.cell? ⟨w.heap.size,8,none⟩ = some (.slice none 0 0) := by rw [cell_of_row _ _ _ _ _ _ hst]; rfl
      clear hst
      go_wp2_with fail
      clear c8
      go_loopw [5,9] (fun v i wr => v = .int .i64 N /\ i = .int .i64 0 /\ Hid (Below w.heap.size w wr /\ Below W.heap.size W wr)) (fun _ _ _ => 0)
      case atStart => exact ⟨rfl,rfl,HR⟩
      case round =>
       obtain ⟨rfl,rfl,HR2⟩ := hrel
       have hst := (HR2.out.2.block _ (Array.getElem?_eq_some_iff.1 HW.out.2.1).1).trans HW.out.2.1
       have c8: wr.cell? ⟨w.heap.size,8,none⟩ = some (.slice none 0 0) := by rw [cell_of_row _ _ _ _ _ _ hst]; rfl
       have c14: wr.cell? ⟨w.heap.size,14,none⟩ = some (.slice none 0 0) := by rw [cell_of_row _ _ _ _ _ _ hst]; rfl
       clear hst
       go_wp2_with fail
       clear c8 c14
       go_loopw [5,10] (fun v i wr => v = .int .i64 N /\ i = .int .i64 0 /\ Hid (Below w.heap.size w wr /\ Below W.heap.size W wr)) (fun _ _ _ => 0)
       case atStart => exact ⟨rfl,rfl,HR2⟩
       case round =>
        obtain ⟨rfl,rfl,HR3⟩ := hrel
        have hst := (HR3.out.2.block _ (Array.getElem?_eq_some_iff.1 HW.out.2.1).1).trans HW.out.2.1
        have c14: wr.cell? ⟨w.heap.size,14,none⟩ = some (.slice none 0 0) := by rw [cell_of_row _ _ _ _ _ _ hst]; rfl
        clear hst
        go_wp2
        go_ret
        exact ⟨⟨N,rfl⟩,HR3.out.1⟩
theorem deep_like: ∀ {n: Nat} {x y: XL},Like n x y -> deepB n x = deepB n y
 | 0,_,_,_ => rfl
 | n + 1,x,y,h => by
  have hl: x.kids.length = y.kids.length := h.2.2.2.2.2.2.1
  have hk := h.2.2.2.2.2.2.2
  show x.kids.any (deepB n) = y.kids.any (deepB n)
  apply Bool.eq_iff_iff.2
  rw [List.any_eq_true,List.any_eq_true]
  constructor
  · rintro ⟨k,hm,hd⟩
    obtain ⟨i,hi⟩ := List.getElem?_of_mem hm
    have hil := (List.getElem?_eq_some_iff.1 hi).1
    have hy := List.getElem?_eq_getElem (l := y.kids) (i := i) (by omega)
    exact ⟨_,List.mem_of_getElem? hy,by rw [<- deep_like (hk i _ _ hi hy)]; exact hd⟩
  · rintro ⟨k,hm,hd⟩
    obtain ⟨i,hi⟩ := List.getElem?_of_mem hm
    have hil := (List.getElem?_eq_some_iff.1 hi).1
    have hx := List.getElem?_eq_getElem (l := x.kids) (i := i) (by omega)
    exact ⟨_,List.mem_of_getElem? hx,by rw [deep_like (hk i _ _ hx hi)]; exact hd⟩
theorem greatS_walk {l: List XL} {a: Option Addr} {c: Nat} {w: World} (hs: Rw.SlG xC 7 w a l) (hi: ∀ k ∈ l,In 60 w k) (hl: l.length <= 1048576): Calls Tryz.prog 10 #[wsV a l.length c] w fun e W => Below w.heap.size w W /\ ∃ b: Bool,e = .returned (.bool b) /\ (b = false -> l.length <= 200 /\ ∀ k ∈ l,deepB 60 k = false) := by
 have HD := Rw.dh (fun W (hb: Below w.heap.size w W) => deepS_walk (c := c) (hs.below hb) (fun k hk => (hi k hk).on hb) hl)
 have HA: Hid (l.any (deepB 60) = false -> ∀ k ∈ l,deepB 60 k = false) := fun h k hk => Bool.eq_false_iff.2 (List.any_eq_false.1 h k hk)
 have HP := Rw.dh (fun (hd: l.any (deepB 60) = false) W (hb: Below w.heap.size w W) => plainS_walk (c := c) (hs.below hb) (fun k hk => (hi k hk).on hb) (HA.out hd) hl)
 clear hs hi
 have HL := Rw.dh hl
 unfold wsV at *
 generalize hn: l.length = n at *
 have HN := Rw.dh hn
 clear hn hl
 have hw: wrap64 (n: Int) = (n: Int) := by have := HL.out; unfold wrap64; omega
 by_cases h200: 200 < n
 · have hd: decide (200 < (n: Int)) = true := decide_eq_true (by omega)
   clear h200
   go_enter Tryz.func10,Tryz.ntmps10
   go_wp2_with fail
   go_ret
   exact ⟨Rw.below_alloc _ _,true,rfl,fun h => by cases h⟩
 · have H200 := Rw.dh h200
   have hd: decide (200 < (n: Int)) = false := decide_eq_false (by omega)
   clear h200
   go_enter Tryz.func10,Tryz.ntmps10
   go_wp2_with fail
   refine (HD.out _ (Rw.below_alloc _ _)).mono ?_
   rintro e w1 ⟨rfl,hb1⟩
   have HB1 := Rw.dh (below_on (Rw.below_alloc w _) hb1)
   have hst := (hb1.block _ (by simp)).trans (Rw.heap_new w (.cells #[.int .i64 0, .string ⟨#[]⟩, .string ⟨#[]⟩, .string ⟨#[]⟩, .slice none 0 0, .slice none 0 0, .slice none 0 0, .slice a n c, .slice none 0 0, .slice none 0 0, .int .i64 0, .int .i64 0, .bool false, .bool false, .slice none 0 0] 41))
   clear hb1 HD
   generalize hdd: l.any (deepB 60) = dd at *
   cases dd
   · have HC := Rw.dh (HP.out rfl w1 HB1.out)
     have HA1 := Rw.dh (HA.out rfl)
     have x0: w1.cell? ⟨w.heap.size,0,none⟩ = some (.int .i64 0) := by rw [cell_of_row _ _ _ _ _ _ hst]; rfl
     have x1: w1.cell? ⟨w.heap.size,1,none⟩ = some (.string ⟨#[]⟩) := by rw [cell_of_row _ _ _ _ _ _ hst]; rfl
     have x2: w1.cell? ⟨w.heap.size,2,none⟩ = some (.string ⟨#[]⟩) := by rw [cell_of_row _ _ _ _ _ _ hst]; rfl
     have x3: w1.cell? ⟨w.heap.size,3,none⟩ = some (.string ⟨#[]⟩) := by rw [cell_of_row _ _ _ _ _ _ hst]; rfl
     have x4: w1.cell? ⟨w.heap.size,4,none⟩ = some (.slice none 0 0) := by rw [cell_of_row _ _ _ _ _ _ hst]; rfl
     have x5: w1.cell? ⟨w.heap.size,5,none⟩ = some (.slice none 0 0) := by rw [cell_of_row _ _ _ _ _ _ hst]; rfl
     have x6: w1.cell? ⟨w.heap.size,6,none⟩ = some (.slice none 0 0) := by rw [cell_of_row _ _ _ _ _ _ hst]; rfl
     have x7: w1.cell? ⟨w.heap.size,7,none⟩ = some (.slice a n c) := by rw [cell_of_row _ _ _ _ _ _ hst]; rfl
     have x8: w1.cell? ⟨w.heap.size,8,none⟩ = some (.slice none 0 0) := by rw [cell_of_row _ _ _ _ _ _ hst]; rfl
     have x9: w1.cell? ⟨w.heap.size,9,none⟩ = some (.slice none 0 0) := by rw [cell_of_row _ _ _ _ _ _ hst]; rfl
     have x10: w1.cell? ⟨w.heap.size,10,none⟩ = some (.int .i64 0) := by rw [cell_of_row _ _ _ _ _ _ hst]; rfl
     have x11: w1.cell? ⟨w.heap.size,11,none⟩ = some (.int .i64 0) := by rw [cell_of_row _ _ _ _ _ _ hst]; rfl
     have x12: w1.cell? ⟨w.heap.size,12,none⟩ = some (.bool false) := by rw [cell_of_row _ _ _ _ _ _ hst]; rfl
     have x13: w1.cell? ⟨w.heap.size,13,none⟩ = some (.bool false) := by rw [cell_of_row _ _ _ _ _ _ hst]; rfl
     have x14: w1.cell? ⟨w.heap.size,14,none⟩ = some (.slice none 0 0) := by rw [cell_of_row _ _ _ _ _ _ hst]; rfl
     clear HP HA hst
     go_wp2_with fail
     refine HC.out.mono ?_
     clear HC
     rintro e w2 ⟨hb2,a1,c1,a2,c2,a3,c3,l3,rfl,hal⟩
     have HB2 := Rw.dh (below_on HB1.out hb2)
     have hS := sizeS_walk (a1 := a1) (a2 := a2) (c1 := c1) (c2 := c2) (c := c3) hal.2.1 (fun k hk => ⟨(hal.2.2.2.1 k hk 60).1,by
      obtain ⟨i,hi⟩ := List.getElem?_of_mem hk
      have hil := (List.getElem?_eq_some_iff.1 hi).1
      have hx := List.getElem?_eq_getElem (l := l) (i := i) (by have := hal.1; omega)
      rw [<- deep_like (hal.2.2.2.2 i _ _ hx hi)]
      exact HA1.out _ (List.mem_of_getElem? hx)⟩) (by have := hal.1; have := HL.out; have := HN.out; omega)
     rw [hal.1,HN.out] at hS
     rw [HN.out]
     have HS := Rw.dh hS
     clear hS hal hb2 x0 x1 x2 x3 x4 x5 x6 x7 x8 x9 x10 x11 x12 x13 x14
     unfold rsV at *
     go_wp2_with fail
     refine HS.out.mono ?_
     clear HS
     rintro e w3 ⟨⟨r,rfl⟩,hb3⟩
     have HB3 := Rw.dh (below_on HB2.out hb3)
     clear hb3
     go_wp2
     go_ret
     exact ⟨HB3.out,_,rfl,fun _ => ⟨by have := H200.out; omega,HA1.out⟩⟩
   · clear HP HA hst
     go_wp2_with fail
     go_ret
     exact ⟨HB1.out,true,rfl,fun h => by cases h⟩
end Go.Proofs.YteibhbnlcpejpaaGreat
