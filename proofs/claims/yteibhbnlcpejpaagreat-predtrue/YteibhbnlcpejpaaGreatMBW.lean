import Derived.Test.YteibhbnlcpejpaaGreatMBR
import Derived.Test.YteibhbnlcpejpaaGreatMBT
import Derived.Test.YteibhbnlcpejpaaGreatMBV
set_option maxRecDepth 100000
set_option maxHeartbeats 4000000
namespace Go.Proofs.YteibhbnlcpejpaaGreat
open Go.RowKit
theorem gcells {W: World} {p: Nat} {k: NL} (h: W.heap[p]? = some (.cells (nC k).toArray 44 (0,0))): W.cell? ⟨p,0,none⟩ = some (.string k.op) /\ W.cell? ⟨p,1,none⟩ = some (.int .i64 k.vk) /\ W.cell? ⟨p,2,none⟩ = some (.int .i64 k.vn) /\ W.cell? ⟨p,3,none⟩ = some (.string k.vs) /\ W.cell? ⟨p,4,none⟩ = some (.int .i64 k.var) /\ W.cell? ⟨p,5,none⟩ = some (.int .i64 k.col) /\ W.cell? ⟨p,6,none⟩ = some (.slice k.a k.kids.length k.c) := by
 refine ⟨?_, ?_, ?_, ?_, ?_, ?_, ?_⟩ <;> (rw [cell_of_row _ _ _ _ _ _ h]; rfl)
theorem cmp_boxes {w w1: World} {x y z: Obj} (hb: Below (((w.alloc x).alloc y).alloc z).heap.size (((w.alloc x).alloc y).alloc z) w1): Below w.heap.size w w1 /\ w1.heap[w.heap.size]? = some x /\ w1.heap[w.heap.size + 1]? = some y /\ w1.heap[w.heap.size + 2]? = some z :=
 ⟨below_on (below_three w _ _ _) hb,(hb.block w.heap.size (by simp; omega)).trans ((Below.heap_alloc _ _ _ (by simp; omega)).trans ((Below.heap_alloc _ _ _ (by simp)).trans (Rw.heap_new w _))),(hb.block (w.heap.size + 1) (by simp)).trans ((Below.heap_alloc _ _ _ (by simp)).trans (heap_two w _ _)),(hb.block (w.heap.size + 2) (by simp)).trans (heap_three w _ _ _)⟩
theorem hset7_row {w: World} {p: Nat} {T: TypeId} {a0 a1 a2 a3 a4 a5 a6 b0 b1 b2 b3 b4 b5 b6: Value} (h: w.heap[p]? = some (.cells #[a0,a1,a2,a3,a4,a5,a6] T (0,0))): (((((((w.setCell ⟨p,0,none⟩ b0).setCell ⟨p,1,none⟩ b1).setCell ⟨p,2,none⟩ b2).setCell ⟨p,3,none⟩ b3).setCell ⟨p,4,none⟩ b4).setCell ⟨p,5,none⟩ b5).setCell ⟨p,6,none⟩ b6).heap[p]? = some (.cells #[b0,b1,b2,b3,b4,b5,b6] T (0,0)) := by
 have h0 := heap_setCell_same w p 0 _ T b0 h
 have h1 := heap_setCell_same _ p 1 _ T b1 h0
 have h2 := heap_setCell_same _ p 2 _ T b2 h1
 have h3 := heap_setCell_same _ p 3 _ T b3 h2
 have h4 := heap_setCell_same _ p 4 _ T b4 h3
 have h5 := heap_setCell_same _ p 5 _ T b5 h4
 have h6 := heap_setCell_same _ p 6 _ T b6 h5
 simpa using h6
theorem hheap_set7 {p q: Nat} (hq: q ≠ p) (w: World) (v0 v1 v2 v3 v4 v5 v6: Value): (((((((w.setCell ⟨p,0,none⟩ v0).setCell ⟨p,1,none⟩ v1).setCell ⟨p,2,none⟩ v2).setCell ⟨p,3,none⟩ v3).setCell ⟨p,4,none⟩ v4).setCell ⟨p,5,none⟩ v5).setCell ⟨p,6,none⟩ v6).heap[q]? = w.heap[q]? := by
 rw [heap_setCell_other _ _ _ _ hq,heap_setCell_other _ _ _ _ hq,heap_setCell_other _ _ _ _ hq,heap_setCell_other _ _ _ _ hq,heap_setCell_other _ _ _ _ hq,heap_setCell_other _ _ _ _ hq,heap_setCell_other _ _ _ _ hq]
def CmpB (w: World) (x y: NL) (W: World): Prop := Below w.heap.size w W /\ W.heap[w.heap.size]? = some (.cells (nC x).toArray 44 (0,0)) /\ W.heap[w.heap.size + 1]? = some (.cells (nC y).toArray 44 (0,0)) /\ W.heap[w.heap.size + 2]? = some (.cells (tlC tlz).toArray 175 (0,0))
theorem hstore {w: World} {p: Nat} {y z: NL} (h: w.heap[p]? = some (.cells (nC y).toArray 44 (0,0))): (((((((w.setCell ⟨p,0,none⟩ (.string z.op)).setCell ⟨p,1,none⟩ (.int .i64 z.vk)).setCell ⟨p,2,none⟩ (.int .i64 z.vn)).setCell ⟨p,3,none⟩ (.string z.vs)).setCell ⟨p,4,none⟩ (.int .i64 z.var)).setCell ⟨p,5,none⟩ (.int .i64 z.col)).setCell ⟨p,6,none⟩ (.slice z.a z.kids.length z.c)).heap[p]? = some (.cells (nC z).toArray 44 (0,0)) :=
 hset7_row h
theorem CmpB.put0 {w W: World} {x y z: NL} (h: CmpB w x y W): CmpB w z y (((((((W.setCell ⟨w.heap.size,0,none⟩ (.string z.op)).setCell ⟨w.heap.size,1,none⟩ (.int .i64 z.vk)).setCell ⟨w.heap.size,2,none⟩ (.int .i64 z.vn)).setCell ⟨w.heap.size,3,none⟩ (.string z.vs)).setCell ⟨w.heap.size,4,none⟩ (.int .i64 z.var)).setCell ⟨w.heap.size,5,none⟩ (.int .i64 z.col)).setCell ⟨w.heap.size,6,none⟩ (.slice z.a z.kids.length z.c)) := by
 obtain ⟨h0,h1,h2,h3⟩ := h
 refine ⟨?_,hstore h1, ?_, ?_⟩
 · exact ((((((h0.setCell (Nat.le_refl _) _).setCell (Nat.le_refl _) _).setCell (Nat.le_refl _) _).setCell (Nat.le_refl _) _).setCell (Nat.le_refl _) _).setCell (Nat.le_refl _) _).setCell (Nat.le_refl _) _
 · rw [hheap_set7 (by omega)]; exact h2
 · rw [hheap_set7 (by omega)]; exact h3
theorem CmpB.put1 {w W: World} {x y z: NL} (h: CmpB w x y W): CmpB w x z (((((((W.setCell ⟨w.heap.size + 1,0,none⟩ (.string z.op)).setCell ⟨w.heap.size + 1,1,none⟩ (.int .i64 z.vk)).setCell ⟨w.heap.size + 1,2,none⟩ (.int .i64 z.vn)).setCell ⟨w.heap.size + 1,3,none⟩ (.string z.vs)).setCell ⟨w.heap.size + 1,4,none⟩ (.int .i64 z.var)).setCell ⟨w.heap.size + 1,5,none⟩ (.int .i64 z.col)).setCell ⟨w.heap.size + 1,6,none⟩ (.slice z.a z.kids.length z.c)) := by
 obtain ⟨h0,h1,h2,h3⟩ := h
 refine ⟨?_, ?_,hstore h2, ?_⟩
 · exact ((((((h0.setCell (Nat.le_succ _) _).setCell (Nat.le_succ _) _).setCell (Nat.le_succ _) _).setCell (Nat.le_succ _) _).setCell (Nat.le_succ _) _).setCell (Nat.le_succ _) _).setCell (Nat.le_succ _) _
 · rw [hheap_set7 (by omega)]; exact h1
 · rw [hheap_set7 (by omega)]; exact h3
theorem CmpB.drew {w W: World} {x y: NL} (h: CmpB w x y W): CmpB w x y W.drew := ⟨h.1.drew,h.2.1,h.2.2.1,h.2.2.2⟩
theorem CmpB.on {w W W': World} {x y: NL} (h: CmpB w x y W) (hb: Below W.heap.size W W'): CmpB w x y W' :=
 ⟨below_on h.1 hb,(hb.block _ (Array.getElem?_eq_some_iff.1 h.2.1).1).trans h.2.1,(hb.block _ (Array.getElem?_eq_some_iff.1 h.2.2.1).1).trans h.2.2.1,(hb.block _ (Array.getElem?_eq_some_iff.1 h.2.2.2).1).trans h.2.2.2⟩
structure KeepR (w W4 W: World): Prop where
 bel: Below w.heap.size w W
 size: W4.heap.size <= W.heap.size
 blk: ∀ q,q < W4.heap.size -> q ≠ w.heap.size + 2 -> W.heap[q]? = W4.heap[q]?
namespace KeepR
variable {w W4 W W': World}
theorem refl (h: Below w.heap.size w W4): KeepR w W4 W4 := ⟨h,Nat.le_refl _,fun _ _ _ => rfl⟩
theorem drew (h: KeepR w W4 W): KeepR w W4 W.drew := ⟨h.bel.drew,h.size,h.blk⟩
theorem set (h: KeepR w W4 W) {p: Addr} (hp: p.block = w.heap.size + 2) (v: Value): KeepR w W4 (W.setCell p v) :=
 ⟨Below.setCell h.bel (by omega) v,by simpa using h.size,fun q h1 h2 => by
  obtain ⟨b,o,f⟩ := p
  simp only at hp
  subst hp
  rw [Below.heap_setCell _ _ _ _ h2]
  exact h.blk q h1 h2⟩
theorem on (h: KeepR w W4 W) (hb: Below W.heap.size W W'): KeepR w W4 W' := ⟨h.bel.trans (hb.mono h.bel.size),Nat.le_trans h.size hb.size,fun q h1 h2 => (hb.block q (Nat.lt_of_lt_of_le h1 h.size)).trans (h.blk q h1 h2)⟩
end KeepR
def CmpF (w w3: World) (x y: NL) (A B: Obj) (W: World): Prop := CmpB w x y W /\ w.heap.size + 2 < w3.heap.size /\ W.heap.size = w3.heap.size + 2 /\ W.heap[w3.heap.size]? = some A /\ W.heap[w3.heap.size + 1]? = some B
theorem cmp_four {w w3: World} {x y: NL} (h: CmpB w x y w3) (A B: Obj): CmpF w w3 x y A B ((w3.alloc A).alloc B) :=
 ⟨h.on (below_two w3 _ _),(Array.getElem?_eq_some_iff.1 h.2.2.2).1,by simp,(Below.heap_alloc _ _ _ (by simp)).trans (Rw.heap_new w3 _),heap_two w3 _ _⟩
theorem cmp_held {w w3 W4 W: World} {x y: NL} {lo hi: Bd} (h: CmpF w w3 x y (.cells #[.bool lo.has, .bool lo.incl, .int .i64 lo.v.k, .int .i64 lo.v.n, .string lo.v.s] 173 (0,0)) (.cells #[.bool hi.has, .bool hi.incl, .int .i64 hi.v.k, .int .i64 hi.v.n, .string hi.v.s] 173 (0,0)) W4) (hk: KeepR w W4 W): W.cell? ⟨w.heap.size,0,none⟩ = some (.string x.op) /\ W.cell? ⟨w.heap.size,1,none⟩ = some (.int .i64 x.vk) /\ W.cell? ⟨w.heap.size,2,none⟩ = some (.int .i64 x.vn) /\ W.cell? ⟨w.heap.size,3,none⟩ = some (.string x.vs) /\ W.cell? ⟨w.heap.size,4,none⟩ = some (.int .i64 x.var) /\ W.cell? ⟨w.heap.size,5,none⟩ = some (.int .i64 x.col) /\ W.cell? ⟨w.heap.size,6,none⟩ = some (.slice x.a x.kids.length x.c) /\ W.cell? ⟨w.heap.size + 1,0,none⟩ = some (.string y.op) /\ W.cell? ⟨w.heap.size + 1,1,none⟩ = some (.int .i64 y.vk) /\ W.cell? ⟨w.heap.size + 1,2,none⟩ = some (.int .i64 y.vn) /\ W.cell? ⟨w.heap.size + 1,3,none⟩ = some (.string y.vs) /\ W.cell? ⟨w.heap.size + 1,4,none⟩ = some (.int .i64 y.var) /\ W.cell? ⟨w.heap.size + 1,5,none⟩ = some (.int .i64 y.col) /\ W.cell? ⟨w.heap.size + 1,6,none⟩ = some (.slice y.a y.kids.length y.c) /\ W.cell? ⟨w3.heap.size,0,none⟩ = some (.bool lo.has) /\ W.cell? ⟨w3.heap.size,1,none⟩ = some (.bool lo.incl) /\ W.cell? ⟨w3.heap.size,2,none⟩ = some (.int .i64 lo.v.k) /\ W.cell? ⟨w3.heap.size,3,none⟩ = some (.int .i64 lo.v.n) /\ W.cell? ⟨w3.heap.size,4,none⟩ = some (.string lo.v.s) /\ W.cell? ⟨w3.heap.size + 1,0,none⟩ = some (.bool hi.has) /\ W.cell? ⟨w3.heap.size + 1,1,none⟩ = some (.bool hi.incl) /\ W.cell? ⟨w3.heap.size + 1,2,none⟩ = some (.int .i64 hi.v.k) /\ W.cell? ⟨w3.heap.size + 1,3,none⟩ = some (.int .i64 hi.v.n) /\ W.cell? ⟨w3.heap.size + 1,4,none⟩ = some (.string hi.v.s) := by
 obtain ⟨⟨-, h1,h2, -⟩,hs,hz,h3,h4⟩ := h
 have g1 := gcells ((hk.blk _ (by omega) (by omega)).trans h1)
 have g2 := gcells ((hk.blk _ (by omega) (by omega)).trans h2)
 have g3 := bd_cells ((hk.blk _ (by omega) (by omega)).trans h3)
 have g4 := bd_cells ((hk.blk _ (by omega) (by omega)).trans h4)
 obtain ⟨x0,x1,x2,x3,x4,x5,x6⟩ := g1
 obtain ⟨y0,y1,y2,y3,y4,y5,y6⟩ := g2
 obtain ⟨l0,l1,l2,l3,l4⟩ := g3
 exact ⟨x0,x1,x2,x3,x4,x5,x6,y0,y1,y2,y3,y4,y5,y6,l0,l1,l2,l3,l4,g4⟩
set_option linter.unusedSimpArgs false in
theorem compared_walk (op: ByteArray) (a b: NL) (w: World): Calls Tryz.prog 139 #[.string op,nV a,nV b] w fun e w' => e = .returned (.tuple #[tlV (comparedN op a b).1, .bool (comparedN op a b).2]) /\ Below w.heap.size w w' := by
 have HC := Rw.dh (fun W => isCol_walk b W)
 have HT := Rw.dh (fun W => turned_walk op W)
 unfold nV at HC ⊢
 go_enter Tryz.func139,Tryz.ntmps139
 go_wp2_with fail
 refine (HC.out _).mono ?_
 rintro e w1 ⟨rfl,hb⟩
 obtain ⟨hB,ha,hbb,ht⟩ := cmp_boxes hb
 have HB := Rw.dh hB
 obtain ⟨a0,a1,a2,a3,a4,a5,a6⟩ := gcells ha
 obtain ⟨b0,b1,b2,b3,b4,b5,b6⟩ := gcells hbb
 have fa := fun o => frozen_of_row _ _ o _ _ ha
 have fb := fun o => frozen_of_row _ _ o _ _ hbb
 have HA := Rw.dh ha
 have HBx := Rw.dh hbb
 have HTx := Rw.dh ht
 clear hb hB HC ha hbb ht
 cases hc: isColN b
 · have hC2: CmpB w a b w1 := ⟨HB.out,HA.out,HBx.out,HTx.out⟩
   clear a0 a1 a2 a3 a4 a5 a6 b0 b1 b2 b3 b4 b5 b6 fa fb HA HBx HTx HB HT
   obtain ⟨b0,b1,b2,b3,b4,b5,b6⟩ := gcells hC2.2.2.1
   obtain ⟨r,hr⟩: ∃ r,r = boundsN (op).toList b.val := ⟨_,rfl⟩
   have HBd: Hid (∀ W,Calls Tryz.prog 182 #[.string (op), .agg #[.int .i64 b.vk, .int .i64 b.vn, .string b.vs]] W fun e w' => e = .returned (.tuple #[bdV r.1,bdV r.2.1, .bool r.2.2]) /\ Below W.heap.size W w') := by rw [hr]; exact fun W => bounds_walk (op) b.val W
   have HQ: Hid (∀ T B,T = tlV ⟨a.col,r.1,r.2.1⟩ -> B = (r.2.2 && isColN a && isKnownN b) -> Ending.returned (.tuple #[T, .bool B]) = .returned (.tuple #[tlV (comparedN op a b).1, .bool (comparedN op a b).2])) := by
    rintro T B rfl rfl
    unfold comparedN
    rw [if_neg (by rw [hc]; decide)]
    unfold cmpN
    rw [<- hr]
   clear hr
   obtain ⟨⟨lh,li,lk,ln,ls⟩,⟨hh,hi,hk0,hn,hs⟩,ok⟩ := r
   have HCB := Rw.dh hC2
   clear hC2
   unfold bdV at HBd
   go_wp2_with fail
   refine (HBd.out _).mono ?_
   rintro e w3 ⟨rfl,hb3⟩
   have HC3 := Rw.dh (HCB.out.on hb3)
   clear b0 b1 b2 b3 b4 b5 b6 HBd HCB hb3
   go_wp2_with fail
   refine Rw.to_letter (cmp_four HC3.out (.cells #[.bool lh, .bool li, .int .i64 lk, .int .i64 ln, .string ls] 173) (.cells #[.bool hh, .bool hi, .int .i64 hk0, .int .i64 hn, .string hs] 173)) ?_
   rintro W4 h4
   have KS: Hid (∀ W',KeepR w W4 W' -> (fun W => W.cell? ⟨w.heap.size,0,none⟩ = some (.string a.op) /\ W.cell? ⟨w.heap.size,1,none⟩ = some (.int .i64 a.vk) /\ W.cell? ⟨w.heap.size,2,none⟩ = some (.int .i64 a.vn) /\ W.cell? ⟨w.heap.size,3,none⟩ = some (.string a.vs) /\ W.cell? ⟨w.heap.size,4,none⟩ = some (.int .i64 a.var) /\ W.cell? ⟨w.heap.size,5,none⟩ = some (.int .i64 a.col) /\ W.cell? ⟨w.heap.size,6,none⟩ = some (.slice a.a a.kids.length a.c) /\ W.cell? ⟨w.heap.size + 1,0,none⟩ = some (.string b.op) /\ W.cell? ⟨w.heap.size + 1,1,none⟩ = some (.int .i64 b.vk) /\ W.cell? ⟨w.heap.size + 1,2,none⟩ = some (.int .i64 b.vn) /\ W.cell? ⟨w.heap.size + 1,3,none⟩ = some (.string b.vs) /\ W.cell? ⟨w.heap.size + 1,4,none⟩ = some (.int .i64 b.var) /\ W.cell? ⟨w.heap.size + 1,5,none⟩ = some (.int .i64 b.col) /\ W.cell? ⟨w.heap.size + 1,6,none⟩ = some (.slice b.a b.kids.length b.c) /\ W.cell? ⟨w3.heap.size,0,none⟩ = some (.bool lh) /\ W.cell? ⟨w3.heap.size,1,none⟩ = some (.bool li) /\ W.cell? ⟨w3.heap.size,2,none⟩ = some (.int .i64 lk) /\ W.cell? ⟨w3.heap.size,3,none⟩ = some (.int .i64 ln) /\ W.cell? ⟨w3.heap.size,4,none⟩ = some (.string ls) /\ W.cell? ⟨w3.heap.size + 1,0,none⟩ = some (.bool hh) /\ W.cell? ⟨w3.heap.size + 1,1,none⟩ = some (.bool hi) /\ W.cell? ⟨w3.heap.size + 1,2,none⟩ = some (.int .i64 hk0) /\ W.cell? ⟨w3.heap.size + 1,3,none⟩ = some (.int .i64 hn) /\ W.cell? ⟨w3.heap.size + 1,4,none⟩ = some (.string hs)) W') := fun W' hk => cmp_held (lo := ⟨lh,li,⟨lk,ln,ls⟩⟩) (hi := ⟨hh,hi,⟨hk0,hn,hs⟩⟩) h4 hk
   have KR: Hid (KeepR w W4 W4) := KeepR.refl h4.1.1
   have hr0 := h4.1.2.2.2
   have hrz := (Array.getElem?_eq_some_iff.1 hr0).1
   have hrf := fun o => frozen_of_row _ _ o _ _ hr0
   obtain ⟨q0,q1,q2,q3,q4,q5,q6,q7,q8,q9,q10⟩ := tl_cells (t := tlz) hr0
   have HIa := Rw.dh (fun W => isCol_walk a W)
   have HIk := Rw.dh (fun W => isKnown_walk b W)
   unfold nV at HIa HIk
   clear h4 HC3
   cases ok
   · clear HIa HIk
     refine wp_region_held_drew (S := fun W => W.cell? ⟨w.heap.size,0,none⟩ = some (.string a.op) /\ W.cell? ⟨w.heap.size,1,none⟩ = some (.int .i64 a.vk) /\ W.cell? ⟨w.heap.size,2,none⟩ = some (.int .i64 a.vn) /\ W.cell? ⟨w.heap.size,3,none⟩ = some (.string a.vs) /\ W.cell? ⟨w.heap.size,4,none⟩ = some (.int .i64 a.var) /\ W.cell? ⟨w.heap.size,5,none⟩ = some (.int .i64 a.col) /\ W.cell? ⟨w.heap.size,6,none⟩ = some (.slice a.a a.kids.length a.c) /\ W.cell? ⟨w.heap.size + 1,0,none⟩ = some (.string b.op) /\ W.cell? ⟨w.heap.size + 1,1,none⟩ = some (.int .i64 b.vk) /\ W.cell? ⟨w.heap.size + 1,2,none⟩ = some (.int .i64 b.vn) /\ W.cell? ⟨w.heap.size + 1,3,none⟩ = some (.string b.vs) /\ W.cell? ⟨w.heap.size + 1,4,none⟩ = some (.int .i64 b.var) /\ W.cell? ⟨w.heap.size + 1,5,none⟩ = some (.int .i64 b.col) /\ W.cell? ⟨w.heap.size + 1,6,none⟩ = some (.slice b.a b.kids.length b.c) /\ W.cell? ⟨w3.heap.size,0,none⟩ = some (.bool lh) /\ W.cell? ⟨w3.heap.size,1,none⟩ = some (.bool li) /\ W.cell? ⟨w3.heap.size,2,none⟩ = some (.int .i64 lk) /\ W.cell? ⟨w3.heap.size,3,none⟩ = some (.int .i64 ln) /\ W.cell? ⟨w3.heap.size,4,none⟩ = some (.string ls) /\ W.cell? ⟨w3.heap.size + 1,0,none⟩ = some (.bool hh) /\ W.cell? ⟨w3.heap.size + 1,1,none⟩ = some (.bool hi) /\ W.cell? ⟨w3.heap.size + 1,2,none⟩ = some (.int .i64 hk0) /\ W.cell? ⟨w3.heap.size + 1,3,none⟩ = some (.int .i64 hn) /\ W.cell? ⟨w3.heap.size + 1,4,none⟩ = some (.string hs)) (by kernel_rfl) (KS.out _ (KeepR.drew KR.out)) (fun hS => ?_)
     refine wpAnyH_take (i := 0) (v := ?_) rfl (by kernel_rfl) (by kernel_rfl) (by kernel_rfl) (fun _ _ _ h => h) (Or.inl ⟨by rfl, ?_⟩) (by assumption) ?_
     rotate_left
     · intro w' hSw
       (try dsimp only at hSw)
       go_simp
       (try with_reducible rfl)
     (try simp only [Act.put,HeT.pT])
     refine wpAnyH_take (i := 1) (v := ?_) rfl (by kernel_rfl) (by kernel_rfl) (by kernel_rfl) (fun _ _ _ h => h) (Or.inl ⟨by rfl, ?_⟩) (by assumption) ?_
     rotate_left
     · intro w' hSw
       (try dsimp only at hSw)
       go_simp
       (try with_reducible rfl)
     (try simp only [Act.put,HeT.pT])
     refine wpAnyH_take (i := 2) (v := ?_) rfl (by kernel_rfl) (by kernel_rfl) (by kernel_rfl) (fun _ _ _ h => h) (Or.inl ⟨by rfl, ?_⟩) (by assumption) ?_
     rotate_left
     · intro w' hSw
       (try dsimp only at hSw)
       go_simp
       (try with_reducible rfl)
     (try simp only [Act.put,HeT.pT])
     refine wpAnyH_take (i := 3) (v := ?_) rfl (by kernel_rfl) (by kernel_rfl) (by kernel_rfl) (fun _ _ _ h => h) (Or.inl ⟨by rfl, ?_⟩) (by assumption) ?_
     rotate_left
     · intro w' hSw
       (try dsimp only at hSw)
       go_simp
       (try with_reducible rfl)
     (try simp only [Act.put,HeT.pT])
     refine wpAnyH_take (i := 4) (v := ?_) rfl (by kernel_rfl) (by kernel_rfl) (by kernel_rfl) (fun _ _ _ h => h) (Or.inl ⟨by rfl, ?_⟩) (by assumption) ?_
     rotate_left
     · intro w' hSw
       (try dsimp only at hSw)
       go_simp
       (try with_reducible rfl)
     (try simp only [Act.put,HeT.pT])
     refine wpAnyH_take (i := 5) (v := ?_) rfl (by kernel_rfl) (by kernel_rfl) (by kernel_rfl) (fun _ _ _ h => h) (Or.inl ⟨by rfl, ?_⟩) (by assumption) ?_
     rotate_left
     · intro w' hSw
       (try dsimp only at hSw)
       go_simp
       (try with_reducible rfl)
     (try simp only [Act.put,HeT.pT])
     refine wpAnyH_take (i := 6) (v := ?_) rfl (by kernel_rfl) (by kernel_rfl) (by kernel_rfl) (fun _ _ _ h => h) (Or.inl ⟨by rfl, ?_⟩) (by assumption) ?_
     rotate_left
     · intro w' hSw
       (try dsimp only at hSw)
       go_simp
       (try with_reducible rfl)
     (try simp only [Act.put,HeT.pT])
     refine wpAnyH_take (i := 7) (v := undef) rfl (by kernel_rfl) (by kernel_rfl) (by kernel_rfl) (fun _ _ _ h => h) (Or.inr ⟨by rfl,rfl⟩) (by assumption) ?_
     (try simp only [Act.put,HeT.pT])
     refine wpAnyH_ready (rs := [8]) (by kernel_rfl) (by simp) ?_
     refine AllReadyH.cons rfl (fun K hK => ?_) AllReadyH.nil
     go_simp
     refine hK.out _ _ (by assumption) (fun hS => ?_)
     clear hK K
     (try simp only [Act.put,HeT.pT])
     refine wpAnyH_take (i := 9) (v := ?_) rfl (by kernel_rfl) (by kernel_rfl) (by kernel_rfl) (fun _ _ _ h => h) (Or.inl ⟨by rfl, ?_⟩) (by assumption) ?_
     rotate_left
     · intro w' hSw
       (try dsimp only at hSw)
       go_simp
       (try with_reducible rfl)
     (try simp only [Act.put,HeT.pT])
     refine wpAnyH_take (i := 10) (v := ?_) rfl (by kernel_rfl) (by kernel_rfl) (by kernel_rfl) (fun _ _ _ h => h) (Or.inl ⟨by rfl, ?_⟩) (by assumption) ?_
     rotate_left
     · intro w' hSw
       (try dsimp only at hSw)
       go_simp
       (try with_reducible rfl)
     (try simp only [Act.put,HeT.pT])
     refine wpAnyH_take (i := 11) (v := undef) rfl (by kernel_rfl) (by kernel_rfl) (by kernel_rfl) (fun _ _ _ h => h) (Or.inr ⟨by rfl,rfl⟩) (by assumption) ?_
     (try simp only [Act.put,HeT.pT])
     refine wpAnyH_ready (rs := [12]) (by kernel_rfl) (by simp) ?_
     refine AllReadyH.cons rfl (fun K hK => ?_) AllReadyH.nil
     go_simp
     refine hK.out _ _ (by assumption) (fun hS => ?_)
     clear hK K
     (try simp only [Act.put,HeT.pT])
     refine wpAnyH_take (i := 13) (v := ?_) rfl (by kernel_rfl) (by kernel_rfl) (by kernel_rfl) (fun _ _ _ h => h) (Or.inl ⟨by rfl, ?_⟩) (by assumption) ?_
     rotate_left
     · intro w' hSw
       (try dsimp only at hSw)
       go_simp
       (try with_reducible rfl)
     (try simp only [Act.put,HeT.pT])
     refine wpAnyH_ready (rs := [14]) (by kernel_rfl) (by simp) ?_
     refine AllReadyH.cons rfl (fun K hK => ?_) AllReadyH.nil
     go_simp
     refine hK.out _ _ (by exact KS.out _ (by repeat (first | with_reducible exact KR.out | with_reducible refine KeepR.set ?_ (by first | (with_reducible rfl) | (simp; done) | omega) _ | with_reducible refine KeepR.drew ?_ | with_reducible refine KeepR.on ?_ (by with_reducible assumption)))) (fun hS => ?_)
     clear hK K
     (try simp only [Act.put,HeT.pT])
     refine wpAnyH_take (i := 15) (v := ?_) rfl (by kernel_rfl) (by kernel_rfl) (by kernel_rfl) (fun _ _ _ h => h) (Or.inl ⟨by rfl, ?_⟩) (by assumption) ?_
     rotate_left
     · intro w' hSw
       (try dsimp only at hSw)
       go_simp
       (try with_reducible rfl)
     (try simp only [Act.put,HeT.pT])
     refine wpAnyH_done (by kernel_rfl) ?_ _
     go_wp2_with fail
     refine bodyPost_ret (v := .tuple #[tlV ⟨a.col,⟨lh,li,lk,ln,ls⟩,⟨hh,hi,hk0,hn,hs⟩⟩, .bool false]) (by simp [results,Tryz.results139,go_sem,tlV,q0,q1,q2,q3,q4,q5,q6,q7,q8,q9,q10]) rfl ⟨HQ.out _ _ rfl (by rfl),(show KeepR w W4 _ by repeat (first | with_reducible exact KR.out | with_reducible refine KeepR.set ?_ (by first | (with_reducible rfl) | (simp; done) | omega) _ | with_reducible refine KeepR.drew ?_ | with_reducible refine KeepR.on ?_ (by with_reducible assumption))).bel⟩
   cases h1: isColN a
   · clear HIk
     rw [h1] at HIa
     refine wp_region_held_drew (S := fun W => W.cell? ⟨w.heap.size,0,none⟩ = some (.string a.op) /\ W.cell? ⟨w.heap.size,1,none⟩ = some (.int .i64 a.vk) /\ W.cell? ⟨w.heap.size,2,none⟩ = some (.int .i64 a.vn) /\ W.cell? ⟨w.heap.size,3,none⟩ = some (.string a.vs) /\ W.cell? ⟨w.heap.size,4,none⟩ = some (.int .i64 a.var) /\ W.cell? ⟨w.heap.size,5,none⟩ = some (.int .i64 a.col) /\ W.cell? ⟨w.heap.size,6,none⟩ = some (.slice a.a a.kids.length a.c) /\ W.cell? ⟨w.heap.size + 1,0,none⟩ = some (.string b.op) /\ W.cell? ⟨w.heap.size + 1,1,none⟩ = some (.int .i64 b.vk) /\ W.cell? ⟨w.heap.size + 1,2,none⟩ = some (.int .i64 b.vn) /\ W.cell? ⟨w.heap.size + 1,3,none⟩ = some (.string b.vs) /\ W.cell? ⟨w.heap.size + 1,4,none⟩ = some (.int .i64 b.var) /\ W.cell? ⟨w.heap.size + 1,5,none⟩ = some (.int .i64 b.col) /\ W.cell? ⟨w.heap.size + 1,6,none⟩ = some (.slice b.a b.kids.length b.c) /\ W.cell? ⟨w3.heap.size,0,none⟩ = some (.bool lh) /\ W.cell? ⟨w3.heap.size,1,none⟩ = some (.bool li) /\ W.cell? ⟨w3.heap.size,2,none⟩ = some (.int .i64 lk) /\ W.cell? ⟨w3.heap.size,3,none⟩ = some (.int .i64 ln) /\ W.cell? ⟨w3.heap.size,4,none⟩ = some (.string ls) /\ W.cell? ⟨w3.heap.size + 1,0,none⟩ = some (.bool hh) /\ W.cell? ⟨w3.heap.size + 1,1,none⟩ = some (.bool hi) /\ W.cell? ⟨w3.heap.size + 1,2,none⟩ = some (.int .i64 hk0) /\ W.cell? ⟨w3.heap.size + 1,3,none⟩ = some (.int .i64 hn) /\ W.cell? ⟨w3.heap.size + 1,4,none⟩ = some (.string hs)) (by kernel_rfl) (KS.out _ (KeepR.drew KR.out)) (fun hS => ?_)
     refine wpAnyH_take (i := 0) (v := ?_) rfl (by kernel_rfl) (by kernel_rfl) (by kernel_rfl) (fun _ _ _ h => h) (Or.inl ⟨by rfl, ?_⟩) (by assumption) ?_
     rotate_left
     · intro w' hSw
       (try dsimp only at hSw)
       go_simp
       (try with_reducible rfl)
     (try simp only [Act.put,HeT.pT])
     refine wpAnyH_take (i := 1) (v := ?_) rfl (by kernel_rfl) (by kernel_rfl) (by kernel_rfl) (fun _ _ _ h => h) (Or.inl ⟨by rfl, ?_⟩) (by assumption) ?_
     rotate_left
     · intro w' hSw
       (try dsimp only at hSw)
       go_simp
       (try with_reducible rfl)
     (try simp only [Act.put,HeT.pT])
     refine wpAnyH_take (i := 2) (v := ?_) rfl (by kernel_rfl) (by kernel_rfl) (by kernel_rfl) (fun _ _ _ h => h) (Or.inl ⟨by rfl, ?_⟩) (by assumption) ?_
     rotate_left
     · intro w' hSw
       (try dsimp only at hSw)
       go_simp
       (try with_reducible rfl)
     (try simp only [Act.put,HeT.pT])
     refine wpAnyH_take (i := 3) (v := ?_) rfl (by kernel_rfl) (by kernel_rfl) (by kernel_rfl) (fun _ _ _ h => h) (Or.inl ⟨by rfl, ?_⟩) (by assumption) ?_
     rotate_left
     · intro w' hSw
       (try dsimp only at hSw)
       go_simp
       (try with_reducible rfl)
     (try simp only [Act.put,HeT.pT])
     refine wpAnyH_take (i := 4) (v := ?_) rfl (by kernel_rfl) (by kernel_rfl) (by kernel_rfl) (fun _ _ _ h => h) (Or.inl ⟨by rfl, ?_⟩) (by assumption) ?_
     rotate_left
     · intro w' hSw
       (try dsimp only at hSw)
       go_simp
       (try with_reducible rfl)
     (try simp only [Act.put,HeT.pT])
     refine wpAnyH_take (i := 5) (v := ?_) rfl (by kernel_rfl) (by kernel_rfl) (by kernel_rfl) (fun _ _ _ h => h) (Or.inl ⟨by rfl, ?_⟩) (by assumption) ?_
     rotate_left
     · intro w' hSw
       (try dsimp only at hSw)
       go_simp
       (try with_reducible rfl)
     (try simp only [Act.put,HeT.pT])
     refine wpAnyH_take (i := 6) (v := ?_) rfl (by kernel_rfl) (by kernel_rfl) (by kernel_rfl) (fun _ _ _ h => h) (Or.inl ⟨by rfl, ?_⟩) (by assumption) ?_
     rotate_left
     · intro w' hSw
       (try dsimp only at hSw)
       go_simp
       (try with_reducible rfl)
     (try simp only [Act.put,HeT.pT])
     refine wpAnyH_take (i := 7) (v := ?_) rfl (by kernel_rfl) (by kernel_rfl) (by kernel_rfl) (fun _ _ _ h => h) (Or.inl ⟨by rfl, ?_⟩) (by assumption) ?_
     rotate_left
     · intro w' hSw
       (try dsimp only at hSw)
       go_simp
       (try with_reducible rfl)
     (try simp only [Act.put,HeT.pT])
     refine wpAnyH_ready (rs := [8]) (by kernel_rfl) (by simp) ?_
     refine AllReadyH.cons rfl (fun K hK => ?_) AllReadyH.nil
     go_simp
     refine (HIa.out _).mono ?_
     rintro e w5 ⟨rfl,hb5⟩
     have hr_w5 := (hb5.block (w.heap.size + 2) hrz).trans hr0
     have hl_w5 := (Array.getElem?_eq_some_iff.1 hr_w5).1
     have hf_w5 := fun o => frozen_of_row _ _ o _ _ hr_w5
     obtain ⟨q0,q1,q2,q3,q4,q5,q6,q7,q8,q9,q10⟩ := tl_cells (t := tlz) hr_w5
     refine hK.out _ _ (by exact KS.out _ (by repeat (first | with_reducible exact KR.out | with_reducible refine KeepR.set ?_ (by first | (with_reducible rfl) | (simp; done) | omega) _ | with_reducible refine KeepR.drew ?_ | with_reducible refine KeepR.on ?_ (by with_reducible assumption)))) (fun hS => ?_)
     clear hK K
     (try simp only [Act.put,HeT.pT])
     refine wpAnyH_take (i := 9) (v := ?_) rfl (by kernel_rfl) (by kernel_rfl) (by kernel_rfl) (fun _ _ _ h => h) (Or.inl ⟨by rfl, ?_⟩) (by assumption) ?_
     rotate_left
     · intro w' hSw
       (try dsimp only at hSw)
       go_simp
       (try with_reducible rfl)
     (try simp only [Act.put,HeT.pT])
     refine wpAnyH_take (i := 10) (v := ?_) rfl (by kernel_rfl) (by kernel_rfl) (by kernel_rfl) (fun _ _ _ h => h) (Or.inl ⟨by rfl, ?_⟩) (by assumption) ?_
     rotate_left
     · intro w' hSw
       (try dsimp only at hSw)
       go_simp
       (try with_reducible rfl)
     (try simp only [Act.put,HeT.pT])
     refine wpAnyH_take (i := 11) (v := undef) rfl (by kernel_rfl) (by kernel_rfl) (by kernel_rfl) (fun _ _ _ h => h) (Or.inr ⟨by rfl,rfl⟩) (by assumption) ?_
     (try simp only [Act.put,HeT.pT])
     refine wpAnyH_ready (rs := [12]) (by kernel_rfl) (by simp) ?_
     refine AllReadyH.cons rfl (fun K hK => ?_) AllReadyH.nil
     go_simp
     refine hK.out _ _ (by assumption) (fun hS => ?_)
     clear hK K
     (try simp only [Act.put,HeT.pT])
     refine wpAnyH_take (i := 13) (v := ?_) rfl (by kernel_rfl) (by kernel_rfl) (by kernel_rfl) (fun _ _ _ h => h) (Or.inl ⟨by rfl, ?_⟩) (by assumption) ?_
     rotate_left
     · intro w' hSw
       (try dsimp only at hSw)
       go_simp
       (try with_reducible rfl)
     (try simp only [Act.put,HeT.pT])
     refine wpAnyH_ready (rs := [14]) (by kernel_rfl) (by simp) ?_
     refine AllReadyH.cons rfl (fun K hK => ?_) AllReadyH.nil
     go_simp
     refine hK.out _ _ (by exact KS.out _ (by repeat (first | with_reducible exact KR.out | with_reducible refine KeepR.set ?_ (by first | (with_reducible rfl) | (simp; done) | omega) _ | with_reducible refine KeepR.drew ?_ | with_reducible refine KeepR.on ?_ (by with_reducible assumption)))) (fun hS => ?_)
     clear hK K
     (try simp only [Act.put,HeT.pT])
     refine wpAnyH_take (i := 15) (v := ?_) rfl (by kernel_rfl) (by kernel_rfl) (by kernel_rfl) (fun _ _ _ h => h) (Or.inl ⟨by rfl, ?_⟩) (by assumption) ?_
     rotate_left
     · intro w' hSw
       (try dsimp only at hSw)
       go_simp
       (try with_reducible rfl)
     (try simp only [Act.put,HeT.pT])
     refine wpAnyH_done (by kernel_rfl) ?_ _
     go_wp2_with fail
     refine bodyPost_ret (v := .tuple #[tlV ⟨a.col,⟨lh,li,lk,ln,ls⟩,⟨hh,hi,hk0,hn,hs⟩⟩, .bool false]) (by simp [results,Tryz.results139,go_sem,tlV,q0,q1,q2,q3,q4,q5,q6,q7,q8,q9,q10]) rfl ⟨HQ.out _ _ rfl (by rw [h1]; rfl),(show KeepR w W4 _ by repeat (first | with_reducible exact KR.out | with_reducible refine KeepR.set ?_ (by first | (with_reducible rfl) | (simp; done) | omega) _ | with_reducible refine KeepR.drew ?_ | with_reducible refine KeepR.on ?_ (by with_reducible assumption))).bel⟩
   · rw [h1] at HIa
     refine wp_region_held_drew (S := fun W => W.cell? ⟨w.heap.size,0,none⟩ = some (.string a.op) /\ W.cell? ⟨w.heap.size,1,none⟩ = some (.int .i64 a.vk) /\ W.cell? ⟨w.heap.size,2,none⟩ = some (.int .i64 a.vn) /\ W.cell? ⟨w.heap.size,3,none⟩ = some (.string a.vs) /\ W.cell? ⟨w.heap.size,4,none⟩ = some (.int .i64 a.var) /\ W.cell? ⟨w.heap.size,5,none⟩ = some (.int .i64 a.col) /\ W.cell? ⟨w.heap.size,6,none⟩ = some (.slice a.a a.kids.length a.c) /\ W.cell? ⟨w.heap.size + 1,0,none⟩ = some (.string b.op) /\ W.cell? ⟨w.heap.size + 1,1,none⟩ = some (.int .i64 b.vk) /\ W.cell? ⟨w.heap.size + 1,2,none⟩ = some (.int .i64 b.vn) /\ W.cell? ⟨w.heap.size + 1,3,none⟩ = some (.string b.vs) /\ W.cell? ⟨w.heap.size + 1,4,none⟩ = some (.int .i64 b.var) /\ W.cell? ⟨w.heap.size + 1,5,none⟩ = some (.int .i64 b.col) /\ W.cell? ⟨w.heap.size + 1,6,none⟩ = some (.slice b.a b.kids.length b.c) /\ W.cell? ⟨w3.heap.size,0,none⟩ = some (.bool lh) /\ W.cell? ⟨w3.heap.size,1,none⟩ = some (.bool li) /\ W.cell? ⟨w3.heap.size,2,none⟩ = some (.int .i64 lk) /\ W.cell? ⟨w3.heap.size,3,none⟩ = some (.int .i64 ln) /\ W.cell? ⟨w3.heap.size,4,none⟩ = some (.string ls) /\ W.cell? ⟨w3.heap.size + 1,0,none⟩ = some (.bool hh) /\ W.cell? ⟨w3.heap.size + 1,1,none⟩ = some (.bool hi) /\ W.cell? ⟨w3.heap.size + 1,2,none⟩ = some (.int .i64 hk0) /\ W.cell? ⟨w3.heap.size + 1,3,none⟩ = some (.int .i64 hn) /\ W.cell? ⟨w3.heap.size + 1,4,none⟩ = some (.string hs)) (by kernel_rfl) (KS.out _ (KeepR.drew KR.out)) (fun hS => ?_)
     refine wpAnyH_take (i := 0) (v := ?_) rfl (by kernel_rfl) (by kernel_rfl) (by kernel_rfl) (fun _ _ _ h => h) (Or.inl ⟨by rfl, ?_⟩) (by assumption) ?_
     rotate_left
     · intro w' hSw
       (try dsimp only at hSw)
       go_simp
       (try with_reducible rfl)
     (try simp only [Act.put,HeT.pT])
     refine wpAnyH_take (i := 1) (v := ?_) rfl (by kernel_rfl) (by kernel_rfl) (by kernel_rfl) (fun _ _ _ h => h) (Or.inl ⟨by rfl, ?_⟩) (by assumption) ?_
     rotate_left
     · intro w' hSw
       (try dsimp only at hSw)
       go_simp
       (try with_reducible rfl)
     (try simp only [Act.put,HeT.pT])
     refine wpAnyH_take (i := 2) (v := ?_) rfl (by kernel_rfl) (by kernel_rfl) (by kernel_rfl) (fun _ _ _ h => h) (Or.inl ⟨by rfl, ?_⟩) (by assumption) ?_
     rotate_left
     · intro w' hSw
       (try dsimp only at hSw)
       go_simp
       (try with_reducible rfl)
     (try simp only [Act.put,HeT.pT])
     refine wpAnyH_take (i := 3) (v := ?_) rfl (by kernel_rfl) (by kernel_rfl) (by kernel_rfl) (fun _ _ _ h => h) (Or.inl ⟨by rfl, ?_⟩) (by assumption) ?_
     rotate_left
     · intro w' hSw
       (try dsimp only at hSw)
       go_simp
       (try with_reducible rfl)
     (try simp only [Act.put,HeT.pT])
     refine wpAnyH_take (i := 4) (v := ?_) rfl (by kernel_rfl) (by kernel_rfl) (by kernel_rfl) (fun _ _ _ h => h) (Or.inl ⟨by rfl, ?_⟩) (by assumption) ?_
     rotate_left
     · intro w' hSw
       (try dsimp only at hSw)
       go_simp
       (try with_reducible rfl)
     (try simp only [Act.put,HeT.pT])
     refine wpAnyH_take (i := 5) (v := ?_) rfl (by kernel_rfl) (by kernel_rfl) (by kernel_rfl) (fun _ _ _ h => h) (Or.inl ⟨by rfl, ?_⟩) (by assumption) ?_
     rotate_left
     · intro w' hSw
       (try dsimp only at hSw)
       go_simp
       (try with_reducible rfl)
     (try simp only [Act.put,HeT.pT])
     refine wpAnyH_take (i := 6) (v := ?_) rfl (by kernel_rfl) (by kernel_rfl) (by kernel_rfl) (fun _ _ _ h => h) (Or.inl ⟨by rfl, ?_⟩) (by assumption) ?_
     rotate_left
     · intro w' hSw
       (try dsimp only at hSw)
       go_simp
       (try with_reducible rfl)
     (try simp only [Act.put,HeT.pT])
     refine wpAnyH_take (i := 7) (v := ?_) rfl (by kernel_rfl) (by kernel_rfl) (by kernel_rfl) (fun _ _ _ h => h) (Or.inl ⟨by rfl, ?_⟩) (by assumption) ?_
     rotate_left
     · intro w' hSw
       (try dsimp only at hSw)
       go_simp
       (try with_reducible rfl)
     (try simp only [Act.put,HeT.pT])
     refine wpAnyH_ready (rs := [8]) (by kernel_rfl) (by simp) ?_
     refine AllReadyH.cons rfl (fun K hK => ?_) AllReadyH.nil
     go_simp
     refine (HIa.out _).mono ?_
     rintro e w5 ⟨rfl,hb5⟩
     have hr_w5 := (hb5.block (w.heap.size + 2) hrz).trans hr0
     have hl_w5 := (Array.getElem?_eq_some_iff.1 hr_w5).1
     have hf_w5 := fun o => frozen_of_row _ _ o _ _ hr_w5
     obtain ⟨q0,q1,q2,q3,q4,q5,q6,q7,q8,q9,q10⟩ := tl_cells (t := tlz) hr_w5
     refine hK.out _ _ (by exact KS.out _ (by repeat (first | with_reducible exact KR.out | with_reducible refine KeepR.set ?_ (by first | (with_reducible rfl) | (simp; done) | omega) _ | with_reducible refine KeepR.drew ?_ | with_reducible refine KeepR.on ?_ (by with_reducible assumption)))) (fun hS => ?_)
     clear hK K
     (try simp only [Act.put,HeT.pT])
     refine wpAnyH_take (i := 9) (v := ?_) rfl (by kernel_rfl) (by kernel_rfl) (by kernel_rfl) (fun _ _ _ h => h) (Or.inl ⟨by rfl, ?_⟩) (by assumption) ?_
     rotate_left
     · intro w' hSw
       (try dsimp only at hSw)
       go_simp
       (try with_reducible rfl)
     (try simp only [Act.put,HeT.pT])
     refine wpAnyH_take (i := 10) (v := ?_) rfl (by kernel_rfl) (by kernel_rfl) (by kernel_rfl) (fun _ _ _ h => h) (Or.inl ⟨by rfl, ?_⟩) (by assumption) ?_
     rotate_left
     · intro w' hSw
       (try dsimp only at hSw)
       go_simp
       (try with_reducible rfl)
     (try simp only [Act.put,HeT.pT])
     refine wpAnyH_take (i := 11) (v := ?_) rfl (by kernel_rfl) (by kernel_rfl) (by kernel_rfl) (fun _ _ _ h => h) (Or.inl ⟨by rfl, ?_⟩) (by assumption) ?_
     rotate_left
     · intro w' hSw
       (try dsimp only at hSw)
       go_simp
       (try with_reducible rfl)
     (try simp only [Act.put,HeT.pT])
     refine wpAnyH_ready (rs := [12]) (by kernel_rfl) (by simp) ?_
     refine AllReadyH.cons rfl (fun K hK => ?_) AllReadyH.nil
     go_simp
     refine (HIk.out _).mono ?_
     rintro e w6 ⟨rfl,hb6⟩
     have hr_w6 := (hb6.block (w.heap.size + 2) hl_w5).trans hr_w5
     have hl_w6 := (Array.getElem?_eq_some_iff.1 hr_w6).1
     have hf_w6 := fun o => frozen_of_row _ _ o _ _ hr_w6
     obtain ⟨q0,q1,q2,q3,q4,q5,q6,q7,q8,q9,q10⟩ := tl_cells (t := tlz) hr_w6
     refine hK.out _ _ (by exact KS.out _ (by repeat (first | with_reducible exact KR.out | with_reducible refine KeepR.set ?_ (by first | (with_reducible rfl) | (simp; done) | omega) _ | with_reducible refine KeepR.drew ?_ | with_reducible refine KeepR.on ?_ (by with_reducible assumption)))) (fun hS => ?_)
     clear hK K
     (try simp only [Act.put,HeT.pT])
     refine wpAnyH_take (i := 13) (v := ?_) rfl (by kernel_rfl) (by kernel_rfl) (by kernel_rfl) (fun _ _ _ h => h) (Or.inl ⟨by rfl, ?_⟩) (by assumption) ?_
     rotate_left
     · intro w' hSw
       (try dsimp only at hSw)
       go_simp
       (try with_reducible rfl)
     (try simp only [Act.put,HeT.pT])
     refine wpAnyH_ready (rs := [14]) (by kernel_rfl) (by simp) ?_
     refine AllReadyH.cons rfl (fun K hK => ?_) AllReadyH.nil
     go_simp
     refine hK.out _ _ (by exact KS.out _ (by repeat (first | with_reducible exact KR.out | with_reducible refine KeepR.set ?_ (by first | (with_reducible rfl) | (simp; done) | omega) _ | with_reducible refine KeepR.drew ?_ | with_reducible refine KeepR.on ?_ (by with_reducible assumption)))) (fun hS => ?_)
     clear hK K
     (try simp only [Act.put,HeT.pT])
     refine wpAnyH_take (i := 15) (v := ?_) rfl (by kernel_rfl) (by kernel_rfl) (by kernel_rfl) (fun _ _ _ h => h) (Or.inl ⟨by rfl, ?_⟩) (by assumption) ?_
     rotate_left
     · intro w' hSw
       (try dsimp only at hSw)
       go_simp
       (try with_reducible rfl)
     (try simp only [Act.put,HeT.pT])
     refine wpAnyH_done (by kernel_rfl) ?_ _
     go_wp2_with fail
     refine bodyPost_ret (v := .tuple #[tlV ⟨a.col,⟨lh,li,lk,ln,ls⟩,⟨hh,hi,hk0,hn,hs⟩⟩, .bool (isKnownN b)]) (by simp [results,Tryz.results139,go_sem,tlV,q0,q1,q2,q3,q4,q5,q6,q7,q8,q9,q10]) rfl ⟨HQ.out _ _ rfl (by rw [h1]; rfl),(show KeepR w W4 _ by repeat (first | with_reducible exact KR.out | with_reducible refine KeepR.set ?_ (by first | (with_reducible rfl) | (simp; done) | omega) _ | with_reducible refine KeepR.drew ?_ | with_reducible refine KeepR.on ?_ (by with_reducible assumption))).bel⟩
 · have hHeld: (fun w': World => w'.cell? ⟨w.heap.size,0,none⟩ = some (.string a.op) /\ w'.cell? ⟨w.heap.size,1,none⟩ = some (.int .i64 a.vk) /\ w'.cell? ⟨w.heap.size,2,none⟩ = some (.int .i64 a.vn) /\ w'.cell? ⟨w.heap.size,3,none⟩ = some (.string a.vs) /\ w'.cell? ⟨w.heap.size,4,none⟩ = some (.int .i64 a.var) /\ w'.cell? ⟨w.heap.size,5,none⟩ = some (.int .i64 a.col) /\ w'.cell? ⟨w.heap.size,6,none⟩ = some (.slice a.a a.kids.length a.c) /\ w'.cell? ⟨w.heap.size + 1,0,none⟩ = some (.string b.op) /\ w'.cell? ⟨w.heap.size + 1,1,none⟩ = some (.int .i64 b.vk) /\ w'.cell? ⟨w.heap.size + 1,2,none⟩ = some (.int .i64 b.vn) /\ w'.cell? ⟨w.heap.size + 1,3,none⟩ = some (.string b.vs) /\ w'.cell? ⟨w.heap.size + 1,4,none⟩ = some (.int .i64 b.var) /\ w'.cell? ⟨w.heap.size + 1,5,none⟩ = some (.int .i64 b.col) /\ w'.cell? ⟨w.heap.size + 1,6,none⟩ = some (.slice b.a b.kids.length b.c)) w1.drew := ⟨a0,a1,a2,a3,a4,a5,a6,b0,b1,b2,b3,b4,b5,b6⟩
   go_wp2_with fail
   refine HeT.begin_ (fun w' => w'.cell? ⟨w.heap.size,0,none⟩ = some (.string a.op) /\ w'.cell? ⟨w.heap.size,1,none⟩ = some (.int .i64 a.vk) /\ w'.cell? ⟨w.heap.size,2,none⟩ = some (.int .i64 a.vn) /\ w'.cell? ⟨w.heap.size,3,none⟩ = some (.string a.vs) /\ w'.cell? ⟨w.heap.size,4,none⟩ = some (.int .i64 a.var) /\ w'.cell? ⟨w.heap.size,5,none⟩ = some (.int .i64 a.col) /\ w'.cell? ⟨w.heap.size,6,none⟩ = some (.slice a.a a.kids.length a.c) /\ w'.cell? ⟨w.heap.size + 1,0,none⟩ = some (.string b.op) /\ w'.cell? ⟨w.heap.size + 1,1,none⟩ = some (.int .i64 b.vk) /\ w'.cell? ⟨w.heap.size + 1,2,none⟩ = some (.int .i64 b.vn) /\ w'.cell? ⟨w.heap.size + 1,3,none⟩ = some (.string b.vs) /\ w'.cell? ⟨w.heap.size + 1,4,none⟩ = some (.int .i64 b.var) /\ w'.cell? ⟨w.heap.size + 1,5,none⟩ = some (.int .i64 b.col) /\ w'.cell? ⟨w.heap.size + 1,6,none⟩ = some (.slice b.a b.kids.length b.c)) 5 (by kernel_rfl) ?_
   refine HeT.take (i := 0) (v := ?_) rfl (by kernel_rfl) (by kernel_rfl) (by kernel_rfl) (by kernel_rfl) (by decide) (fun _ _ _ h => h) (Or.inl ⟨by rfl, ?_⟩) hHeld ?_
   rotate_left
   · intro w' hSw
     obtain ⟨s0,s1,s2,s3,s4,s5,s6,t0,t1,t2,t3,t4,t5,t6⟩ := hSw
     go_simp
     (try with_reducible rfl)
   (try simp only [Act.put,HeT.pT])
   refine HeT.take (i := 2) (v := ?_) rfl (by kernel_rfl) (by kernel_rfl) (by kernel_rfl) (by kernel_rfl) (by decide) (fun _ _ _ h => h) (Or.inl ⟨by rfl, ?_⟩) hHeld ?_
   rotate_left
   · intro w' hSw
     obtain ⟨s0,s1,s2,s3,s4,s5,s6,t0,t1,t2,t3,t4,t5,t6⟩ := hSw
     go_simp
     (try with_reducible rfl)
   (try simp only [Act.put,HeT.pT])
   refine HeT.take (i := 3) (v := ?_) rfl (by kernel_rfl) (by kernel_rfl) (by kernel_rfl) (by kernel_rfl) (by decide) (fun _ _ _ h => h) (Or.inl ⟨by rfl, ?_⟩) hHeld ?_
   rotate_left
   · intro w' hSw
     obtain ⟨s0,s1,s2,s3,s4,s5,s6,t0,t1,t2,t3,t4,t5,t6⟩ := hSw
     go_simp
     (try with_reducible rfl)
   (try simp only [Act.put,HeT.pT])
   refine HeT.one (i := 1) (by kernel_rfl) rfl ?_
   intro K hK
   go_simp
   refine (HT.out _).mono ?_
   rintro e w' ⟨rfl,rfl⟩
   refine hK _ _ hHeld ?_
   clear hK K
   (try simp only [Act.put,HeT.pT])
   refine HeT.one (i := 4) (by kernel_rfl) rfl ?_
   intro K hK
   go_simp
   refine hK _ _ hHeld ?_
   clear hK K
   (try simp only [Act.put,HeT.pT])
   refine HeT.rest2 (k := 5) rfl (by decide) (by kernel_rfl) ?_
   simp only [List.drop_succ_cons,List.drop_zero]
   go_wp2_with fail
   refine NoPanic.normal ?_
   refine Rw.to_letter (CmpB.drew (CmpB.put1 (z := a) (CmpB.put0 (z := b) ⟨HB.out,HA.out,HBx.out,HTx.out⟩))) ?_
   clear a0 a1 a2 a3 a4 a5 a6 b0 b1 b2 b3 b4 b5 b6 fa fb HA HBx HTx HB hHeld HT
   rintro W2 hC2
   obtain ⟨b0,b1,b2,b3,b4,b5,b6⟩ := gcells hC2.2.2.1
   obtain ⟨r,hr⟩: ∃ r,r = boundsN (turnN op).toList a.val := ⟨_,rfl⟩
   have HBd: Hid (∀ W,Calls Tryz.prog 182 #[.string (turnN op), .agg #[.int .i64 a.vk, .int .i64 a.vn, .string a.vs]] W fun e w' => e = .returned (.tuple #[bdV r.1,bdV r.2.1, .bool r.2.2]) /\ Below W.heap.size W w') := by rw [hr]; exact fun W => bounds_walk (turnN op) a.val W
   have HQ: Hid (∀ T B,T = tlV ⟨b.col,r.1,r.2.1⟩ -> B = (r.2.2 && isColN b && isKnownN a) -> Ending.returned (.tuple #[T, .bool B]) = .returned (.tuple #[tlV (comparedN op a b).1, .bool (comparedN op a b).2])) := by
    rintro T B rfl rfl
    unfold comparedN
    rw [if_pos hc]
    unfold cmpN
    rw [<- hr]
   clear hr
   obtain ⟨⟨lh,li,lk,ln,ls⟩,⟨hh,hi,hk0,hn,hs⟩,ok⟩ := r
   have HCB := Rw.dh hC2
   clear hC2
   unfold bdV at HBd
   go_wp2_with fail
   refine (HBd.out _).mono ?_
   rintro e w3 ⟨rfl,hb3⟩
   have HC3 := Rw.dh (HCB.out.on hb3)
   clear b0 b1 b2 b3 b4 b5 b6 HBd HCB hb3
   go_wp2_with fail
   refine Rw.to_letter (cmp_four HC3.out (.cells #[.bool lh, .bool li, .int .i64 lk, .int .i64 ln, .string ls] 173) (.cells #[.bool hh, .bool hi, .int .i64 hk0, .int .i64 hn, .string hs] 173)) ?_
   rintro W4 h4
   have KS: Hid (∀ W',KeepR w W4 W' -> (fun W => W.cell? ⟨w.heap.size,0,none⟩ = some (.string b.op) /\ W.cell? ⟨w.heap.size,1,none⟩ = some (.int .i64 b.vk) /\ W.cell? ⟨w.heap.size,2,none⟩ = some (.int .i64 b.vn) /\ W.cell? ⟨w.heap.size,3,none⟩ = some (.string b.vs) /\ W.cell? ⟨w.heap.size,4,none⟩ = some (.int .i64 b.var) /\ W.cell? ⟨w.heap.size,5,none⟩ = some (.int .i64 b.col) /\ W.cell? ⟨w.heap.size,6,none⟩ = some (.slice b.a b.kids.length b.c) /\ W.cell? ⟨w.heap.size + 1,0,none⟩ = some (.string a.op) /\ W.cell? ⟨w.heap.size + 1,1,none⟩ = some (.int .i64 a.vk) /\ W.cell? ⟨w.heap.size + 1,2,none⟩ = some (.int .i64 a.vn) /\ W.cell? ⟨w.heap.size + 1,3,none⟩ = some (.string a.vs) /\ W.cell? ⟨w.heap.size + 1,4,none⟩ = some (.int .i64 a.var) /\ W.cell? ⟨w.heap.size + 1,5,none⟩ = some (.int .i64 a.col) /\ W.cell? ⟨w.heap.size + 1,6,none⟩ = some (.slice a.a a.kids.length a.c) /\ W.cell? ⟨w3.heap.size,0,none⟩ = some (.bool lh) /\ W.cell? ⟨w3.heap.size,1,none⟩ = some (.bool li) /\ W.cell? ⟨w3.heap.size,2,none⟩ = some (.int .i64 lk) /\ W.cell? ⟨w3.heap.size,3,none⟩ = some (.int .i64 ln) /\ W.cell? ⟨w3.heap.size,4,none⟩ = some (.string ls) /\ W.cell? ⟨w3.heap.size + 1,0,none⟩ = some (.bool hh) /\ W.cell? ⟨w3.heap.size + 1,1,none⟩ = some (.bool hi) /\ W.cell? ⟨w3.heap.size + 1,2,none⟩ = some (.int .i64 hk0) /\ W.cell? ⟨w3.heap.size + 1,3,none⟩ = some (.int .i64 hn) /\ W.cell? ⟨w3.heap.size + 1,4,none⟩ = some (.string hs)) W') := fun W' hk => cmp_held (lo := ⟨lh,li,⟨lk,ln,ls⟩⟩) (hi := ⟨hh,hi,⟨hk0,hn,hs⟩⟩) h4 hk
   have KR: Hid (KeepR w W4 W4) := KeepR.refl h4.1.1
   have hr0 := h4.1.2.2.2
   have hrz := (Array.getElem?_eq_some_iff.1 hr0).1
   have hrf := fun o => frozen_of_row _ _ o _ _ hr0
   obtain ⟨q0,q1,q2,q3,q4,q5,q6,q7,q8,q9,q10⟩ := tl_cells (t := tlz) hr0
   have HIa := Rw.dh (fun W => isCol_walk b W)
   have HIk := Rw.dh (fun W => isKnown_walk a W)
   unfold nV at HIa HIk
   clear h4 HC3
   cases ok
   · clear HIa HIk
     refine wp_region_held_drew (S := fun W => W.cell? ⟨w.heap.size,0,none⟩ = some (.string b.op) /\ W.cell? ⟨w.heap.size,1,none⟩ = some (.int .i64 b.vk) /\ W.cell? ⟨w.heap.size,2,none⟩ = some (.int .i64 b.vn) /\ W.cell? ⟨w.heap.size,3,none⟩ = some (.string b.vs) /\ W.cell? ⟨w.heap.size,4,none⟩ = some (.int .i64 b.var) /\ W.cell? ⟨w.heap.size,5,none⟩ = some (.int .i64 b.col) /\ W.cell? ⟨w.heap.size,6,none⟩ = some (.slice b.a b.kids.length b.c) /\ W.cell? ⟨w.heap.size + 1,0,none⟩ = some (.string a.op) /\ W.cell? ⟨w.heap.size + 1,1,none⟩ = some (.int .i64 a.vk) /\ W.cell? ⟨w.heap.size + 1,2,none⟩ = some (.int .i64 a.vn) /\ W.cell? ⟨w.heap.size + 1,3,none⟩ = some (.string a.vs) /\ W.cell? ⟨w.heap.size + 1,4,none⟩ = some (.int .i64 a.var) /\ W.cell? ⟨w.heap.size + 1,5,none⟩ = some (.int .i64 a.col) /\ W.cell? ⟨w.heap.size + 1,6,none⟩ = some (.slice a.a a.kids.length a.c) /\ W.cell? ⟨w3.heap.size,0,none⟩ = some (.bool lh) /\ W.cell? ⟨w3.heap.size,1,none⟩ = some (.bool li) /\ W.cell? ⟨w3.heap.size,2,none⟩ = some (.int .i64 lk) /\ W.cell? ⟨w3.heap.size,3,none⟩ = some (.int .i64 ln) /\ W.cell? ⟨w3.heap.size,4,none⟩ = some (.string ls) /\ W.cell? ⟨w3.heap.size + 1,0,none⟩ = some (.bool hh) /\ W.cell? ⟨w3.heap.size + 1,1,none⟩ = some (.bool hi) /\ W.cell? ⟨w3.heap.size + 1,2,none⟩ = some (.int .i64 hk0) /\ W.cell? ⟨w3.heap.size + 1,3,none⟩ = some (.int .i64 hn) /\ W.cell? ⟨w3.heap.size + 1,4,none⟩ = some (.string hs)) (by kernel_rfl) (KS.out _ (KeepR.drew KR.out)) (fun hS => ?_)
     refine wpAnyH_take (i := 0) (v := ?_) rfl (by kernel_rfl) (by kernel_rfl) (by kernel_rfl) (fun _ _ _ h => h) (Or.inl ⟨by rfl, ?_⟩) (by assumption) ?_
     rotate_left
     · intro w' hSw
       (try dsimp only at hSw)
       go_simp
       (try with_reducible rfl)
     (try simp only [Act.put,HeT.pT])
     refine wpAnyH_take (i := 1) (v := ?_) rfl (by kernel_rfl) (by kernel_rfl) (by kernel_rfl) (fun _ _ _ h => h) (Or.inl ⟨by rfl, ?_⟩) (by assumption) ?_
     rotate_left
     · intro w' hSw
       (try dsimp only at hSw)
       go_simp
       (try with_reducible rfl)
     (try simp only [Act.put,HeT.pT])
     refine wpAnyH_take (i := 2) (v := ?_) rfl (by kernel_rfl) (by kernel_rfl) (by kernel_rfl) (fun _ _ _ h => h) (Or.inl ⟨by rfl, ?_⟩) (by assumption) ?_
     rotate_left
     · intro w' hSw
       (try dsimp only at hSw)
       go_simp
       (try with_reducible rfl)
     (try simp only [Act.put,HeT.pT])
     refine wpAnyH_take (i := 3) (v := ?_) rfl (by kernel_rfl) (by kernel_rfl) (by kernel_rfl) (fun _ _ _ h => h) (Or.inl ⟨by rfl, ?_⟩) (by assumption) ?_
     rotate_left
     · intro w' hSw
       (try dsimp only at hSw)
       go_simp
       (try with_reducible rfl)
     (try simp only [Act.put,HeT.pT])
     refine wpAnyH_take (i := 4) (v := ?_) rfl (by kernel_rfl) (by kernel_rfl) (by kernel_rfl) (fun _ _ _ h => h) (Or.inl ⟨by rfl, ?_⟩) (by assumption) ?_
     rotate_left
     · intro w' hSw
       (try dsimp only at hSw)
       go_simp
       (try with_reducible rfl)
     (try simp only [Act.put,HeT.pT])
     refine wpAnyH_take (i := 5) (v := ?_) rfl (by kernel_rfl) (by kernel_rfl) (by kernel_rfl) (fun _ _ _ h => h) (Or.inl ⟨by rfl, ?_⟩) (by assumption) ?_
     rotate_left
     · intro w' hSw
       (try dsimp only at hSw)
       go_simp
       (try with_reducible rfl)
     (try simp only [Act.put,HeT.pT])
     refine wpAnyH_take (i := 6) (v := ?_) rfl (by kernel_rfl) (by kernel_rfl) (by kernel_rfl) (fun _ _ _ h => h) (Or.inl ⟨by rfl, ?_⟩) (by assumption) ?_
     rotate_left
     · intro w' hSw
       (try dsimp only at hSw)
       go_simp
       (try with_reducible rfl)
     (try simp only [Act.put,HeT.pT])
     refine wpAnyH_take (i := 7) (v := undef) rfl (by kernel_rfl) (by kernel_rfl) (by kernel_rfl) (fun _ _ _ h => h) (Or.inr ⟨by rfl,rfl⟩) (by assumption) ?_
     (try simp only [Act.put,HeT.pT])
     refine wpAnyH_ready (rs := [8]) (by kernel_rfl) (by simp) ?_
     refine AllReadyH.cons rfl (fun K hK => ?_) AllReadyH.nil
     go_simp
     refine hK.out _ _ (by assumption) (fun hS => ?_)
     clear hK K
     (try simp only [Act.put,HeT.pT])
     refine wpAnyH_take (i := 9) (v := ?_) rfl (by kernel_rfl) (by kernel_rfl) (by kernel_rfl) (fun _ _ _ h => h) (Or.inl ⟨by rfl, ?_⟩) (by assumption) ?_
     rotate_left
     · intro w' hSw
       (try dsimp only at hSw)
       go_simp
       (try with_reducible rfl)
     (try simp only [Act.put,HeT.pT])
     refine wpAnyH_take (i := 10) (v := ?_) rfl (by kernel_rfl) (by kernel_rfl) (by kernel_rfl) (fun _ _ _ h => h) (Or.inl ⟨by rfl, ?_⟩) (by assumption) ?_
     rotate_left
     · intro w' hSw
       (try dsimp only at hSw)
       go_simp
       (try with_reducible rfl)
     (try simp only [Act.put,HeT.pT])
     refine wpAnyH_take (i := 11) (v := undef) rfl (by kernel_rfl) (by kernel_rfl) (by kernel_rfl) (fun _ _ _ h => h) (Or.inr ⟨by rfl,rfl⟩) (by assumption) ?_
     (try simp only [Act.put,HeT.pT])
     refine wpAnyH_ready (rs := [12]) (by kernel_rfl) (by simp) ?_
     refine AllReadyH.cons rfl (fun K hK => ?_) AllReadyH.nil
     go_simp
     refine hK.out _ _ (by assumption) (fun hS => ?_)
     clear hK K
     (try simp only [Act.put,HeT.pT])
     refine wpAnyH_take (i := 13) (v := ?_) rfl (by kernel_rfl) (by kernel_rfl) (by kernel_rfl) (fun _ _ _ h => h) (Or.inl ⟨by rfl, ?_⟩) (by assumption) ?_
     rotate_left
     · intro w' hSw
       (try dsimp only at hSw)
       go_simp
       (try with_reducible rfl)
     (try simp only [Act.put,HeT.pT])
     refine wpAnyH_ready (rs := [14]) (by kernel_rfl) (by simp) ?_
     refine AllReadyH.cons rfl (fun K hK => ?_) AllReadyH.nil
     go_simp
     refine hK.out _ _ (by exact KS.out _ (by repeat (first | with_reducible exact KR.out | with_reducible refine KeepR.set ?_ (by first | (with_reducible rfl) | (simp; done) | omega) _ | with_reducible refine KeepR.drew ?_ | with_reducible refine KeepR.on ?_ (by with_reducible assumption)))) (fun hS => ?_)
     clear hK K
     (try simp only [Act.put,HeT.pT])
     refine wpAnyH_take (i := 15) (v := ?_) rfl (by kernel_rfl) (by kernel_rfl) (by kernel_rfl) (fun _ _ _ h => h) (Or.inl ⟨by rfl, ?_⟩) (by assumption) ?_
     rotate_left
     · intro w' hSw
       (try dsimp only at hSw)
       go_simp
       (try with_reducible rfl)
     (try simp only [Act.put,HeT.pT])
     refine wpAnyH_done (by kernel_rfl) ?_ _
     go_wp2_with fail
     refine bodyPost_ret (v := .tuple #[tlV ⟨b.col,⟨lh,li,lk,ln,ls⟩,⟨hh,hi,hk0,hn,hs⟩⟩, .bool false]) (by simp [results,Tryz.results139,go_sem,tlV,q0,q1,q2,q3,q4,q5,q6,q7,q8,q9,q10]) rfl ⟨HQ.out _ _ rfl (by rfl),(show KeepR w W4 _ by repeat (first | with_reducible exact KR.out | with_reducible refine KeepR.set ?_ (by first | (with_reducible rfl) | (simp; done) | omega) _ | with_reducible refine KeepR.drew ?_ | with_reducible refine KeepR.on ?_ (by with_reducible assumption))).bel⟩
   cases h1: isColN b
   · clear HIk
     rw [h1] at HIa
     refine wp_region_held_drew (S := fun W => W.cell? ⟨w.heap.size,0,none⟩ = some (.string b.op) /\ W.cell? ⟨w.heap.size,1,none⟩ = some (.int .i64 b.vk) /\ W.cell? ⟨w.heap.size,2,none⟩ = some (.int .i64 b.vn) /\ W.cell? ⟨w.heap.size,3,none⟩ = some (.string b.vs) /\ W.cell? ⟨w.heap.size,4,none⟩ = some (.int .i64 b.var) /\ W.cell? ⟨w.heap.size,5,none⟩ = some (.int .i64 b.col) /\ W.cell? ⟨w.heap.size,6,none⟩ = some (.slice b.a b.kids.length b.c) /\ W.cell? ⟨w.heap.size + 1,0,none⟩ = some (.string a.op) /\ W.cell? ⟨w.heap.size + 1,1,none⟩ = some (.int .i64 a.vk) /\ W.cell? ⟨w.heap.size + 1,2,none⟩ = some (.int .i64 a.vn) /\ W.cell? ⟨w.heap.size + 1,3,none⟩ = some (.string a.vs) /\ W.cell? ⟨w.heap.size + 1,4,none⟩ = some (.int .i64 a.var) /\ W.cell? ⟨w.heap.size + 1,5,none⟩ = some (.int .i64 a.col) /\ W.cell? ⟨w.heap.size + 1,6,none⟩ = some (.slice a.a a.kids.length a.c) /\ W.cell? ⟨w3.heap.size,0,none⟩ = some (.bool lh) /\ W.cell? ⟨w3.heap.size,1,none⟩ = some (.bool li) /\ W.cell? ⟨w3.heap.size,2,none⟩ = some (.int .i64 lk) /\ W.cell? ⟨w3.heap.size,3,none⟩ = some (.int .i64 ln) /\ W.cell? ⟨w3.heap.size,4,none⟩ = some (.string ls) /\ W.cell? ⟨w3.heap.size + 1,0,none⟩ = some (.bool hh) /\ W.cell? ⟨w3.heap.size + 1,1,none⟩ = some (.bool hi) /\ W.cell? ⟨w3.heap.size + 1,2,none⟩ = some (.int .i64 hk0) /\ W.cell? ⟨w3.heap.size + 1,3,none⟩ = some (.int .i64 hn) /\ W.cell? ⟨w3.heap.size + 1,4,none⟩ = some (.string hs)) (by kernel_rfl) (KS.out _ (KeepR.drew KR.out)) (fun hS => ?_)
     refine wpAnyH_take (i := 0) (v := ?_) rfl (by kernel_rfl) (by kernel_rfl) (by kernel_rfl) (fun _ _ _ h => h) (Or.inl ⟨by rfl, ?_⟩) (by assumption) ?_
     rotate_left
     · intro w' hSw
       (try dsimp only at hSw)
       go_simp
       (try with_reducible rfl)
     (try simp only [Act.put,HeT.pT])
     refine wpAnyH_take (i := 1) (v := ?_) rfl (by kernel_rfl) (by kernel_rfl) (by kernel_rfl) (fun _ _ _ h => h) (Or.inl ⟨by rfl, ?_⟩) (by assumption) ?_
     rotate_left
     · intro w' hSw
       (try dsimp only at hSw)
       go_simp
       (try with_reducible rfl)
     (try simp only [Act.put,HeT.pT])
     refine wpAnyH_take (i := 2) (v := ?_) rfl (by kernel_rfl) (by kernel_rfl) (by kernel_rfl) (fun _ _ _ h => h) (Or.inl ⟨by rfl, ?_⟩) (by assumption) ?_
     rotate_left
     · intro w' hSw
       (try dsimp only at hSw)
       go_simp
       (try with_reducible rfl)
     (try simp only [Act.put,HeT.pT])
     refine wpAnyH_take (i := 3) (v := ?_) rfl (by kernel_rfl) (by kernel_rfl) (by kernel_rfl) (fun _ _ _ h => h) (Or.inl ⟨by rfl, ?_⟩) (by assumption) ?_
     rotate_left
     · intro w' hSw
       (try dsimp only at hSw)
       go_simp
       (try with_reducible rfl)
     (try simp only [Act.put,HeT.pT])
     refine wpAnyH_take (i := 4) (v := ?_) rfl (by kernel_rfl) (by kernel_rfl) (by kernel_rfl) (fun _ _ _ h => h) (Or.inl ⟨by rfl, ?_⟩) (by assumption) ?_
     rotate_left
     · intro w' hSw
       (try dsimp only at hSw)
       go_simp
       (try with_reducible rfl)
     (try simp only [Act.put,HeT.pT])
     refine wpAnyH_take (i := 5) (v := ?_) rfl (by kernel_rfl) (by kernel_rfl) (by kernel_rfl) (fun _ _ _ h => h) (Or.inl ⟨by rfl, ?_⟩) (by assumption) ?_
     rotate_left
     · intro w' hSw
       (try dsimp only at hSw)
       go_simp
       (try with_reducible rfl)
     (try simp only [Act.put,HeT.pT])
     refine wpAnyH_take (i := 6) (v := ?_) rfl (by kernel_rfl) (by kernel_rfl) (by kernel_rfl) (fun _ _ _ h => h) (Or.inl ⟨by rfl, ?_⟩) (by assumption) ?_
     rotate_left
     · intro w' hSw
       (try dsimp only at hSw)
       go_simp
       (try with_reducible rfl)
     (try simp only [Act.put,HeT.pT])
     refine wpAnyH_take (i := 7) (v := ?_) rfl (by kernel_rfl) (by kernel_rfl) (by kernel_rfl) (fun _ _ _ h => h) (Or.inl ⟨by rfl, ?_⟩) (by assumption) ?_
     rotate_left
     · intro w' hSw
       (try dsimp only at hSw)
       go_simp
       (try with_reducible rfl)
     (try simp only [Act.put,HeT.pT])
     refine wpAnyH_ready (rs := [8]) (by kernel_rfl) (by simp) ?_
     refine AllReadyH.cons rfl (fun K hK => ?_) AllReadyH.nil
     go_simp
     refine (HIa.out _).mono ?_
     rintro e w5 ⟨rfl,hb5⟩
     have hr_w5 := (hb5.block (w.heap.size + 2) hrz).trans hr0
     have hl_w5 := (Array.getElem?_eq_some_iff.1 hr_w5).1
     have hf_w5 := fun o => frozen_of_row _ _ o _ _ hr_w5
     obtain ⟨q0,q1,q2,q3,q4,q5,q6,q7,q8,q9,q10⟩ := tl_cells (t := tlz) hr_w5
     refine hK.out _ _ (by exact KS.out _ (by repeat (first | with_reducible exact KR.out | with_reducible refine KeepR.set ?_ (by first | (with_reducible rfl) | (simp; done) | omega) _ | with_reducible refine KeepR.drew ?_ | with_reducible refine KeepR.on ?_ (by with_reducible assumption)))) (fun hS => ?_)
     clear hK K
     (try simp only [Act.put,HeT.pT])
     refine wpAnyH_take (i := 9) (v := ?_) rfl (by kernel_rfl) (by kernel_rfl) (by kernel_rfl) (fun _ _ _ h => h) (Or.inl ⟨by rfl, ?_⟩) (by assumption) ?_
     rotate_left
     · intro w' hSw
       (try dsimp only at hSw)
       go_simp
       (try with_reducible rfl)
     (try simp only [Act.put,HeT.pT])
     refine wpAnyH_take (i := 10) (v := ?_) rfl (by kernel_rfl) (by kernel_rfl) (by kernel_rfl) (fun _ _ _ h => h) (Or.inl ⟨by rfl, ?_⟩) (by assumption) ?_
     rotate_left
     · intro w' hSw
       (try dsimp only at hSw)
       go_simp
       (try with_reducible rfl)
     (try simp only [Act.put,HeT.pT])
     refine wpAnyH_take (i := 11) (v := undef) rfl (by kernel_rfl) (by kernel_rfl) (by kernel_rfl) (fun _ _ _ h => h) (Or.inr ⟨by rfl,rfl⟩) (by assumption) ?_
     (try simp only [Act.put,HeT.pT])
     refine wpAnyH_ready (rs := [12]) (by kernel_rfl) (by simp) ?_
     refine AllReadyH.cons rfl (fun K hK => ?_) AllReadyH.nil
     go_simp
     refine hK.out _ _ (by assumption) (fun hS => ?_)
     clear hK K
     (try simp only [Act.put,HeT.pT])
     refine wpAnyH_take (i := 13) (v := ?_) rfl (by kernel_rfl) (by kernel_rfl) (by kernel_rfl) (fun _ _ _ h => h) (Or.inl ⟨by rfl, ?_⟩) (by assumption) ?_
     rotate_left
     · intro w' hSw
       (try dsimp only at hSw)
       go_simp
       (try with_reducible rfl)
     (try simp only [Act.put,HeT.pT])
     refine wpAnyH_ready (rs := [14]) (by kernel_rfl) (by simp) ?_
     refine AllReadyH.cons rfl (fun K hK => ?_) AllReadyH.nil
     go_simp
     refine hK.out _ _ (by exact KS.out _ (by repeat (first | with_reducible exact KR.out | with_reducible refine KeepR.set ?_ (by first | (with_reducible rfl) | (simp; done) | omega) _ | with_reducible refine KeepR.drew ?_ | with_reducible refine KeepR.on ?_ (by with_reducible assumption)))) (fun hS => ?_)
     clear hK K
     (try simp only [Act.put,HeT.pT])
     refine wpAnyH_take (i := 15) (v := ?_) rfl (by kernel_rfl) (by kernel_rfl) (by kernel_rfl) (fun _ _ _ h => h) (Or.inl ⟨by rfl, ?_⟩) (by assumption) ?_
     rotate_left
     · intro w' hSw
       (try dsimp only at hSw)
       go_simp
       (try with_reducible rfl)
     (try simp only [Act.put,HeT.pT])
     refine wpAnyH_done (by kernel_rfl) ?_ _
     go_wp2_with fail
     refine bodyPost_ret (v := .tuple #[tlV ⟨b.col,⟨lh,li,lk,ln,ls⟩,⟨hh,hi,hk0,hn,hs⟩⟩, .bool false]) (by simp [results,Tryz.results139,go_sem,tlV,q0,q1,q2,q3,q4,q5,q6,q7,q8,q9,q10]) rfl ⟨HQ.out _ _ rfl (by rw [h1]; rfl),(show KeepR w W4 _ by repeat (first | with_reducible exact KR.out | with_reducible refine KeepR.set ?_ (by first | (with_reducible rfl) | (simp; done) | omega) _ | with_reducible refine KeepR.drew ?_ | with_reducible refine KeepR.on ?_ (by with_reducible assumption))).bel⟩
   · rw [h1] at HIa
     refine wp_region_held_drew (S := fun W => W.cell? ⟨w.heap.size,0,none⟩ = some (.string b.op) /\ W.cell? ⟨w.heap.size,1,none⟩ = some (.int .i64 b.vk) /\ W.cell? ⟨w.heap.size,2,none⟩ = some (.int .i64 b.vn) /\ W.cell? ⟨w.heap.size,3,none⟩ = some (.string b.vs) /\ W.cell? ⟨w.heap.size,4,none⟩ = some (.int .i64 b.var) /\ W.cell? ⟨w.heap.size,5,none⟩ = some (.int .i64 b.col) /\ W.cell? ⟨w.heap.size,6,none⟩ = some (.slice b.a b.kids.length b.c) /\ W.cell? ⟨w.heap.size + 1,0,none⟩ = some (.string a.op) /\ W.cell? ⟨w.heap.size + 1,1,none⟩ = some (.int .i64 a.vk) /\ W.cell? ⟨w.heap.size + 1,2,none⟩ = some (.int .i64 a.vn) /\ W.cell? ⟨w.heap.size + 1,3,none⟩ = some (.string a.vs) /\ W.cell? ⟨w.heap.size + 1,4,none⟩ = some (.int .i64 a.var) /\ W.cell? ⟨w.heap.size + 1,5,none⟩ = some (.int .i64 a.col) /\ W.cell? ⟨w.heap.size + 1,6,none⟩ = some (.slice a.a a.kids.length a.c) /\ W.cell? ⟨w3.heap.size,0,none⟩ = some (.bool lh) /\ W.cell? ⟨w3.heap.size,1,none⟩ = some (.bool li) /\ W.cell? ⟨w3.heap.size,2,none⟩ = some (.int .i64 lk) /\ W.cell? ⟨w3.heap.size,3,none⟩ = some (.int .i64 ln) /\ W.cell? ⟨w3.heap.size,4,none⟩ = some (.string ls) /\ W.cell? ⟨w3.heap.size + 1,0,none⟩ = some (.bool hh) /\ W.cell? ⟨w3.heap.size + 1,1,none⟩ = some (.bool hi) /\ W.cell? ⟨w3.heap.size + 1,2,none⟩ = some (.int .i64 hk0) /\ W.cell? ⟨w3.heap.size + 1,3,none⟩ = some (.int .i64 hn) /\ W.cell? ⟨w3.heap.size + 1,4,none⟩ = some (.string hs)) (by kernel_rfl) (KS.out _ (KeepR.drew KR.out)) (fun hS => ?_)
     refine wpAnyH_take (i := 0) (v := ?_) rfl (by kernel_rfl) (by kernel_rfl) (by kernel_rfl) (fun _ _ _ h => h) (Or.inl ⟨by rfl, ?_⟩) (by assumption) ?_
     rotate_left
     · intro w' hSw
       (try dsimp only at hSw)
       go_simp
       (try with_reducible rfl)
     (try simp only [Act.put,HeT.pT])
     refine wpAnyH_take (i := 1) (v := ?_) rfl (by kernel_rfl) (by kernel_rfl) (by kernel_rfl) (fun _ _ _ h => h) (Or.inl ⟨by rfl, ?_⟩) (by assumption) ?_
     rotate_left
     · intro w' hSw
       (try dsimp only at hSw)
       go_simp
       (try with_reducible rfl)
     (try simp only [Act.put,HeT.pT])
     refine wpAnyH_take (i := 2) (v := ?_) rfl (by kernel_rfl) (by kernel_rfl) (by kernel_rfl) (fun _ _ _ h => h) (Or.inl ⟨by rfl, ?_⟩) (by assumption) ?_
     rotate_left
     · intro w' hSw
       (try dsimp only at hSw)
       go_simp
       (try with_reducible rfl)
     (try simp only [Act.put,HeT.pT])
     refine wpAnyH_take (i := 3) (v := ?_) rfl (by kernel_rfl) (by kernel_rfl) (by kernel_rfl) (fun _ _ _ h => h) (Or.inl ⟨by rfl, ?_⟩) (by assumption) ?_
     rotate_left
     · intro w' hSw
       (try dsimp only at hSw)
       go_simp
       (try with_reducible rfl)
     (try simp only [Act.put,HeT.pT])
     refine wpAnyH_take (i := 4) (v := ?_) rfl (by kernel_rfl) (by kernel_rfl) (by kernel_rfl) (fun _ _ _ h => h) (Or.inl ⟨by rfl, ?_⟩) (by assumption) ?_
     rotate_left
     · intro w' hSw
       (try dsimp only at hSw)
       go_simp
       (try with_reducible rfl)
     (try simp only [Act.put,HeT.pT])
     refine wpAnyH_take (i := 5) (v := ?_) rfl (by kernel_rfl) (by kernel_rfl) (by kernel_rfl) (fun _ _ _ h => h) (Or.inl ⟨by rfl, ?_⟩) (by assumption) ?_
     rotate_left
     · intro w' hSw
       (try dsimp only at hSw)
       go_simp
       (try with_reducible rfl)
     (try simp only [Act.put,HeT.pT])
     refine wpAnyH_take (i := 6) (v := ?_) rfl (by kernel_rfl) (by kernel_rfl) (by kernel_rfl) (fun _ _ _ h => h) (Or.inl ⟨by rfl, ?_⟩) (by assumption) ?_
     rotate_left
     · intro w' hSw
       (try dsimp only at hSw)
       go_simp
       (try with_reducible rfl)
     (try simp only [Act.put,HeT.pT])
     refine wpAnyH_take (i := 7) (v := ?_) rfl (by kernel_rfl) (by kernel_rfl) (by kernel_rfl) (fun _ _ _ h => h) (Or.inl ⟨by rfl, ?_⟩) (by assumption) ?_
     rotate_left
     · intro w' hSw
       (try dsimp only at hSw)
       go_simp
       (try with_reducible rfl)
     (try simp only [Act.put,HeT.pT])
     refine wpAnyH_ready (rs := [8]) (by kernel_rfl) (by simp) ?_
     refine AllReadyH.cons rfl (fun K hK => ?_) AllReadyH.nil
     go_simp
     refine (HIa.out _).mono ?_
     rintro e w5 ⟨rfl,hb5⟩
     have hr_w5 := (hb5.block (w.heap.size + 2) hrz).trans hr0
     have hl_w5 := (Array.getElem?_eq_some_iff.1 hr_w5).1
     have hf_w5 := fun o => frozen_of_row _ _ o _ _ hr_w5
     obtain ⟨q0,q1,q2,q3,q4,q5,q6,q7,q8,q9,q10⟩ := tl_cells (t := tlz) hr_w5
     refine hK.out _ _ (by exact KS.out _ (by repeat (first | with_reducible exact KR.out | with_reducible refine KeepR.set ?_ (by first | (with_reducible rfl) | (simp; done) | omega) _ | with_reducible refine KeepR.drew ?_ | with_reducible refine KeepR.on ?_ (by with_reducible assumption)))) (fun hS => ?_)
     clear hK K
     (try simp only [Act.put,HeT.pT])
     refine wpAnyH_take (i := 9) (v := ?_) rfl (by kernel_rfl) (by kernel_rfl) (by kernel_rfl) (fun _ _ _ h => h) (Or.inl ⟨by rfl, ?_⟩) (by assumption) ?_
     rotate_left
     · intro w' hSw
       (try dsimp only at hSw)
       go_simp
       (try with_reducible rfl)
     (try simp only [Act.put,HeT.pT])
     refine wpAnyH_take (i := 10) (v := ?_) rfl (by kernel_rfl) (by kernel_rfl) (by kernel_rfl) (fun _ _ _ h => h) (Or.inl ⟨by rfl, ?_⟩) (by assumption) ?_
     rotate_left
     · intro w' hSw
       (try dsimp only at hSw)
       go_simp
       (try with_reducible rfl)
     (try simp only [Act.put,HeT.pT])
     refine wpAnyH_take (i := 11) (v := ?_) rfl (by kernel_rfl) (by kernel_rfl) (by kernel_rfl) (fun _ _ _ h => h) (Or.inl ⟨by rfl, ?_⟩) (by assumption) ?_
     rotate_left
     · intro w' hSw
       (try dsimp only at hSw)
       go_simp
       (try with_reducible rfl)
     (try simp only [Act.put,HeT.pT])
     refine wpAnyH_ready (rs := [12]) (by kernel_rfl) (by simp) ?_
     refine AllReadyH.cons rfl (fun K hK => ?_) AllReadyH.nil
     go_simp
     refine (HIk.out _).mono ?_
     rintro e w6 ⟨rfl,hb6⟩
     have hr_w6 := (hb6.block (w.heap.size + 2) hl_w5).trans hr_w5
     have hl_w6 := (Array.getElem?_eq_some_iff.1 hr_w6).1
     have hf_w6 := fun o => frozen_of_row _ _ o _ _ hr_w6
     obtain ⟨q0,q1,q2,q3,q4,q5,q6,q7,q8,q9,q10⟩ := tl_cells (t := tlz) hr_w6
     refine hK.out _ _ (by exact KS.out _ (by repeat (first | with_reducible exact KR.out | with_reducible refine KeepR.set ?_ (by first | (with_reducible rfl) | (simp; done) | omega) _ | with_reducible refine KeepR.drew ?_ | with_reducible refine KeepR.on ?_ (by with_reducible assumption)))) (fun hS => ?_)
     clear hK K
     (try simp only [Act.put,HeT.pT])
     refine wpAnyH_take (i := 13) (v := ?_) rfl (by kernel_rfl) (by kernel_rfl) (by kernel_rfl) (fun _ _ _ h => h) (Or.inl ⟨by rfl, ?_⟩) (by assumption) ?_
     rotate_left
     · intro w' hSw
       (try dsimp only at hSw)
       go_simp
       (try with_reducible rfl)
     (try simp only [Act.put,HeT.pT])
     refine wpAnyH_ready (rs := [14]) (by kernel_rfl) (by simp) ?_
     refine AllReadyH.cons rfl (fun K hK => ?_) AllReadyH.nil
     go_simp
     refine hK.out _ _ (by exact KS.out _ (by repeat (first | with_reducible exact KR.out | with_reducible refine KeepR.set ?_ (by first | (with_reducible rfl) | (simp; done) | omega) _ | with_reducible refine KeepR.drew ?_ | with_reducible refine KeepR.on ?_ (by with_reducible assumption)))) (fun hS => ?_)
     clear hK K
     (try simp only [Act.put,HeT.pT])
     refine wpAnyH_take (i := 15) (v := ?_) rfl (by kernel_rfl) (by kernel_rfl) (by kernel_rfl) (fun _ _ _ h => h) (Or.inl ⟨by rfl, ?_⟩) (by assumption) ?_
     rotate_left
     · intro w' hSw
       (try dsimp only at hSw)
       go_simp
       (try with_reducible rfl)
     (try simp only [Act.put,HeT.pT])
     refine wpAnyH_done (by kernel_rfl) ?_ _
     go_wp2_with fail
     refine bodyPost_ret (v := .tuple #[tlV ⟨b.col,⟨lh,li,lk,ln,ls⟩,⟨hh,hi,hk0,hn,hs⟩⟩, .bool (isKnownN a)]) (by simp [results,Tryz.results139,go_sem,tlV,q0,q1,q2,q3,q4,q5,q6,q7,q8,q9,q10]) rfl ⟨HQ.out _ _ rfl (by rw [h1]; rfl),(show KeepR w W4 _ by repeat (first | with_reducible exact KR.out | with_reducible refine KeepR.set ?_ (by first | (with_reducible rfl) | (simp; done) | omega) _ | with_reducible refine KeepR.drew ?_ | with_reducible refine KeepR.on ?_ (by with_reducible assumption))).bel⟩
end Go.Proofs.YteibhbnlcpejpaaGreat
