import Derived.Deep.RegionHeld
import Derived.Lib.LazyBuf
import Derived.Test.YtdnkbdjhccckhaaGreatMAG
set_option maxRecDepth 100000
set_option maxHeartbeats 4000000
namespace Go.Proofs.YtdnkbdjhccckhaaGreat.L5
open Go.RowKit
theorem append_row {ops: Array Oper} {rest: List Oper} {o: Oper} {a: Act} {Q: Exit -> Act -> World -> Prop} {W1: World} {t e: TypeId} {z: Value} {by_: Nat} (ht: Tryz.prog.underlying t = some (.slice e)) (hinfo: (Tryz.prog.info? e).map (fun i => (i.zero,i.size,i.bytes)) = some (some z,1,by_)) (hby: by_ <= 16) (hzs: z.cells.size = 1) (base: Nat) (hbase: base <= W1.heap.size) (hgd: o.guard = none) (s x: Operand) (ho: o.op = .call { callee := .builtin .append,args := #[s,x],argTypes := #[t,t] })
 (v: Value) (n: Nat) (ys: List Value) (xs: List Value) (hs: a.eval s = v) (h: W1.ownsRow base e 1 v n ys) (hn: n <= 1000000) (m: Nat) (hm: m <= 1000000) (ad: Addr) (cap: Nat) (hx: a.eval x = .slice (some ad) m cap) (hl: xs.length = m) (hc: ∀ j u,xs[j]? = some u -> W1.cell? (ad.add j) = some u) (h1: ∀ u ∈ xs,u.oneCell' = true)
 (hK: ∀ v' W',W'.ownsRow base e 1 v' (n + m) (ys ++ xs) -> W1.grownBy W' v.ownBlock -> (∀ k,v'.ownBlock = some k -> v.ownBlock = some k \/ W1.heap.size <= k) -> wpList Tryz.prog ops Q rest (a.put o.dst v') W'): wpList Tryz.prog ops Q (o :: rest) a W1 := by
 obtain ⟨i,hi,hz⟩ := Option.map_eq_some_iff.1 hinfo
 simp only [Prod.mk.injEq] at hz
 obtain ⟨h3,h4,h5⟩ := hz
 have hby2: (n + m) * by_ <= 140737488355328 := by
  have := Nat.mul_le_mul (show n + m <= 2000000 by omega) hby
  omega
 refine wpList_append_own_at (P := Tryz.prog) W1 hgd s x t ho base e i z 1 by_ ht hi h3 h4 h5 hzs (by decide) v n ys hs h ad m cap xs hx (by omega) hc h1 (by unfold maxLen; omega) hby2 hbase (fun v' W' hown hg _ hat => ?_)
 refine hK v' W' hown hg fun k hk => ?_
 rcases hat with hat | hat
 · rw [hat] at hk; exact Or.inl hk
 · rw [hat] at hk; cases hk; exact Or.inr (Nat.le_refl _)
theorem one_svs (l: List ByteArray): ∀ u ∈ svs l,u.oneCell' = true := by
 intro u hu
 obtain ⟨x,_,rfl⟩ := List.mem_map.1 hu
 rfl
theorem one_ivs (l: List Int): ∀ u ∈ ivs l,u.oneCell' = true := by
 intro u hu
 obtain ⟨x,_,rfl⟩ := List.mem_map.1 hu
 rfl
theorem Rd.cells {W: World} {b o c: Nat} {l: List Value} (h: Rd W (some ⟨b,o,none⟩) c l): ∀ j u,l[j]? = some u -> W.cell? ((⟨b,o,none⟩: Addr).add j) = some u := fun j u hj => by
 obtain ⟨b',o',e,_,hc⟩ := h.2.2 j u hj
 cases e
 rw [show (⟨b,o,none⟩: Addr).add j = ⟨b,o + j,none⟩ by unfold Addr.add; split <;> simp_all]
 exact hc
theorem owns_nil_lit (w: World) (e: TypeId): World.ownsRow (w.alloc (.cells #[] e)) w.heap.size e 1 (.slice (some ⟨w.heap.size,0,none⟩) 0 0) 0 [] :=
 World.ownsRow_lit (base := w.heap.size) (e := e) (size := 1) w #[] 0 (Nat.le_refl _) (by unfold maxLen; omega) (by simp)
theorem clone_str {w: World} {b o m cap: Nat} {l: List ByteArray} (h: Rd w (some ⟨b,o,none⟩) cap (svs l)) (hl: l.length = m) (hm: m <= 1000000): Calls Tryz.prog 126 #[.slice (some ⟨b,o,none⟩) m cap] w fun e w' => ∃ v,e = .returned v /\ w'.ownsRow w.heap.size 9 1 v m (svs l) /\ Below w.heap.size w w' := by
 have HC: Hid (∀ j u,(svs l)[j]? = some u -> (w.alloc (.cells #[] 9)).cell? ((⟨b,o,none⟩: Addr).add j) = some u) := (h.below (below_alloc _ _)).cells
 have HO: Hid (World.ownsRow (w.alloc (.cells #[] 9)) w.heap.size 9 1 (.slice (some ⟨w.heap.size,0,none⟩) 0 0) 0 []) := owns_nil_lit w _
 have heq: ∀ w: World,(binOp .eql 33 (.slice (some ⟨b,o,none⟩) m cap) (.slice none 0 0)).run Tryz.prog w = .ok (.bool false) w := fun w => run_eql_slice_nil w 33 9 (some ⟨b,o,none⟩) m cap Tryz.underlying33
 go_enter Tryz.func126,Tryz.ntmps126
 go_wp2_with (first
  | (at_builtin
     refine append_row (z := .string ⟨#[]⟩) (by_ := 16) Tryz.underlying33 (by kernel_rfl) (by decide) rfl w.heap.size (by simp) rfl _ _ rfl (.slice (some ⟨w.heap.size,0,none⟩) 0 0) 0 [] (svs l) rfl HO.out (by omega) m hm ⟨b,o,none⟩ cap rfl (by rw [svs_length,hl]) HC.out (one_svs l) ?_
     intro v' W' hown hg _
     have HO2: Hid (W'.ownsRow w.heap.size 9 1 v' m (svs l)) := (by rw [Nat.zero_add,List.nil_append] at hown; exact hown)
     have HB: Hid (Below w.heap.size w W') := (below_alloc w _).grown hg (by simp) (fun k hk => by simp [Value.ownBlock] at hk; omega)
     clear hown hg)
  | go_in)
 go_ret
 exact ⟨_,rfl,HO2.out,HB.out⟩
theorem clone_int {w: World} {b o m cap: Nat} {l: List Int} (h: Rd w (some ⟨b,o,none⟩) cap (ivs l)) (hl: l.length = m) (hm: m <= 1000000): Calls Tryz.prog 57 #[.slice (some ⟨b,o,none⟩) m cap] w fun e w' => ∃ v,e = .returned v /\ w'.ownsRow w.heap.size 3 1 v m (ivs l) /\ Below w.heap.size w w' := by
 have HC: Hid (∀ j u,(ivs l)[j]? = some u -> (w.alloc (.cells #[] 3)).cell? ((⟨b,o,none⟩: Addr).add j) = some u) := (h.below (below_alloc _ _)).cells
 have HO: Hid (World.ownsRow (w.alloc (.cells #[] 3)) w.heap.size 3 1 (.slice (some ⟨w.heap.size,0,none⟩) 0 0) 0 []) := owns_nil_lit w _
 have heq: ∀ w: World,(binOp .eql 55 (.slice (some ⟨b,o,none⟩) m cap) (.slice none 0 0)).run Tryz.prog w = .ok (.bool false) w := fun w => run_eql_slice_nil w 55 3 (some ⟨b,o,none⟩) m cap Tryz.underlying55
 go_enter Tryz.func57,Tryz.ntmps57
 go_wp2_with (first
  | (at_builtin
     refine append_row (z := .int .i64 0) (by_ := 8) Tryz.underlying55 (by kernel_rfl) (by decide) rfl w.heap.size (by simp) rfl _ _ rfl (.slice (some ⟨w.heap.size,0,none⟩) 0 0) 0 [] (ivs l) rfl HO.out (by omega) m hm ⟨b,o,none⟩ cap rfl (by rw [ivs_length,hl]) HC.out (one_ivs l) ?_
     intro v' W' hown hg _
     have HO2: Hid (W'.ownsRow w.heap.size 3 1 v' m (ivs l)) := (by rw [Nat.zero_add,List.nil_append] at hown; exact hown)
     have HB: Hid (Below w.heap.size w W') := (below_alloc w _).grown hg (by simp) (fun k hk => by simp [Value.ownBlock] at hk; omega)
     clear hown hg)
  | go_in)
 go_ret
 exact ⟨_,rfl,HO2.out,HB.out⟩
theorem owns_rd {W: World} {b: Nat} {e: TypeId} {v: Value} {n: Nat} {xs: List Value} (h: W.ownsRow b e 1 v n xs): ∃ a cap,v = .slice a n cap /\ Rd W a cap xs /\ n <= cap /\ cap <= maxLen := by
 have hx: xs.length = n := by have := h.1; omega
 have h' := h
 rcases h.2 with ⟨rfl,h0⟩ | ⟨g,cap,cur,rfl,hb,hgg,h1,h2,h3,h4⟩
 · exact ⟨none,0,by rw [h0],⟨by omega,by unfold maxLen; omega,fun j u hj => by have := (List.getElem?_eq_some_iff.1 hj).1; omega⟩,by omega,by unfold maxLen; omega⟩
 · refine ⟨_,cap,rfl,⟨by omega,h2,fun j u hj => ⟨g,0,rfl,(Array.getElem?_eq_some_iff.1 hgg).1, ?_⟩⟩,h1,h2⟩
   have hlt := (List.getElem?_eq_some_iff.1 hj).1
   rw [Nat.zero_add,World.ownsRow.cellAt h' j (by omega)]
   exact hj
theorem owns_base {b b': Nat} {W: World} {e: TypeId} {v: Value} {n: Nat} {xs: List Value} (h: W.ownsRow b e 1 v n xs) (hb: b' <= b): W.ownsRow b' e 1 v n xs := by
 refine ⟨h.1, ?_⟩
 rcases h.2 with hn | ⟨g,cap,cur,rfl,h1,rest⟩
 · exact .inl hn
 · exact .inr ⟨g,cap,cur,rfl,by omega,rest⟩
structure Halves (w: World) (x y: No) (r1 k1 r2 k2: Value) (W: World): Prop where
 a1: W.ownsRow w.heap.size 9 1 r1 x.recs.length (svs x.recs)
 a2: W.ownsRow w.heap.size 3 1 k1 x.kids.length (ivs x.kids)
 b1: W.ownsRow w.heap.size 9 1 r2 y.recs.length (svs y.recs)
 b2: W.ownsRow w.heap.size 3 1 k2 y.kids.length (ivs y.kids)
 ap1: ∀ g,r1.ownBlock = some g -> r2.ownBlock ≠ some g
 ap2: ∀ g,k1.ownBlock = some g -> k2.ownBlock ≠ some g
 below: Below w.heap.size w W
def leafL (n: No) (k: Nat): No := ⟨true,n.recs.take k,[]⟩
def leafR (n: No) (k: Nat): No := ⟨true,n.recs.drop k,[]⟩
def zNode: Obj := .cells #[.bool false, .slice none 0 0, .slice none 0 0] 69 (0,0)
structure SW (w: World) (n: No) (a: Option Addr) (c: Nat) (a': Option Addr) (c': Nat) (wr: World): Prop where
 bx: Bx w n a c a' c' wr
 z2: wr.heap[w.heap.size + 1]? = some zNode
 z4: wr.heap[w.heap.size + 2]? = some zNode
theorem SW.on {w: World} {n: No} {a: Option Addr} {c: Nat} {a': Option Addr} {c': Nat} {wr wr': World} (h: SW w n a c a' c' wr) (hb: Below wr.heap.size wr wr'): SW w n a c a' c' wr' :=
 ⟨h.bx.on hb,(hb.block _ (Array.getElem?_eq_some_iff.1 h.z2).1).trans h.z2,(hb.block _ (Array.getElem?_eq_some_iff.1 h.z4).1).trans h.z4⟩
theorem SW.new (w: World) (n: No) (a: Option Addr) (c: Nat) (a': Option Addr) (c': Nat): SW w n a c a' c' (((w.alloc (.cells #[.bool n.leaf, .slice a n.recs.length c, .slice a' n.kids.length c'] 69)).alloc zNode).alloc zNode) := by
 have z1: (w.alloc (.cells #[.bool n.leaf, .slice a n.recs.length c, .slice a' n.kids.length c'] 69)).heap.size = w.heap.size + 1 := by simp
 have z2: ((w.alloc (.cells #[.bool n.leaf, .slice a n.recs.length c, .slice a' n.kids.length c'] 69)).alloc zNode).heap.size = w.heap.size + 2 := by simp
 have B2 := below_alloc (w.alloc (.cells #[.bool n.leaf, .slice a n.recs.length c, .slice a' n.kids.length c'] 69)) zNode
 have B3 := below_alloc ((w.alloc (.cells #[.bool n.leaf, .slice a n.recs.length c, .slice a' n.kids.length c'] 69)).alloc zNode) zNode
 refine ⟨((Bx.new w n a c a' c' 69).on B2).on B3, ?_, ?_⟩
 · rw [B3.block _ (by omega), <- z1]; exact heap_alloc_last _ _
 · rw [<- z2]; exact heap_alloc_last _ _
theorem owns_node {W: World} {B: Nat} {e: TypeId} {v: Value} {n: Nat} {xs: List Value} (h: W.ownsRow B e 1 v n xs) (he: e ≠ 69) {p: Nat} {cs: Array Value} (hp: W.heap[p]? = some (.cells cs 69 (0,0))) (i: Nat) (u: Value): (W.setCell ⟨p,i,none⟩ u).ownsRow B e 1 v n xs :=
 owns_of_block h fun k hk => heap_setCell_other _ _ _ _ fun (ek: k = p) => by
  obtain ⟨cur,ht⟩ := owns_tag h hk
  rw [ek,hp] at ht
  simp only [Option.some.injEq,Obj.cells.injEq] at ht
  exact he ht.2.1.symm
def put3 (W: World) (p: Nat) (x y z: Value): World := ((W.setCell ⟨p,0,none⟩ x).setCell ⟨p,1,none⟩ y).setCell ⟨p,2,none⟩ z
theorem put3_block {W: World} {p: Nat} {u v t: Value} (hp: W.heap[p]? = some (.cells #[u,v,t] 69 (0,0))) (x y z: Value): (put3 W p x y z).heap[p]? = some (.cells #[x,y,z] 69 (0,0)) := by
 unfold put3
 have h1 := heap_setCell_same W p 0 _ _ x hp
 have h2 := heap_setCell_same _ p 1 _ _ y h1
 have h3 := heap_setCell_same _ p 2 _ _ z h2
 exact h3
theorem put3_other {W: World} {p k: Nat} (hk: k ≠ p) (x y z: Value): (put3 W p x y z).heap[k]? = W.heap[k]? := by
 unfold put3
 rw [heap_setCell_other _ _ _ _ hk,heap_setCell_other _ _ _ _ hk,heap_setCell_other _ _ _ _ hk]
theorem put3_below {B: Nat} {a W: World} {p: Nat} (h: Below B a W) (hp: B <= p) (x y z: Value): Below B a (put3 W p x y z) := ((h.setCell hp x).setCell hp y).setCell hp z
theorem owns_put3 {W: World} {B: Nat} {e: TypeId} {v: Value} {n: Nat} {xs: List Value} (h: W.ownsRow B e 1 v n xs) (he: e ≠ 69) {p: Nat} {cs: Array Value} (hp: W.heap[p]? = some (.cells cs 69 (0,0))) (x y z: Value): (put3 W p x y z).ownsRow B e 1 v n xs :=
 owns_of_block h fun k hk => put3_other (fun ek => by
  obtain ⟨cur,ht⟩ := owns_tag h hk
  rw [ek,hp] at ht
  simp only [Option.some.injEq,Obj.cells.injEq] at ht
  exact he ht.2.1.symm) x y z
theorem Halves.put3 {w W: World} {x y: No} {r1 k1 r2 k2: Value} (h: Halves w x y r1 k1 r2 k2 W) {p: Nat} {cs: Array Value} (hp: W.heap[p]? = some (.cells cs 69 (0,0))) (hw: w.heap.size <= p) (u v t: Value): Halves w x y r1 k1 r2 k2 (put3 W p u v t) :=
 ⟨owns_put3 h.a1 (by decide) hp _ _ _,owns_put3 h.a2 (by decide) hp _ _ _,owns_put3 h.b1 (by decide) hp _ _ _,owns_put3 h.b2 (by decide) hp _ _ _,h.ap1,h.ap2,put3_below h.below hw _ _ _⟩
theorem node_cells {W: World} {p: Nat} {x y z: Value} {t: TypeId} (h: W.heap[p]? = some (.cells #[x,y,z] t (0,0))): W.cell? ⟨p,0,none⟩ = some x /\ W.cell? ⟨p,1,none⟩ = some y /\ W.cell? ⟨p,2,none⟩ = some z := by
 refine ⟨?_, ?_, ?_⟩ <;> rw [cell_of_row _ _ _ _ _ _ h] <;> rfl
theorem to_letter {p F: World -> Prop} {W0: World} (h: F W0) (k: ∀ W,F W -> p W): p W0 := k W0 h
def Out (w: World) (x y: No) (u v: Value) (r1 k1 r2 k2: Value) (W: World): Prop :=
 W.cell? ⟨w.heap.size + 1,0,none⟩ = some u /\ W.cell? ⟨w.heap.size + 1,1,none⟩ = some r1 /\ W.cell? ⟨w.heap.size + 1,2,none⟩ = some k1 /\ W.cell? ⟨w.heap.size + 2,0,none⟩ = some v /\ W.cell? ⟨w.heap.size + 2,1,none⟩ = some r2 /\ W.cell? ⟨w.heap.size + 2,2,none⟩ = some k2 /\ Halves w x y r1 k1 r2 k2 W
theorem split_end {w W: World} {x y: No} {r1 k1 r2 k2: Value} (z2: W.heap[w.heap.size + 1]? = some zNode) (z4: W.heap[w.heap.size + 2]? = some zNode) (h: Halves w x y r1 k1 r2 k2 W) (u v: Value) :
 Out w x y u v r1 k1 r2 k2 (put3 (put3 W (w.heap.size + 1) u r1 k1) (w.heap.size + 2) v r2 k2).drew := by
 have b2 := put3_block z2 u r1 k1
 have b4: (put3 W (w.heap.size + 1) u r1 k1).heap[w.heap.size + 2]? = some zNode := by rw [put3_other (by omega)]; exact z4
 have d4 := put3_block b4 v r2 k2
 have d2: (put3 (put3 W (w.heap.size + 1) u r1 k1) (w.heap.size + 2) v r2 k2).heap[w.heap.size + 1]? = some (.cells #[u,r1,k1] 69 (0,0)) := by rw [put3_other (by omega)]; exact b2
 have h1 := (h.put3 z2 (by omega) u r1 k1).put3 b4 (by omega) v r2 k2
 generalize put3 (put3 W (w.heap.size + 1) u r1 k1) (w.heap.size + 2) v r2 k2 = X at *
 have n2 := node_cells (W := X.drew) d2
 have n4 := node_cells (W := X.drew) d4
 exact ⟨n2.1,n2.2.1,n2.2.2,n4.1,n4.2.1,n4.2.2,h1.a1,h1.a2,h1.b1,h1.b2,h1.ap1,h1.ap2,h1.below.drew⟩
theorem set_far {p q: Nat} (h: q ≠ p): ∀ (W: World) (o: Nat) (u: Value) (o': Nat),(W.setCell ⟨p,o,none⟩ u).cell? ⟨q,o',none⟩ = W.cell? ⟨q,o',none⟩ := fun _ _ _ _ => World.cell?_of_block (heap_setCell_other _ _ _ _ h)
theorem splitLeaf_walk {n: No} {a: Option Addr} {c: Nat} {a': Option Addr} {c': Nat} {w: World} (hr: NR w n a c a' c') (hs: n.small) (hlf: n.leaf = true) (h2: 2 <= n.recs.length) (k: Nat) (hk: k = cutN 4 0 n.recs) (s: ByteArray) (hsk: n.recs[k]? = some s) :
 Calls Tryz.prog 103 #[nodeV n a c a' c'] w fun e w' => ∃ r1 k1 r2 k2,e = .returned (.tuple #[.agg #[.bool true,r1,k1], .string s, .agg #[.bool true,r2,k2]]) /\ Halves w (leafL n k) (leafR n k) r1 k1 r2 k2 w' := by
 have h1 := hs.recs
 obtain ⟨kl,kr⟩ := cutN_le 4 0 n.recs (by omega)
 rw [<- hk] at kl kr
 have HKC: Hid (k = cutN 4 0 n.recs) := hk
 clear hk
 obtain ⟨b,o,rfl,hb,hc⟩ := hr.recs.2.2 k (.string s) (by simp [svs,hsk])
 have hcap: n.recs.length <= c := by have := hr.recs.1; rwa [svs_length] at this
 have hcm := hr.recs.2.1
 unfold maxLen at hcm
 have HN: Hid (SW w n (some ⟨b,o,none⟩) c a' c' (((w.alloc (.cells #[.bool n.leaf, .slice (some ⟨b,o,none⟩) n.recs.length c, .slice a' n.kids.length c'] 69)).alloc (.cells #[.bool false, .slice none 0 0, .slice none 0 0] 69)).alloc (.cells #[.bool false, .slice none 0 0, .slice none 0 0] 69))) := SW.new _ _ _ _ _ _
 have HR: Hid (NR w n (some ⟨b,o,none⟩) c a' c') := hr
 have HTK: Hid (Rd w (some ⟨b,o,none⟩) c (svs (n.recs.take k))) := by have := hr.recs.take k; unfold svs at this ⊢; rwa [<- List.map_take] at this
 have HDK: Hid (Rd w (some ⟨b,o + k,none⟩) (c - k) (svs (n.recs.drop k))) := by have := hr.recs.drop k; unfold svs at this ⊢; rwa [<- List.map_drop] at this
 clear hr
 go_enter Tryz.func103,Tryz.ntmps103
 unfold nodeV
 rw [hlf] at HN ⊢
 go_wp2_with fail
 generalize ((w.alloc (.cells #[.bool true, .slice (some ⟨b,o,none⟩) n.recs.length c, .slice a' n.kids.length c'] 69)).alloc (.cells #[.bool false, .slice none 0 0, .slice none 0 0] 69)).alloc (.cells #[.bool false, .slice none 0 0, .slice none 0 0] 69) = W0 at *
 refine (middle_walk (HR.out.recs.below HN.out.bx.below) 4 0 (by decide) (by decide) h1 (by omega) hs.each).mono ?_
 rintro e w1 ⟨rfl,B1⟩
 rw [<- HKC.out]
 have HN1: Hid (SW w n (some ⟨b,o,none⟩) c a' c' w1) := HN.out.on B1
 clear HN B1
 have c1 := HN1.out.bx.c1
 have xl := HN1.out.bx.lt
 have hkc: ((k: Nat): Int) <= (c: Int) := by omega
 go_wp2_with fail
 refine (clone_str (HTK.out.below HN1.out.bx.below) (by simp; omega) (by omega)).mono ?_
 rintro e w2 ⟨r1,rfl,O1,B2⟩
 obtain ⟨x1,q1,rfl,_,_,_⟩ := owns_rd O1
 have HN2: Hid (SW w n (some ⟨b,o,none⟩) c a' c' (w2.alloc (.cells #[.bool true, .slice x1 k q1, .slice none 0 0] 69))) := (HN1.out.on B2).on (below_alloc _ _)
 have HO1: Hid ((w2.alloc (.cells #[.bool true, .slice x1 k q1, .slice none 0 0] 69)).ownsRow w.heap.size 9 1 (.slice x1 k q1) k (svs (n.recs.take k))) := owns_base (owns_below O1 (below_alloc _ _)) (Nat.le_of_lt xl)
 have P6: Hid ((w2.alloc (.cells #[.bool true, .slice x1 k q1, .slice none 0 0] 69)).heap[w2.heap.size]? = some (.cells #[.bool true, .slice x1 k q1, .slice none 0 0] 69 (0,0))) := heap_alloc_last _ _
 have hz6: w.heap.size + 2 < w2.heap.size := (Array.getElem?_eq_some_iff.1 (HN1.out.on B2).z4).1
 clear O1 B2 HN1 c1 xl
 have c1 := HN2.out.bx.c1
 have xl := HN2.out.bx.lt
 have hki: (k: Int) <= (n.recs.length: Int) := by omega
 have hnc: (n.recs.length: Int) <= (c: Int) := by omega
 have hck: ¬ c - k = 0 := by omega
 have hck2: ¬ c = k := by omega
 go_wp2_with fail
 generalize w2.heap.size = p6 at *
 generalize w2.alloc (.cells #[.bool true, .slice x1 k q1, .slice none 0 0] 69) = W2 at *
 refine (clone_str (HDK.out.below HN2.out.bx.below) (by simp) (by omega)).mono ?_
 rintro e w3 ⟨r2,rfl,O2,B3⟩
 obtain ⟨x2,q2,rfl,_,_,_⟩ := owns_rd O2
 have B4 := below_alloc w3 (.cells #[.bool true, .slice x2 (n.recs.length - k) q2, .slice none 0 0] 69)
 have B5 := below_on B3 B4
 have HN3: Hid (SW w n (some ⟨b,o,none⟩) c a' c' (w3.alloc (.cells #[.bool true, .slice x2 (n.recs.length - k) q2, .slice none 0 0] 69))) := HN2.out.on B5
 have HO3: Hid (Halves w (leafL n k) (leafR n k) (.slice x1 k q1) (.slice none 0 0) (.slice x2 (n.recs.length - k) q2) (.slice none 0 0) (w3.alloc (.cells #[.bool true, .slice x2 (n.recs.length - k) q2, .slice none 0 0] 69))) := by
  refine ⟨?_,World.ownsRow_nil _ _ _ _, ?_,World.ownsRow_nil _ _ _ _,fun g hg hg2 => ?_,fun g hg => by simp [Value.ownBlock] at hg,HN3.out.bx.below⟩
  · have := owns_below HO1.out B5
    simpa [leafL,Nat.min_eq_left (show k <= n.recs.length by omega)] using this
  · have := owns_base (owns_below O2 B4) (Nat.le_of_lt xl)
    simpa [leafR] using this
  · have h3 := (HO1.out.lt g hg).2
    have h4 := (O2.lt g hg2).1
    omega
 have P7: Hid ((w3.alloc (.cells #[.bool true, .slice x2 (n.recs.length - k) q2, .slice none 0 0] 69)).heap[w3.heap.size]? = some (.cells #[.bool true, .slice x2 (n.recs.length - k) q2, .slice none 0 0] 69 (0,0))) := heap_alloc_last _ _
 have P6': Hid ((w3.alloc (.cells #[.bool true, .slice x2 (n.recs.length - k) q2, .slice none 0 0] 69)).heap[p6]? = some (.cells #[.bool true, .slice x1 k q1, .slice none 0 0] 69 (0,0))) := (B5.block p6 (Array.getElem?_eq_some_iff.1 P6.out).1).trans P6.out
 have hz7: w.heap.size + 2 < w3.heap.size := (Array.getElem?_eq_some_iff.1 (HN2.out.on B3).z4).1
 clear O2 B3 B4 B5 HN2 HO1 P6 c1 xl
 go_wp2_with fail
 generalize w3.heap.size = p7 at *
 generalize w3.alloc (.cells #[.bool true, .slice x2 (n.recs.length - k) q2, .slice none 0 0] 69) = W3 at *
 obtain ⟨l60,l61,l62⟩ := node_cells P6'.out
 obtain ⟨l70,l71,l72⟩ := node_cells P7.out
 obtain ⟨l20,l21,l22⟩ := node_cells HN3.out.z2
 obtain ⟨l40,l41,l42⟩ := node_cells HN3.out.z4
 have f2: ∀ i,W3.frozen? ⟨w.heap.size + 1,i,none⟩ = false := fun i => frozen_of_row _ _ _ _ _ HN3.out.z2
 have f4: ∀ i,W3.frozen? ⟨w.heap.size + 2,i,none⟩ = false := fun i => frozen_of_row _ _ _ _ _ HN3.out.z4
 have c1 := HN3.out.bx.c1
 have cb: W3.cell? ⟨b,o + k,none⟩ = some (.string s) := by rw [HN3.out.bx.below.cell hb]; exact hc
 have hkl: (k: Int) < (n.recs.length: Int) := by omega
 have e1 := set_far (p := w.heap.size + 1) (q := p6) (by omega)
 have e2 := set_far (p := w.heap.size + 1) (q := p7) (by omega)
 have e3 := set_far (p := w.heap.size + 1) (q := w.heap.size) (by omega)
 have e4 := set_far (p := w.heap.size + 1) (q := b) (by omega)
 have e5 := set_far (p := w.heap.size + 2) (q := p6) (by omega)
 have e6 := set_far (p := w.heap.size + 2) (q := p7) (by omega)
 have e7 := set_far (p := w.heap.size + 2) (q := w.heap.size) (by omega)
 have e8 := set_far (p := w.heap.size + 2) (q := b) (by omega)
 have e9 := set_far (p := w.heap.size + 1) (q := w.heap.size + 2) (by omega)
 go_region_held (fun w' => w'.cell? ⟨p6,0,none⟩ = some (.bool true) /\ w'.cell? ⟨p6,1,none⟩ = some (.slice x1 k q1) /\ w'.cell? ⟨p6,2,none⟩ = some (.slice none 0 0) /\ w'.cell? ⟨p7,0,none⟩ = some (.bool true) /\ w'.cell? ⟨p7,1,none⟩ = some (.slice x2 (n.recs.length - k) q2) /\ w'.cell? ⟨p7,2,none⟩ = some (.slice none 0 0) /\ w'.cell? ⟨w.heap.size,1,none⟩ = some (.slice (some ⟨b,o,none⟩) n.recs.length c) /\ w'.cell? ⟨b,o + k,none⟩ = some (.string s)) (simp [*]) (fail)
 refine to_letter (split_end (HN3.out.z2) (HN3.out.z4) HO3.out (.bool true) (.bool true)) ?_
 clear l60 l61 l62 l70 l71 l72 l20 l21 l22 l40 l41 l42 f2 f4 c1 cb e1 e2 e3 e4 e5 e6 e7 e8 e9 HN3 HO3 P6' P7
 intro Wf hF
 obtain ⟨g20,g21,g22,g40,g41,g42,hF⟩ := hF
 have HF: Hid _ := hF
 clear hF
 go_wp2
 refine bodyPost_ret (v := .tuple #[.agg #[.bool true, .slice x1 k q1, .slice none 0 0], .string s, .agg #[.bool true, .slice x2 (n.recs.length - k) q2, .slice none 0 0]]) ?_ rfl ?_
 · simp [results,Tryz.results103,go_sem,g20,g21,g22,g40,g41,g42]
 · exact ⟨_,_,_,_,rfl,HF.out⟩
end Go.Proofs.YtdnkbdjhccckhaaGreat.L5
