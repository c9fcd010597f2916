import Derived.Maps.RangeRun
import Derived.Sort.OwnSortedInts
import Derived.Maps.RangeWalk
import Derived.Test.YteibhbnlcpejpaaGreatMBK
import Derived.Test.YteibhbnlcpejpaaGreatMBL
import Derived.Test.YteibhbnlcpejpaaGreatMBM
set_option maxRecDepth 100000
set_option maxHeartbeats 4000000
namespace Go.Proofs.YteibhbnlcpejpaaGreat
open Go.RowKit
open Go.ChangeMaps (setBlock)
def intC (n: Int): List Value := [.int .i64 n]
theorem intC_len (n: Int): (intC n).length = 1 := rfl
theorem intC_one (n: Int): ∀ u ∈ intC n,u.oneCell' = true := by
 intro u hu
 simp only [intC,List.mem_cons,List.not_mem_nil,or_false] at hu
 subst hu; rfl
theorem flat_int (l: List Int): Rw.flat intC l = l.map (Value.int .i64) := by
 induction l with
 | nil => rfl
 | cons x l ih => rw [Rw.flat_cons,ih]; rfl
def metL (r: RowL) (L: List EntL): List Int := (L.filter fun x => meetsC 30 r x.2.1.ts x.2.1.l).map fun x => x.1
def MatchP (r: RowL) (L: List EntL) (w: World) (e: Ending) (W: World): Prop := ∃ a c,e = .returned (.slice a (metL r L).length c) /\ Rw.SlG intC 1 W a ((metL r L).mergeSort fun x y => decide (x <= y)) /\ (∀ q,a = some q -> w.heap.size <= q.block) /\ Below w.heap.size w W
theorem infoIn: (Tryz.prog.info? 3).map (fun i => (i.zero,i.size,i.bytes)) = some (some (.int .i64 0),1,8) := by kernel_rfl
structure RgM (w: World) (m: Nat) (r: RowL) (L: List EntL) (clock: Nat) (seen: Array Nat) (v: Value) (l: List Int) (W: World): Prop where
 bel: Below w.heap.size w W
 it: ∃ c0,W.heap[w.heap.size]? = some (.mapIter (some m) clock seen c0) /\ clock <= c0
 own: W.ownsRow (w.heap.size + 1) 3 1 v l.length (Rw.flat intC l)
 mem: l.Perm ((L.filter fun x => seen.contains x.2.2 && meetsC 30 r x.2.1.ts x.2.1.l).map fun x => x.1)
structure RgN (w: World) (m: Nat) (L: List EntL) (clock: Nat) (seen: Array Nat) (v: Value) (l: List Int) (W: World): Prop where
 bel: Below w.heap.size w W
 it: W.heap[w.heap.size]? = some (.mapIter (some m) clock seen clock)
 own: W.ownsRow (w.heap.size + 1) 3 1 v l.length (Rw.flat intC l)
theorem RgM.next {w W W2: World} {m: Nat} {r: RowL} {L: List EntL} {clock: Nat} {seen s': Array Nat} {v: Value} {l: List Int} (h: RgM w m r L clock seen v l W) (hw: W2 = W \/ W2 = W.drew) (_hm: m < w.heap.size) (_hM: MapAt Tryz.prog 3 W m (L.map entM) clock): RgN w m L clock s' v l (setBlock W2 w.heap.size (.mapIter (some m) clock s' clock)) := by
 obtain ⟨c0,hi,_⟩ := h.it
 have hh: W2.heap = W.heap := by rcases hw with rfl | rfl <;> rfl
 have hi2: W2.heap[w.heap.size]? = some (.mapIter (some m) clock seen c0) := by rw [hh]; exact hi
 have hb2: Below w.heap.size w W2 := by rcases hw with rfl | rfl; exact h.bel; exact h.bel.drew
 have hlt := (Array.getElem?_eq_some_iff.1 hi2).1
 refine ⟨⟨hb2.os,hb2.tape,hb2.output,by simpa [setBlock] using hb2.size,fun q hq => (set_other hi2 (by omega)).trans (hb2.block q hq)⟩, ?_,Rw.owns_below h.own fun q hq => ?_⟩
 · show (W2.heap.set! w.heap.size _)[w.heap.size]? = _
   simp [hlt]
 · have := (h.own.lt q hq).1
   exact (set_other hi2 (by omega)).trans (by rw [hh])
theorem RgN.on {w W U: World} {m: Nat} {L: List EntL} {clock: Nat} {seen: Array Nat} {v: Value} {l: List Int} (h: RgN w m L clock seen v l W) (hb: Below W.heap.size W U): RgN w m L clock seen v l U :=
 ⟨h.bel.trans (hb.mono h.bel.size),(hb.block _ (Array.getElem?_eq_some_iff.1 h.it).1).trans h.it,Rw.owns_on h.own hb⟩
theorem RgN.keep {w W: World} {m: Nat} {r: RowL} {L: List EntL} {clock: Nat} {seen: Array Nat} {v: Value} {l l2: List Int} {id: Int} {k: CondL} {born: Nat} (h: RgN w m L clock (seen.push born) v l2 W) (hb: ((L.map entM).map fun e => e.born).Nodup) (hx: (id,k,born) ∈ L) (hs: seen.contains born = false)
 (hm: l.Perm ((L.filter fun x => seen.contains x.2.2 && meetsC 30 r x.2.1.ts x.2.1.l).map fun x => x.1)) (hl: (meetsC 30 r k.ts k.l = false /\ l2 = l) \/ (meetsC 30 r k.ts k.l = true /\ l2 = l ++ [id])): RgM w m r L clock (seen.push born) v l2 W := by
 refine ⟨h.bel,⟨clock,h.it,Nat.le_refl _⟩,h.own, ?_⟩
 have hb': (L.map fun y => y.2.2).Nodup := by rw [List.map_map] at hb; exact hb
 have hp := filt_push hb' hx (s := fun b => seen.contains b) (s' := fun b => (seen.push born).contains b) (fun b => by rw [Bool.eq_iff_iff]; simp) hs (fun y => meetsC 30 r y.2.1.ts y.2.1.l)
 have hp2 := hp.map (fun x => x.1)
 refine List.Perm.trans ?_ hp2.symm
 rw [List.map_append]
 rcases hl with ⟨h1,rfl⟩ | ⟨h1,rfl⟩
 · simpa [h1] using hm
 · simpa [h1] using hm.append_right [id]
theorem RgM.left {w: World} {m: Nat} {r: RowL} {L: List EntL} {clock: Nat} {seen: Array Nat} {v: Value} {l: List Int} {W: World} (h: RgM w m r L clock seen v l W) (hM: MapAt Tryz.prog 3 W m (L.map entM) clock): W.rangeLeft m w.heap.size = (leftOf (L.map entM).toArray seen).size := by
 obtain ⟨c0,hi,_⟩ := h.it
 unfold World.rangeLeft
 rw [hM.heap,hi]
theorem wpList_next_map {P: Program} {W: World} {ops: Array Oper} {rest: List Oper} {o: Oper} {a: Act} {Q: Exit -> Act -> World -> Prop} {r b since c0 clock: Nat} {seen: Array Nat} {es: Array MapEntry}
 (hg: o.guard = none) (it: Operand) (hop: o.op = Op.next it false) (hit: a.eval it = .pointer (some ⟨r,0,none⟩)) (hr: W.heap[r]? = some (.mapIter (some b) since seen c0)) (hb: W.heap[b]? = some (.map es clock)) (hold: ∀ x ∈ es.toList,x.born < since) (hsc: since <= c0)
 (h0: (leftOf es seen).size = 0 -> wpList P ops Q rest (a.put o.dst (.tuple #[.bool false])) W)
 (h1: ∀ e ∈ (leftOf es seen).toList,∀ w1,(w1 = W \/ w1 = W.drew) -> wpList P ops Q rest (a.put o.dst (.tuple #[.bool true,e.key,e.val])) (setBlock w1 r (.mapIter (some b) since (seen.push e.born) clock))) :
 wpList P ops Q (o :: rest) a W := by
 refine wpList_plain hg fun K' hK' => ?_
 unfold Oper.wp
 rcases run_next_at (P := P) W o.type r b since c0 seen es clock hr hb hold hsc with ⟨hz,hrun⟩ | ⟨e,he,w1,hw1,hrun⟩
 · simp [execOp,hop,hit,hrun,Result.andThen]
   exact hK' _ _ (h0 hz)
 · simp [execOp,hop,hit,hrun,Result.andThen]
   exact hK' _ _ (h1 e he w1 hw1)
theorem len64Z_walk (W: World): Calls Tryz.prog 165 #[.int .u64 0] W fun e w' => e = .returned (.int .i64 0) /\ w' = W := by
 go_enter Tryz.func165,Tryz.ntmps165
 go_wp2
 go_ret
 exact ⟨Rw.ret_int (by kernel_rfl),rfl⟩
theorem lenZ_walk (W: World): Calls Tryz.prog 112 #[.int .u64 0] W fun e w' => e = .returned (.int .i64 0) /\ w' = W := by
 go_enter Tryz.func112,Tryz.ntmps112
 go_wp2_with fail
 refine (len64Z_walk _).mono ?_
 rintro e w' ⟨rfl,rfl⟩
 go_wp2
 go_ret
 exact ⟨rfl,rfl⟩
theorem insZ_walk (W: World): Calls Tryz.prog 155 #[.slice none 0 0, .int .i64 0, .int .i64 0] W fun e w' => e = .returned (.tuple #[]) /\ w' = W := by
 go_enter Tryz.func155,Tryz.ntmps155
 go_wp2_with fail
 go_loopw [6] (fun i wr => i = .int .i64 1 /\ wr = W) (fun _ _ => 0)
 case atStart => exact ⟨rfl,rfl⟩
 case round =>
  obtain ⟨rfl,rfl⟩ := hrel
  go_wp2
  go_end0
  exact ⟨rfl,rfl⟩
theorem pdqZ_walk (W: World): Calls Tryz.prog 111 #[.slice none 0 0, .int .i64 0, .int .i64 0, .int .i64 0] W fun e w' => e = .returned (.tuple #[]) /\ w' = W := by
 go_enter Tryz.func111,Tryz.ntmps111
 go_wp2_with fail
 go_loopw [1,2] (fun a b wr => a = .int .i64 0 /\ b = .int .i64 0 /\ wr = W) (fun _ _ _ => 0)
 case atStart => exact ⟨rfl,rfl,rfl⟩
 case round =>
  obtain ⟨rfl,rfl,rfl⟩ := hrel
  go_wp2_with fail
  refine (insZ_walk _).mono ?_
  rintro e w' ⟨rfl,rfl⟩
  go_wp2
  exact bodyPost_ret (v := .tuple #[]) (by simp [results,Tryz.results111]) rfl ⟨rfl,rfl⟩
theorem sortNil_walk (W: World): Calls Tryz.prog 76 #[.slice none 0 0] W fun e w' => e = .returned (.tuple #[]) /\ w' = W := by
 go_enter Tryz.func76,Tryz.ntmps76
 go_wp2_with fail
 refine (lenZ_walk _).mono ?_
 rintro e w' ⟨rfl,rfl⟩
 go_wp2_with fail
 refine (pdqZ_walk _).mono ?_
 rintro e w' ⟨rfl,rfl⟩
 go_wp2
 go_end0
 exact ⟨rfl,rfl⟩
theorem pmatch_walk {L: List EntL} {clock: Nat} (r: RowL) {w: World} {bx m: Nat} (hx: w.heap[bx]? = some (.cells #[.map (some m)] 170 (0,0))) (hM: MapAt Tryz.prog 3 w m (L.map entM) clock)
 (hC: ∀ x ∈ L,CdIn w x.2.1 /\ x.2.1.ts.length <= 1000 /\ x.2.1.l.length <= 50 /\ ∀ y ∈ x.2.1.l,deepN 30 y = false) (hL: L.length <= 1000) (hR: Rw.SlG vvC 3 w r.a r.l) (hF: r.l.length <= maxLen /\ ∀ v ∈ r.l,VFit v) :
 Calls Tryz.prog 29 #[.pointer (some ⟨bx,0,none⟩), .slice r.a r.l.length r.c] w (MatchP r L w) := by
 have c0: w.cell? ⟨bx,0,none⟩ = some (.map (some m)) := by rw [cell_of_row _ _ _ _ _ _ hx]; rfl
 have hl := (Array.getElem?_eq_some_iff.1 hx).1
 have hrange := run_range_map (P := Tryz.prog) w 168 3 78 m (L.map entM).toArray clock Tryz.underlying168 hM.heap
 have HM := Rw.dh hM
 have HMt := Rw.dh (fun x (hx: x ∈ L) W (hb: Below w.heap.size w W) => meets_walk (n := 30) (by decide) x.2.1 r ((hC x hx).1.on hb) (hC x hx).2.1 (hC x hx).2.2.2 (hC x hx).2.2.1 (hR.below hb) hF)
 clear hM hC hR hx hF
 go_enter Tryz.func29,Tryz.ntmps29
 have HS0: Hid (RgM w m r L clock #[] (.slice none 0 0) [] (w.alloc (.mapIter (some m) clock #[] clock))) := ⟨Rw.below_alloc _ _,⟨clock,Rw.heap_new _ _,Nat.le_refl _⟩,World.ownsRow_nil _ _ _ _,by
  have: (L.filter fun x => (#[]: Array Nat).contains x.2.2 && meetsC 30 r x.2.1.ts x.2.1.l) = [] := List.filter_eq_nil_iff.2 fun x _ => by simp
  rw [this]
  exact .nil⟩
 have hmw: m < w.heap.size := HM.out.lt
 go_wp2
 clear hrange
 go_loopw [5] (fun v wr => Hid (∃ seen l,RgM w m r L clock seen v l wr)) (fun _ wr => wr.rangeLeft m w.heap.size)
 case atStart => exact ⟨_,_,HS0.out⟩
 case round =>
  obtain ⟨seen,l,hR⟩ := hrel.out
  clear hrel HS0
  have HR := Rw.dh hR
  have hMr: MapAt Tryz.prog 3 wr m (L.map entM) clock := HM.out.turn (hR.bel.block _ hmw)
  obtain ⟨c0,hit,hc0⟩ := hR.it
  have hll: l.length <= 1000 := by
   have := hR.mem.length_eq
   rw [List.length_map] at this
   have h2 := List.length_filter_le (fun x: EntL => seen.contains x.2.2 && meetsC 30 r x.2.1.ts x.2.1.l) L
   omega
  go_wp2_with (first | (at_next; revert HR) | go_in)
  intro HR
  refine wpList_next_map rfl _ rfl rfl hit hMr.heap (fun x hx => hMr.born.2 x (by simpa using hx)) hc0 ?_ ?_
  · intro hz0
    have hall := all_seen (L.map entM).toArray seen hz0
    have hmem: l.Perm (metL r L) := by
     have: (L.filter fun x => seen.contains x.2.2 && meetsC 30 r x.2.1.ts x.2.1.l) = L.filter fun x => meetsC 30 r x.2.1.ts x.2.1.l := List.filter_congr fun x hx => by
      rw [show seen.contains x.2.2 = true from hall (entM x) (by simpa using List.mem_map.2 ⟨x,hx,rfl⟩),Bool.true_and]
     have h := HR.out.mem
     rw [this] at h
     exact h
    have HME := Rw.dh hmem
    clear hall hmem hit hc0 hz0 hR hMr
    have HOw := Rw.dh HR.out.own
    have HBr := Rw.dh HR.out.bel
    clear HR
    go_wp2_with fail
    rcases HOw.out.2 with ⟨rfl,hz⟩ | ⟨g,cap,cur,rfl,hgb,hg,hcap,hmax,hcs,htk⟩
    · obtain rfl: l = [] := List.length_eq_zero_iff.1 hz
      have hme: metL r L = [] := List.Perm.eq_nil (HME.out.symm)
      have HE: Hid (MatchP r L w (.returned (.slice none 0 0)) wr) := ⟨none,0,by rw [hme]; rfl,by rw [hme]; exact Or.inl (by simp),fun q hq => (by cases hq),HBr.out⟩
      refine (sortNil_walk _).mono ?_
      rintro e w' ⟨rfl,rfl⟩
      go_wp2
      go_ret
      exact HE.out
    · have hH: Sort.Holds (Value.int .i64) wr g 0 l.toArray := holds_of_blockI hg (by rw [flat_int] at htk; rw [Nat.mul_one] at htk; exact htk)
      have HSO := Rw.dh (Tryz.slices_Sort_int g 0 cap l wr hH (Array.getElem?_eq_some_iff.1 hg).1 (by omega))
      refine HSO.out.mono ?_
      rintro e w5 ⟨rfl,n5,os5,rfl⟩
      have hlen: (metL r L).length = l.length := HME.out.length_eq.symm
      have heq: (l.mergeSort fun x y => decide (x <= y)) = (metL r L).mergeSort fun x y => decide (x <= y) := rise_eq (((sort_perm l).trans HME.out).trans (sort_perm _).symm) (sort_rise l) (sort_rise _)
      have HE: Hid (MatchP r L w (.returned (.slice (some ⟨g,0,none⟩) l.length cap)) (Sort.grow (Sort.putRow (Value.int .i64) (Sort.ahead wr n5) g 0 (l.mergeSort fun x y => decide (x <= y)).toArray) os5)) := by
       have hgr := grownBy_sortedI (w := wr) (g := g) (n := n5) (os := os5) (l.mergeSort fun x y => decide (x <= y)).toArray
       have h1 := ownsRow_sortedI (n := n5) (os := os5) (ss := l) (ts := l.mergeSort fun x y => decide (x <= y)) (by rw [List.length_mergeSort]) hgb hg hcap hmax hcs
       refine ⟨some ⟨g,0,none⟩,cap,by rw [hlen], ?_,fun q hq => (by cases hq; show w.heap.size <= g; omega),HBr.out.grown hgr HBr.out.size fun q hq => by cases hq; omega⟩
       rw [<- heq]
       exact (Rw.owns_slg intC_len (by decide) (by rw [flat_int]; exact h1)).2.1
      clear heq hlen hH HSO hg htk hcs
      go_wp2
      go_ret
      exact HE.out
  · intro e he w2 hw2
    obtain ⟨hmem,hns⟩ := mem_left he
    obtain ⟨x,hxL,rfl⟩ := List.mem_map.1 (show e ∈ L.map entM by simpa using hmem)
    have HR1 := Rw.dh hR
    have HLT := Rw.dh (left_shrinks (L.map entM).toArray seen (entM x) he)
    have HRL := Rw.dh (hR.left hMr)
    have HXL := Rw.dh hxL
    have HNS: Hid (seen.contains x.2.2 = false) := hns
    refine Rw.to_letter (F := fun W => RgN w m L clock (seen.push x.2.2) u5 l W) (hR.next hw2 hmw hMr) ?_
    rintro W6 hN
    have hM6: MapAt Tryz.prog 3 W6 m (L.map entM) clock := HM.out.turn (hN.bel.block _ hmw)
    have hen := run_entry_at (P := Tryz.prog) W6 w.heap.size m clock seen (L.map entM).toArray clock (entM x) hN.it hM6.heap hmem (by simpa using hM6.born.1)
    have HN := Rw.dh hN
    have hl6 := (Array.getElem?_eq_some_iff.1 hN.it).1
    obtain ⟨id,k,born⟩ := x
    simp only [entM,cdV] at hen ⊢
    clear hit hc0 he hmem hns hR hMr hN hM6 HR
    go_wp2_with fail
    have HMk := HMt.out (id,k,born) HXL.out (W6.alloc (.cells #[.slice k.a k.ts.length k.c, .slice k.b k.l.length k.d] 78)) (below_on HN.out.bel (Rw.below_alloc W6 _))
    unfold cdV at HMk
    simp only at HMk
    refine HMk.mono ?_
    clear HMk
    rintro e w3 ⟨rfl,hb3⟩
    have HN3 := Rw.dh (HN.out.on (below_on (Rw.below_alloc W6 _) hb3))
    have HBo := Rw.dh HM.out.born.1
    clear hb3 HN hen hl6
    cases hmt: meetsC 30 r k.ts k.l
    · have HP: Hid (RgM w m r L clock (seen.push born) u5 l w3) := HN3.out.keep HBo.out HXL.out HNS.out HR1.out.mem (Or.inl ⟨hmt,rfl⟩)
      have hMp: MapAt Tryz.prog 3 w3 m (L.map entM) clock := HM.out.turn (HP.out.bel.block _ hmw)
      have HLp := Rw.dh (HP.out.left hMp)
      clear hMp hmt
      go_wp2
      refine ⟨⟨_,_,HP.out⟩, ?_⟩
      rw [HRL.out,HLp.out]
      exact HLT.out
    · go_wp2_with (at_builtin; revert HN3)
      intro HN3
      refine Rw.to_letter (F := fun V => Below w3.heap.size w3 V /\ Rw.Src V (some ⟨w3.heap.size,0,none⟩) 1 1 (intC id)) ⟨Rw.below_alloc _ _,Rw.src_new _ (intC id) _ 1 1 rfl⟩ ?_
      rintro V ⟨hV,sV⟩
      have hNV := HN3.out.on hV
      refine append_bigN Tryz.underlying60 infoIn rfl (by decide) rfl _ _ rfl (w.heap.size + 1) (Array.getElem?_eq_some_iff.1 hNV.it).1 u5 l.length (Rw.flat intC l) rfl hNV.own _ 1 1 (intC id) rfl sV rfl (intC_one _) (by unfold maxLen; omega) (by omega) ?_
      intro v2 W2 O2 G2 hv2
      have hN2: RgN w m L clock (seen.push born) v2 (l ++ [id]) W2 := by
       refine ⟨hNV.bel.grown G2 hNV.bel.size fun q hq => by have := (hNV.own.lt q hq).1; omega,(G2.block _ (Array.getElem?_eq_some_iff.1 hNV.it).1 fun e => by have := (hNV.own.lt _ e.symm).1; omega).trans hNV.it, ?_⟩
       rw [List.length_append,Rw.flat_append]
       simpa [Rw.flat] using O2
      have HP: Hid (RgM w m r L clock (seen.push born) v2 (l ++ [id]) W2) := hN2.keep HBo.out HXL.out HNS.out HR1.out.mem (Or.inr ⟨hmt,rfl⟩)
      have hMp: MapAt Tryz.prog 3 W2 m (L.map entM) clock := HM.out.turn (HP.out.bel.block _ hmw)
      have HLp := Rw.dh (HP.out.left hMp)
      clear hMp hmt O2 G2 hv2 hN2 hNV sV hV HN3
      go_wp2
      refine ⟨⟨_,_,HP.out⟩, ?_⟩
      rw [HRL.out,HLp.out]
      exact HLT.out
end Go.Proofs.YteibhbnlcpejpaaGreat
namespace Go.Proofs.YteibhbnlcpejpaaGreat
open Go.RowKit
def hasL (L: List EntL) (id: Int): Bool := L.any fun x => x.1 == id
theorem phas_walk {L: List EntL} {clock: Nat} {w: World} {bx m: Nat} (hb: w.heap[bx]? = some (.cells #[.map (some m)] 170 (0,0))) (hM: MapAt Tryz.prog 3 w m (L.map entM) clock) (id: Int) (hid: (Lit.int .i64 id).wf = true) :
 Calls Tryz.prog 79 #[.pointer (some ⟨bx,0,none⟩), .int .i64 id] w fun e w' => e = .returned (.bool (hasL L id)) /\ Below w.heap.size w w' := by
 have c0: w.cell? ⟨bx,0,none⟩ = some (.map (some m)) := by rw [cell_of_row _ _ _ _ _ _ hb]; rfl
 have hl := (Array.getElem?_eq_some_iff.1 hb).1
 have hml := hM.lt
 have hz := fun W => Tryz.zeroValue78 W
 obtain ⟨kl,hkl⟩ := pkey hid
 have hlk: ∃ (a: Option Addr) (n c: Nat) (b: Option Addr) (l d: Nat),(Instr.lookup 168 (.map (some m)) (.int .i64 id) true).run Tryz.prog w = .ok (.tuple #[.agg #[.slice a n c, .slice b l d], .bool (hasL L id)]) w := by
  rcases map_look hM pintKeyed Tryz.underlying168 (hz w) hkl true with ⟨h1,h2⟩ | ⟨j,x,h1,h2,h3⟩
  · have hf: hasL L id = false := by
     refine Bool.eq_false_iff.2 fun h => ?_
     obtain ⟨y,hy,he⟩ := List.any_eq_true.1 h
     have := h2 _ (List.mem_map_of_mem hy)
     simp [entM] at this
     simp at he
     exact this he
    exact ⟨none,0,0,none,0,0,by rw [hf]; exact h1⟩
  · rw [List.getElem?_map] at h2
    obtain ⟨y,hy,rfl⟩ := Option.map_eq_some_iff.1 h2
    have ht: hasL L id = true := by
     refine List.any_eq_true.2 ⟨y,List.mem_of_getElem? hy, ?_⟩
     simp [entM] at h3
     simpa using h3
    exact ⟨_,_,_,_,_,_,by rw [ht]; exact h1⟩
 obtain ⟨a,n,c,b,l,d,hv⟩ := hlk
 clear hb hz
 go_enter Tryz.func79,Tryz.ntmps79
 go_wp2
 go_ret
 exact ⟨rfl,Rw.below_alloc _ _⟩
def thereV: Value := .int .i64 3
theorem paddT_walk {L: List EntL} {clock: Nat} {w: World} {bx m: Nat} (hb: w.heap[bx]? = some (.cells #[.map (some m)] 170 (0,0))) (hM: MapAt Tryz.prog 3 w m (L.map entM) clock) (id: Int) (hid: (Lit.int .i64 id).wf = true) (k: CondL) (hin: hasL L id = true) :
 Calls Tryz.prog 26 #[.pointer (some ⟨bx,0,none⟩), .int .i64 id,cdV k] w fun e w' => e = .returned thereV /\ Below w.heap.size w w' := by
 have HH := Rw.dh (fun W (hb': Below w.heap.size w W) => phas_walk ((hb'.block _ (Array.getElem?_eq_some_iff.1 hb).1).trans hb) (hM.turn (hb'.block _ hM.lt)) id hid)
 have hl := (Array.getElem?_eq_some_iff.1 hb).1
 clear hb hM
 unfold cdV
 go_enter Tryz.func26,Tryz.ntmps26
 go_wp2_with fail
 refine (HH.out _ (Rw.below_alloc w _)).mono ?_
 rintro e w1 ⟨rfl,hb1⟩
 have hB1 := Rw.dh (below_on (Rw.below_alloc w _) hb1)
 clear hb1
 rw [hin]
 go_wp2
 go_ret
 exact ⟨rfl,hB1.out⟩
end Go.Proofs.YteibhbnlcpejpaaGreat
namespace Go.Proofs.YteibhbnlcpejpaaGreat
def gotL (L: List EntL) (p: EntL -> Bool): List Int := ((L.filter p).map fun x => x.1).mergeSort fun x y => decide (x <= y)
theorem gotL_len (L: List EntL) (p: EntL -> Bool): (gotL L p).length = (L.filter p).length := by
 unfold gotL
 rw [List.length_mergeSort,List.length_map]
theorem gotL_mem (L: List EntL) (p: EntL -> Bool) (id: Int): id ∈ gotL L p ↔ ∃ x ∈ L,p x = true /\ x.1 = id := by
 unfold gotL
 rw [(sort_perm _).mem_iff]
 simp only [List.mem_map,List.mem_filter]
 constructor
 · rintro ⟨x,⟨h1,h2⟩,h3⟩
   exact ⟨x,h1,h2,h3⟩
 · rintro ⟨x,h1,h2,h3⟩
   exact ⟨x,⟨h1,h2⟩,h3⟩
theorem gotL_rise {L: List EntL} (hn: (L.map fun x => x.1).Nodup) (p: EntL -> Bool): (gotL L p).Pairwise (· < ·) := by
 have h1: ((L.filter p).map fun x => x.1).Nodup := hn.sublist (List.filter_sublist.map _)
 have h2: (gotL L p).Nodup := (sort_perm _).nodup_iff.2 h1
 have h3: (gotL L p).Pairwise (· <= ·) := sort_rise _
 exact (h3.and h2).imp fun ⟨h,hne⟩ => Int.lt_iff_le_and_ne.2 ⟨h,hne⟩
theorem gotL_next {L: List EntL} (hn: (L.map fun x => x.1).Nodup) (p: EntL -> Bool) {i: Nat} {a b: Int} (h1: (gotL L p)[i]? = some a) (h2: (gotL L p)[i + 1]? = some b): a < b := by
 obtain ⟨l1,rfl⟩ := List.getElem?_eq_some_iff.1 h1
 obtain ⟨l2,rfl⟩ := List.getElem?_eq_some_iff.1 h2
 exact List.pairwise_iff_getElem.1 (gotL_rise hn p) _ _ _ _ (Nat.lt_succ_self i)
theorem ids_push {L: List EntL} (hn: (L.map fun x => x.1).Nodup) {id: Int} (hin: hasL L id = false) (k: CondL) (born: Nat): ((L ++ [(id,k,born)]).map fun x => x.1).Nodup := by
 rw [List.map_append,List.nodup_append]
 refine ⟨hn,by simp,fun a ha b hb => ?_⟩
 simp only [List.map_cons,List.map_nil,List.mem_cons,List.not_mem_nil,or_false] at hb
 subst hb
 rintro rfl
 obtain ⟨x,hx,hxe⟩ := List.mem_map.1 ha
 have: hasL L a = true := List.any_eq_true.2 ⟨x,hx,by simpa using hxe⟩
 rw [hin] at this
 cases this
theorem ids_cut {L: List EntL} (hn: (L.map fun x => x.1).Nodup) (j: Nat): ((L.eraseIdx j).map fun x => x.1).Nodup := hn.sublist ((List.eraseIdx_sublist _ _).map _)
theorem has_at {L: List EntL} {id: Int} (h: hasL L id = true): ∃ (j: Nat) (x: EntL),L[j]? = some x /\ x.1 = id := by
 obtain ⟨x,hx,he⟩ := List.any_eq_true.1 h
 obtain ⟨j,hj⟩ := List.getElem?_of_mem hx
 exact ⟨j,x,hj,by simpa using he⟩
theorem at_one {L: List EntL} (hn: (L.map fun x => x.1).Nodup) {i j: Nat} {x y: EntL} (hi: L[i]? = some x) (hj: L[j]? = some y) (he: x.1 = y.1): i = j := by
 obtain ⟨l1,rfl⟩ := List.getElem?_eq_some_iff.1 hi
 obtain ⟨l2,rfl⟩ := List.getElem?_eq_some_iff.1 hj
 have key: ∀ (a b: Nat) (la: a < L.length) (lb: b < L.length),L[a].1 = L[b].1 -> ¬ a < b := fun a b la lb e hlt => by
  have := List.pairwise_iff_getElem.1 hn a b (by simpa using la) (by simpa using lb) hlt
  simp only [List.getElem_map] at this
  exact this e
 rcases Nat.lt_trichotomy i j with h | h | h
 · exact absurd h (key i j l1 l2 he)
 · exact h
 · exact absurd h (key j i l2 l1 he.symm)
end Go.Proofs.YteibhbnlcpejpaaGreat
