import Derived.Deep.RegionLaw
import Derived.Test.YtdnkbdjhccckhaaGreatMAE
import Derived.Test.YtdnkbdjhccckhaaGreatMAF
set_option maxRecDepth 100000
set_option maxHeartbeats 4000000
namespace Go.Proofs.YtdnkbdjhccckhaaGreat.L5
open Go.RowKit
theorem owns_of_block {W W': World} {b: Nat} {e: TypeId} {size: Nat} {v: Value} {n: Nat} {xs: List Value} (h: W.ownsRow b e size v n xs) (hk: ∀ k,v.ownBlock = some k -> W'.heap[k]? = W.heap[k]?): W'.ownsRow b e size v n xs := by
 refine ⟨h.1, ?_⟩
 rcases h.2 with hn | ⟨g,cap,cur,rfl,hb,hgg,rest⟩
 · exact .inl hn
 · exact .inr ⟨g,cap,cur,rfl,hb,(hk g rfl).trans hgg,rest⟩
theorem owns_tag {W: World} {b: Nat} {e: TypeId} {size: Nat} {v: Value} {n: Nat} {xs: List Value} (h: W.ownsRow b e size v n xs) {k: Nat} (hk: v.ownBlock = some k): ∃ cur,W.heap[k]? = some (.cells cur e (0,0)) := by
 rcases h.2 with ⟨rfl,_⟩ | ⟨g,cap,cur,rfl,hb,hgg,rest⟩
 · simp [Value.ownBlock] at hk
 · simp [Value.ownBlock] at hk
   subst hk
   exact ⟨cur,hgg⟩
theorem owns_below {b: Nat} {W W': World} {e: TypeId} {v: Value} {n: Nat} {xs: List Value} (h: W.ownsRow b e 1 v n xs) (hb: Below W.heap.size W W'): W'.ownsRow b e 1 v n xs :=
 owns_of_block h fun k hk => hb.block k (h.lt k hk).2
structure Md (w: World) (m g: Nat) (l: List ByteArray) (j: Nat) (v: Value) (wr: World): Prop where
 below: Below w.heap.size w wr
 cg: wr.cell? ⟨w.heap.size,0,none⟩ = some (.int .i64 (g: Int))
 cs: wr.heap[w.heap.size + 2]? = some (.cells #[v] 55 (0,0))
 row: wr.ownsRow (w.heap.size + 1) 3 1 v (j + 1) (((List.range (j + 1)).map fun i => (sumN m l i: Int)).map iv)
theorem Md.slice {w: World} {m g: Nat} {l: List ByteArray} {j: Nat} {v: Value} {wr: World} (h: Md w m g l j v wr): ∃ q cap,v = .slice (some ⟨q,0,none⟩) (j + 1) cap /\ q < wr.heap.size /\ w.heap.size + 1 <= q /\ w.heap.size + 2 < wr.heap.size /\ wr.cell? ⟨w.heap.size + 2,0,none⟩ = some v /\ wr.frozen? ⟨w.heap.size + 2,0,none⟩ = false /\ ∀ i,i < j + 1 -> wr.cell? ⟨q,i,none⟩ = some (.int .i64 (sumN m l i: Int)) := by
 have h4 := (Array.getElem?_eq_some_iff.1 h.cs).1
 have h5: wr.cell? ⟨w.heap.size + 2,0,none⟩ = some v := by rw [cell_of_row _ _ _ _ _ _ h.cs]; rfl
 have h6: wr.frozen? ⟨w.heap.size + 2,0,none⟩ = false := frozen_of_row _ _ _ _ _ h.cs
 have hr := h.row
 rcases hr.2 with ⟨rfl,h0⟩ | ⟨q,cap,cur,rfl,hb,hgg,rest⟩
 · omega
 · refine ⟨q,cap,rfl,(Array.getElem?_eq_some_iff.1 hgg).1,hb,h4,h5,h6,fun i hi => ?_⟩
   rw [World.ownsRow.cellAt hr i (by omega)]
   simp [hi,iv]
theorem step_ints {ops: Array Oper} {o: Oper} {a: Act} {K: Act -> World -> Prop} {Q: Exit -> Act -> World -> Prop} {E: Prop} {W1: World} (base: Nat) (hbase: base <= W1.heap.size) (hgd: o.guard = none) (s x: Operand) (ho: o.op = .call { callee := .builtin .append,args := #[s,x],argTypes := #[55,55] })
 (v: Value) (l: List Int) (n: Nat) (hs: a.eval s = v) (h: W1.ownsRow base 3 1 v n (l.map iv)) (hl: n <= 100000) (ad: Addr) (news: List Int) (m cap: Nat) (hx: a.eval x = .slice (some ad) m cap) (hm: news.length = m) (hml: m <= 100000) (hc: ∀ j u,(news.map iv)[j]? = some u -> W1.cell? (ad.add j) = some u)
 (hK: ∀ v' W',W'.ownsRow base 3 1 v' (n + m) ((l ++ news).map iv) -> W1.grownBy W' v.ownBlock -> K (a.put o.dst v') W') :
 if Region.wanted o (yielded ops a.tmps) = true then Oper.wp Tryz.prog o a W1 K Q else E := by
 have hw: Region.wanted o (yielded ops a.tmps) = true := by simp [Region.wanted,hgd]
 rw [if_pos hw]
 obtain ⟨i,hi,hz⟩: ∃ i,Tryz.prog.info? 3 = some i /\ (i.zero,i.size,i.bytes) = (some (.int .i64 0),1,8) :=
  Option.map_eq_some_iff.1 (show (Tryz.prog.info? 3).map (fun i => (i.zero,i.size,i.bytes)) = some (some (.int .i64 0),1,8) by kernel_rfl)
 simp only [Prod.mk.injEq] at hz
 obtain ⟨h1,h2,h3⟩ := hz
 refine wp_append_own (P := Tryz.prog) W1 s x 55 ho base 3 i _ 1 8 Tryz.underlying55 hi h1 h2 h3 rfl (by decide) v n (l.map iv) hs h ad m cap (news.map iv) hx (by simp [hm]) hc (fun y hy => ?_) (by unfold maxLen; omega) (by omega) hbase ?_
 · obtain ⟨z,_,rfl⟩ := List.mem_map.1 hy
   rfl
 · intro v' W' hown hg _
   refine hK v' W' ?_ hg
   rw [List.map_append]
   exact hown
theorem Md.grow {w: World} {m g: Nat} {l: List ByteArray} {j: Nat} {v: Value} {wr W' W0: World} (h: Md w m g l j v wr) (hb0: Below wr.heap.size wr W0) {v': Value} (hg: W0.grownBy W' v.ownBlock)
 (ho: W'.ownsRow (w.heap.size + 1) 3 1 v' (j + 1 + 1) (((List.range (j + 1)).map (fun i => (sumN m l i: Int)) ++ [(sumN m l (j + 1): Int)]).map iv)) :
 Md w m g l (j + 1) v' (W'.setCell ⟨w.heap.size + 2,0,none⟩ v') /\ W'.cell? ⟨w.heap.size + 2,0,none⟩ = some v /\ W'.frozen? ⟨w.heap.size + 2,0,none⟩ = false /\ w.heap.size + 2 < W'.heap.size := by
 obtain ⟨q,cap,hv,hq,hq1,hlt,hc5,hf5,_⟩ := h.slice
 have hvo: v.ownBlock = some q := by rw [hv]; rfl
 have hne: w.heap.size + 2 ≠ q := fun e => by
  obtain ⟨cur,ht⟩ := owns_tag h.row hvo
  rw [<- e,h.cs] at ht
  simp at ht
 have hs0 := hb0.size
 have hcs: W'.heap[w.heap.size + 2]? = some (.cells #[v] 55 (0,0)) := by
  rw [hg.block _ (by omega) (by rw [hvo]; intro e; cases e; exact hne rfl),hb0.block _ hlt]
  exact h.cs
 have hwl := h.below.size
 have hcg: W'.cell? ⟨w.heap.size,0,none⟩ = some (.int .i64 (g: Int)) := by
  have e1: W'.heap[w.heap.size]? = wr.heap[w.heap.size]? := by
   rw [hg.block _ (by omega) (by rw [hvo]; intro e; cases e; omega),hb0.block _ (by omega)]
  rw [World.cell?_of_block (w := wr) (a := ⟨w.heap.size,0,none⟩) e1]
  exact h.cg
 have hsw: w.heap.size <= W0.heap.size := by omega
 have hbb: Below w.heap.size w W' := (h.below.trans (hb0.mono (by omega))).grown hg hsw (fun k hk => by rw [hvo] at hk; cases hk; omega)
 have hne2: ∀ k,v'.ownBlock = some k -> k ≠ w.heap.size + 2 := fun k hk e => by
  obtain ⟨cur,ht⟩ := owns_tag ho hk
  rw [e,hcs] at ht
  simp at ht
 refine ⟨⟨hbb.setCell (by show w.heap.size <= w.heap.size + 2; omega) _, ?_, ?_, ?_⟩, ?_,frozen_of_row _ _ _ _ _ hcs,(Array.getElem?_eq_some_iff.1 hcs).1⟩
 · rw [World.cell?_of_block (w := W') (a := ⟨w.heap.size,0,none⟩) (heap_setCell_other _ _ _ _ (by show w.heap.size ≠ w.heap.size + 2; omega))]
   exact hcg
 · exact heap_setCell_same W' (w.heap.size + 2) 0 _ _ v' hcs
 · rw [show List.range (j + 1 + 1) = List.range (j + 1) ++ [j + 1] from List.range_succ,List.map_append]
   exact owns_of_block ho fun k hk => heap_setCell_other _ _ _ _ (hne2 k hk)
 · rw [cell_of_row _ _ _ _ _ _ hcs]; rfl
theorem one_int (W: World) (x: Int) (t: TypeId): ∀ i u,([x].map iv)[i]? = some u -> (W.alloc (.cells #[.int .i64 x] t)).cell? ((⟨W.heap.size,0,none⟩: Addr).add i) = some u := by
 intro i u h
 have hi: i = 0 := by
  have := (List.getElem?_eq_some_iff.1 h).1
  simpa using this
 subst hi
 simp [iv] at h
 subst h
 simp [go_sem]
theorem below_drew (w: World): Below w.heap.size w w.drew := (Below.refl _ _).drew
theorem middle_start (w: World) (m g: Nat) (l: List ByteArray): Md w m g l 0 (.slice (some ⟨w.heap.size + 1,0,none⟩) 1 1) (((w.alloc (.cells #[.int .i64 (g: Int)] 3)).alloc (.cells #[.int .i64 0] 3)).alloc (.cells #[.slice (some ⟨w.heap.size + 1,0,none⟩) 1 1] 55)) := by
 have z1: (w.alloc (.cells #[.int .i64 (g: Int)] 3)).heap.size = w.heap.size + 1 := by simp
 have z2: ((w.alloc (.cells #[.int .i64 (g: Int)] 3)).alloc (.cells #[.int .i64 0] 3)).heap.size = w.heap.size + 2 := by simp
 have B1 := below_alloc w (.cells #[.int .i64 (g: Int)] 3)
 have B2 := below_alloc (w.alloc (.cells #[.int .i64 (g: Int)] 3)) (.cells #[.int .i64 0] 3)
 have B3 := below_alloc ((w.alloc (.cells #[.int .i64 (g: Int)] 3)).alloc (.cells #[.int .i64 0] 3)) (.cells #[.slice (some ⟨w.heap.size + 1,0,none⟩) 1 1] 55)
 refine ⟨below_on B1 (below_on B2 B3), ?_, ?_, ?_⟩
 · rw [B3.cell (by show w.heap.size < _; omega),B2.cell (by show w.heap.size < _; omega)]
   simp [go_sem]
 · rw [<- z2]; exact heap_alloc_last _ _
 · have := World.ownsRow_lit (base := w.heap.size + 1) (e := 3) (size := 1) (w.alloc (.cells #[.int .i64 (g: Int)] 3)) #[.int .i64 0] 1 (by omega) (by unfold maxLen; omega) (by simp)
   rw [z1] at this
   refine owns_below ?_ B3
   simpa [iv,sumN] using this
structure Hv (w: World) (m g: Nat) (l: List ByteArray) (q cap p: Nat) (W: World): Prop where
 below: Below w.heap.size w W
 cg: W.cell? ⟨w.heap.size,0,none⟩ = some (.int .i64 (g: Int))
 cs: W.cell? ⟨w.heap.size + 2,0,none⟩ = some (.slice (some ⟨q,0,none⟩) (l.length + 1) cap)
 ca: W.cell? ⟨p,0,none⟩ = some (.int .i64 ((wts m l).sum: Int))
 cq: ∀ i,i < l.length + 1 -> W.cell? ⟨q,i,none⟩ = some (.int .i64 (sumN m l i: Int))
 lt: w.heap.size < W.heap.size /\ w.heap.size + 2 < W.heap.size /\ q < W.heap.size /\ p < W.heap.size
theorem Hv.on {w: World} {m g: Nat} {l: List ByteArray} {q cap p: Nat} {W W': World} (h: Hv w m g l q cap p W) (hb: Below W.heap.size W W'): Hv w m g l q cap p W' :=
 ⟨below_on h.below hb,(hb.cell h.lt.1).trans h.cg,(hb.cell h.lt.2.1).trans h.cs,(hb.cell h.lt.2.2.2).trans h.ca,fun i hi => (hb.cell h.lt.2.2.1).trans (h.cq i hi),by have := hb.size; have := h.lt; omega⟩
theorem Md.done {w: World} {m g: Nat} {l: List ByteArray} {q cap: Nat} {wr: World} (h: Md w m g l l.length (.slice (some ⟨q,0,none⟩) (l.length + 1) cap) wr): Hv w m g l q cap wr.heap.size (wr.alloc (.cells #[.int .i64 (sumN m l l.length: Int)] 3)) := by
 obtain ⟨q',cap',e,hq,hq1,hlt2,hc5,hf5,hcq⟩ := h.slice
 cases e
 have B := below_alloc wr (.cells #[.int .i64 (sumN m l l.length: Int)] 3)
 have hz := B.size
 refine ⟨below_on h.below B,(B.cell (by show w.heap.size < _; omega)).trans h.cg,(B.cell hlt2).trans hc5, ?_,fun i hi => (B.cell hq).trans (hcq i hi),by omega,by omega,by omega,by simp⟩
 rw [sumN_all]
 simp [go_sem]
theorem heavier_walk {w: World} {m g: Nat} {l: List ByteArray} {q cap p: Nat} {W: World} (h: Hv w m g l q cap p W) (hbig: (wts m l).sum <= 5008000) {x: Int} (k: Nat) (hx: x = (k: Int)) (hk: k + g <= l.length) (hl: l.length <= 1000) :
 Calls Tryz.prog 139 #[.int .i64 x, .pointer (some ⟨w.heap.size + 2,0,none⟩), .pointer (some ⟨p,0,none⟩), .pointer (some ⟨w.heap.size,0,none⟩)] W fun e w' => e = .returned (.int .i64 (heavy m g l k: Int)) /\ Hv w m g l q cap p w' := by
 subst hx
 obtain ⟨z1,z2,z3,z4⟩ := h.lt
 have y1 := h.cg
 have y2 := h.cs
 have y3 := h.ca
 have y4 := h.cq k (by omega)
 have y5 := h.cq (k + g) (by omega)
 have s1 := sumN_le m l k
 have s2 := sumN_le m l (k + g)
 have k1: (k: Int) < (l.length: Int) + 1 := by omega
 have k2: (k: Int) + (g: Int) < (l.length: Int) + 1 := by omega
 have k3: ((k: Int) + (g: Int)).toNat = k + g := by omega
 have k4: (0: Int) <= (k: Int) + (g: Int) := by omega
 have HH: Hid (Hv w m g l q cap p W) := h
 clear h
 go_enter Tryz.func139,Tryz.ntmps139
 go_wp2
 go_quiet (fail)
 go_wp2
 all_goals
  go_ret
  refine ⟨ret_int ?_,HH.out.on (below_drewN (Below.refl _ _) _)⟩
  unfold heavy
  omega
theorem middle_walk {l: List ByteArray} {a: Option Addr} {c: Nat} {w: World} (hr: Rd w a c (svs l)) (m g: Nat) (hm: m <= 8) (hg: g <= 1) (h1: l.length <= 1000) (h2: g + 2 <= l.length) (hs: ∀ s ∈ l,s.size <= 5000) :
 Calls Tryz.prog 125 #[.slice a l.length c, .int .i64 (m: Int), .int .i64 (g: Int)] w fun e w' => e = .returned (.int .i64 (cutN m g l: Int)) /\ Below w.heap.size w w' := by
 have HM: Hid (Md w m g l 0 _ _) := middle_start w m g l
 have HR: Hid (Rd w a c (svs l)) := hr
 have hbig := wts_big m l hs hm h1
 clear hr
 go_enter Tryz.func125,Tryz.ntmps125
 go_wp2
 go_loopw [17] (fun i wr => ∃ (j: Nat) (v: Value),j <= l.length /\ i = .int .i64 (j: Int) /\ Hid (Md w m g l j v wr)) (fun i _ => l.length - (intOf i).toNat)
 case atStart => exact ⟨0,_,Nat.zero_le _,rfl,HM⟩
 case round =>
  obtain ⟨j,v,hj,rfl,HM⟩ := hrel
  by_cases hlt: j < l.length
  · obtain ⟨b,o,rfl,hb,hc⟩ := (HR.out.below HM.out.below).str j hlt
    obtain ⟨q,cap,rfl,hq,hq1,hlt2,hc5,hf5,hcq⟩ := HM.out.slice
    have hcj := hcq j (by omega)
    have hlt': (j: Int) < (l.length: Int) := by omega
    have hlt3: (j: Int) < (j: Int) + 1 := by omega
    have hsn := sumN_snoc m l j hlt
    have hsl := sumN_le m l (j + 1)
    have hsz := hs _ (List.getElem_mem hlt)
    generalize l[j] = s at *
    have HSN: Hid (((sumN m l j: Int) + (m: Int) + (s.size: Int)) = (sumN m l (j + 1): Int)) := by show _ = _; omega
    have e1: IntKind.i64.wrap ((sumN m l j: Int) + (m: Int)) = (sumN m l j: Int) + (m: Int) := by rw [IntKind.wrap_i64]; omega
    have e2: IntKind.i64.wrap ((sumN m l j: Int) + (m: Int) + (s.size: Int)) = (sumN m l (j + 1): Int) := by rw [<- HSN.out,IntKind.wrap_i64]; omega
    clear hcq hsn
    have HB0: Hid (Below wr.heap.size wr (wr.drew.alloc (.cells #[.int .i64 (sumN m l (j + 1): Int)] 3))) := (below_drew wr).alloc (Nat.le_refl _) _
    have HO0: Hid (World.ownsRow (wr.drew.alloc (.cells #[.int .i64 (sumN m l (j + 1): Int)] 3)) (w.heap.size + 1) 3 1 (.slice (some ⟨q,0,none⟩) (j + 1) cap) (j + 1) (((List.range (j + 1)).map fun i => (sumN m l i: Int)).map iv)) := owns_below HM.out.row HB0.out
    have HC0: Hid (∀ i u,([(sumN m l (j + 1): Int)].map iv)[i]? = some u -> (wr.drew.alloc (.cells #[.int .i64 (sumN m l (j + 1): Int)] 3)).cell? ((⟨wr.heap.size,0,none⟩: Addr).add i) = some u) := one_int wr.drew _ _
    have hz0: w.heap.size + 1 <= (wr.drew.alloc (.cells #[.int .i64 (sumN m l (j + 1): Int)] 3)).heap.size := by have := HB0.out.size; omega
    go_wp2
    go_region_law (first
     | (refine step_ints (w.heap.size + 1) hz0 rfl (.tmp 22) (.tmp 32) rfl (.slice (some ⟨q,0,none⟩) (j + 1) cap) _ (j + 1) ?_ HO0.out (by omega) ⟨wr.heap.size,0,none⟩ [(sumN m l (j + 1): Int)] 1 1 ?_ rfl (by omega) HC0.out ?_
        · simp [Act.eval]
        · simp [Act.eval]
        intro v2 w2 hown hgr
        obtain ⟨M2,x1,x2,x3⟩ := HM.out.grow HB0.out hgr hown
        have HM2: Hid (Md w m g l (j + 1) v2 (w2.setCell ⟨w.heap.size + 2,0,none⟩ v2)) := M2
        obtain ⟨q2,cap2,rfl,_⟩ := M2.slice
        clear M2 hown hgr))
    all_goals
     clear hc5 hf5 hcj hc e1 e2 HB0 HO0 HC0 x1 x2 x3
     go_wp2
     exact ⟨⟨j + 1,_,hlt,by go_num,HM2⟩,by simp [intOf]; omega⟩
  · have hjl: j = l.length := by omega
    subst hjl
    obtain ⟨q,cap,rfl,hq,hq1,hlt2,hc5,hf5,hcq⟩ := HM.out.slice
    have hcj := hcq l.length (by omega)
    have hlt3: (l.length: Int) < (l.length: Int) + 1 := by omega
    have HV: Hid (Hv w m g l q cap wr.heap.size (wr.alloc (.cells #[.int .i64 (sumN m l l.length: Int)] 3))) := HM.out.done
    clear hcq
    go_wp2
    clear hc5 hf5 hcj
    generalize wr.alloc (.cells #[.int .i64 (sumN m l l.length: Int)] 3) = W2 at *
    generalize wr.heap.size = pz at *
    go_loopw [12,13] (fun x i wr2 => ∃ j: Nat,j + g + 2 <= l.length /\ i = .int .i64 ((j + 2: Nat): Int) /\ x = .int .i64 (minAt (heavy m g l) j: Int) /\ Hid (Hv w m g l q cap pz wr2)) (fun _ i _ => l.length - (intOf i).toNat)
    case atStart => exact ⟨0,by omega,rfl,rfl,HV⟩
    case round =>
     obtain ⟨j,hj,rfl,rfl,HV⟩ := hrel
     have y1 := HV.out.cg
     have y2 := HV.out.lt
     have hma := minAt_le (heavy m g l) j
     by_cases hlt: j + 2 + g < l.length
     · have hlt': ((j + 2: Nat): Int) + (g: Int) < (l.length: Int) := by omega
       go_wp2_with fail
       refine (heavier_walk HV.out hbig (j + 2) (by omega) (by omega) h1).mono ?_
       rintro e w3 ⟨rfl,V3⟩
       have HV3: Hid (Hv w m g l q cap pz w3) := V3
       clear V3
       go_wp2_with fail
       refine (heavier_walk HV3.out hbig (minAt (heavy m g l) j) rfl (by omega) h1).mono ?_
       rintro e w4 ⟨rfl,V4⟩
       have HV4: Hid (Hv w m g l q cap pz w4) := V4
       clear V4 HV3 HV
       by_cases hlh: heavy m g l (j + 2) < heavy m g l (minAt (heavy m g l) j)
       · have HE: Hid (minAt (heavy m g l) (j + 1) = j + 2) := minAt_pos _ _ hlh
         have hlh': (heavy m g l (j + 2): Int) < (heavy m g l (minAt (heavy m g l) j): Int) := by omega
         go_wp2
         refine ⟨⟨j + 1,by omega,by go_num,by rw [HE.out]; go_num,HV4⟩,by simp [intOf]; omega⟩
       · have HE: Hid (minAt (heavy m g l) (j + 1) = minAt (heavy m g l) j) := minAt_neg _ _ hlh
         have hlh': (heavy m g l (minAt (heavy m g l) j): Int) <= (heavy m g l (j + 2): Int) := by omega
         go_wp2
         refine ⟨⟨j + 1,by omega,by go_num,by rw [HE.out],HV4⟩,by simp [intOf]; omega⟩
     · have hlt': (l.length: Int) <= ((j + 2: Nat): Int) + (g: Int) := by omega
       have hjj: Hid (cutN m g l = minAt (heavy m g l) j) := by show _ = _; unfold cutN; congr 1; omega
       go_wp2
       go_ret
       exact ⟨ret_int (by rw [hjj.out]),HV.out.below⟩
end Go.Proofs.YtdnkbdjhccckhaaGreat.L5
