import Derived.Test.YtdaikppppkbfoabMBS
import Derived.Test.YtdaikppppkbfoabMBZ
set_option maxRecDepth 100000
set_option maxHeartbeats 4000000
namespace Go.Proofs.Ytdaikppppkbfoab
open Go.RowKit
theorem isame_walk (a a': Option Addr) (c c': Nat) (l: List Int) (hl: l.length <= 1000) (w: World) (h: Rw.SlG intC 1 w a l) (h': Rw.SlG intC 1 w a' l) :
 Calls Try.prog 8 #[.slice a l.length c, .slice a' l.length c'] w fun e w' => e = .returned (.bool true) /\ Below w.heap.size w w' := by
 have H := Rw.dh h
 have H' := Rw.dh h'
 clear h h'
 have hnn2: ((l.length: Int) != (l.length: Int)) = false := by simp
 go_enter Try.func8,Try.ntmps8
 go_wp2_with fail
 go_loopw [5] (fun i wr => ∃ j: Nat,j <= l.length /\ i = .int .i64 j /\ Hid (Below w.heap.size w wr)) (fun i _ => l.length - (intOf i).toNat)
 case atStart => exact ⟨0,Nat.zero_le _,rfl,Below.refl _ _⟩
 case round =>
  obtain ⟨j,hj,rfl,HB⟩ := hrel
  by_cases hlt: j < l.length
  · obtain ⟨b,o,v,rfl,hb,hv,hc⟩ := (H.out.below HB.out).at hlt
    obtain ⟨b',o',v',rfl,hb',hv',hc'⟩ := (H'.out.below HB.out).at hlt
    rw [hv] at hv'
    cases hv'
    have c0: wr.cell? ⟨b,o + j,none⟩ = some (.int .i64 v) := by have := hc 0 _ rfl; simpa using this
    have d0: wr.cell? ⟨b',o' + j,none⟩ = some (.int .i64 v) := by have := hc' 0 _ rfl; simpa using this
    clear hv hc hc'
    have hvv: (v != v) = false := by simp
    go_wp2
    go_quiet (fail)
    go_wp2
    exact ⟨⟨j + 1,hlt,by go_num,below_drewN HB.out _⟩,by simp [intOf]; omega⟩
  · have hjn: j = l.length := by omega
    subst hjn
    go_wp2
    go_ret
    exact ⟨rfl,HB.out⟩
theorem isame_n {n n': Nat} (a a': Option Addr) (c c': Nat) (l: List Int) (hn: n = l.length) (hn': n' = l.length) (hl: l.length <= 1000) (w: World) (h: Rw.SlG intC 1 w a l) (h': Rw.SlG intC 1 w a' l) :
 Calls Try.prog 8 #[.slice a n c, .slice a' n' c'] w fun e w' => e = .returned (.bool true) /\ Below w.heap.size w w' := by
 subst hn
 subst hn'
 exact isame_walk a a' c c' l hl w h h'
def wipe (w: World) (b: Nat): World := ((((((((((w.setCell ⟨b,0,none⟩ (.int .i64 (-1))).setCell ⟨b,1,none⟩ (.bool false)).setCell ⟨b,2,none⟩ (.bool false)).setCell ⟨b,3,none⟩ (.int .i64 0)).setCell ⟨b,4,none⟩ (.int .i64 0)).setCell ⟨b,5,none⟩ (.string ⟨#[]⟩)).setCell ⟨b,6,none⟩ (.bool false)).setCell ⟨b,7,none⟩ (.bool false)).setCell ⟨b,8,none⟩ (.int .i64 0)).setCell ⟨b,9,none⟩ (.int .i64 0)).setCell ⟨b,10,none⟩ (.string ⟨#[]⟩)
theorem wipe_only (w: World) (b: Nat): Only (fun q => q = b) w (wipe w b) := by
 unfold wipe
 iterate 11 refine Only.setCell (S := fun q => q = b) ?_ (Or.inr rfl) _
 exact Only.refl _ _
theorem metL_one (r: RowL) (x: EntL): (metL r [x]).length <= 1 := by
 unfold metL
 rw [List.length_map]
 exact List.length_filter_le _ _
def ownT (v: Vv): Tl := ⟨0,⟨true,true,v⟩,⟨true,true,v⟩⟩
structure OwI (w w1: World) (v: Vv) (W: World): Prop where
 bel: Below w.heap.size w W
 t: W.heap[w1.heap.size + 1]? = some (.cells (tlC (ownT v)).toArray 29 (0,0))
 c: W.heap[w1.heap.size + 2]? = some (.cells #[.slice (some ⟨w1.heap.size + 1,0,none⟩) 1 1, .slice none 0 0] 33 (0,0))
 x: W.heap[w1.heap.size + 3]? = some (.cells #[.map none] 48 (0,0))
 le: w.heap.size <= w1.heap.size
 sz: W.heap.size = w1.heap.size + 4
theorem OwI.mk' {w w1: World} {v: Vv} (hB: Below w.heap.size w w1) (o: Obj): OwI w w1 v ((((w1.alloc o).alloc (.cells (tlC (ownT v)).toArray 29)).alloc (.cells #[.slice (some ⟨w1.heap.size + 1,0,none⟩) 1 1, .slice none 0 0] 33)).alloc (.cells #[.map none] 48)) :=
 ⟨(((hB.alloc hB.size _).alloc (by have := hB.size; simp; omega) _).alloc (by have := hB.size; simp; omega) _).alloc (by have := hB.size; simp; omega) _,(Below.heap_alloc _ _ _ (by simp)).trans ((Below.heap_alloc _ _ _ (by simp)).trans (Rw.heap_new' _ _ (by simp))),(Below.heap_alloc _ _ _ (by simp)).trans (Rw.heap_new' _ _ (by simp)),Rw.heap_new' _ _ (by simp),hB.size,by simp⟩
theorem OwI.c0 {w w1 W: World} {v: Vv} (h: OwI w w1 v W): W.cell? ⟨w1.heap.size + 2,0,none⟩ = some (.slice (some ⟨w1.heap.size + 1,0,none⟩) 1 1) := by rw [cell_of_row _ _ _ _ _ _ h.c]; rfl
theorem OwI.c1 {w w1 W: World} {v: Vv} (h: OwI w w1 v W): W.cell? ⟨w1.heap.size + 2,1,none⟩ = some (.slice none 0 0) := by rw [cell_of_row _ _ _ _ _ _ h.c]; rfl
theorem own_add {w w1 W: World} {v: Vv} (hV: VFit v) (h: OwI w w1 v W): Calls Try.prog 6 #[.pointer (some ⟨w1.heap.size + 3,0,none⟩), .int .i64 1, .agg #[.slice (some ⟨w1.heap.size + 1,0,none⟩) 1 1, .slice none 0 0]] W (AddP 2 ⟨some ⟨w1.heap.size + 1,0,none⟩,1,[ownT v],none,0,[]⟩ W (w1.heap.size + 3) 1) :=
 paddN_walk 2 (by decide) ⟨some ⟨w1.heap.size + 1,0,none⟩,1,[ownT v],none,0,[]⟩ (w1.heap.size + 3) h.x 1 (by decide)
  ⟨slg_flat tlC_len (by have := h.t; simpa [Rw.flat] using this),⟨by simp [maxLen],fun t ht => by simp at ht; subst ht; exact ⟨rfl,hV,hV⟩⟩,Or.inl rfl,Nat.zero_le _,fun x hx => (by cases hx)⟩
  ⟨fun q hq => by cases hq; show w1.heap.size + 1 ≠ w1.heap.size + 3; omega,fun q hq => (by cases hq),fun x hx => (by cases hx)⟩ (by simp) (fun x hx => (by cases hx)) (fun x hx => (by cases hx))
structure OwJ (w w1: World) (v: Vv) (k': CondL) (m: Nat) (W: World): Prop where
 bel: Below w.heap.size w W
 t: W.heap[w1.heap.size + 1]? = some (.cells (tlC (ownT v)).toArray 29 (0,0))
 c: W.heap[w1.heap.size + 2]? = some (.cells #[.slice (some ⟨w1.heap.size + 1,0,none⟩) 1 1, .slice none 0 0] 33 (0,0))
 x: W.heap[w1.heap.size + 3]? = some (.cells #[.map (some m)] 48 (0,0))
 mp: MapAt Try.prog 3 W m [⟨.int .i64 1,cdV k',0⟩] 1
 le: w.heap.size <= w1.heap.size
 mle: w1.heap.size + 4 <= m
 ts: k'.ts = [ownT v]
 l: k'.l = []
 ci: CdIn W k'
 off: ∀ q,k'.a = some q -> w1.heap.size + 4 <= q.block
 offb: ∀ q,k'.b = some q -> w1.heap.size + 4 <= q.block
theorem OwJ.mk' {w w1 U W: World} {v: Vv} {k': CondL} {m: Nat} (h: OwI w w1 v U) (hx: W.heap[w1.heap.size + 3]? = some (.cells #[.map (some m)] 48 (0,0))) (hm: MapAt Try.prog 3 W m [⟨.int .i64 1,cdV k',0⟩] 1) (hmle: U.heap.size <= m) (hts: k'.ts = [ownT v]) (hl: k'.l = []) (hci: CdIn W k')
 (hoff: (∀ q,k'.a = some q -> U.heap.size <= q.block) /\ (∀ q,k'.b = some q -> U.heap.size <= q.block) /\ ∀ x ∈ k'.l,∀ m,OffN (fun b => U.heap.size <= b) m x) (ho: Only (· = w1.heap.size + 3) U W): OwJ w w1 v k' m W := by
 have hz := h.sz
 have hle := h.le
 have hs := h.bel.size
 exact ⟨h.bel.trans (ho.below hs fun q hq e => by omega),(ho.block _ (by omega) (by omega)).trans h.t,(ho.block _ (by omega) (by omega)).trans h.c,hx,hm,hle,by omega,hts,hl,hci,fun q hq => by have := hoff.1 q hq; omega,fun q hq => by have := hoff.2.1 q hq; omega⟩
namespace OwJ
variable {w w1 W W': World} {v: Vv} {k': CondL} {m: Nat}
theorem c0 (h: OwJ w w1 v k' m W): W.cell? ⟨w1.heap.size + 2,0,none⟩ = some (.slice (some ⟨w1.heap.size + 1,0,none⟩) 1 1) := by rw [cell_of_row _ _ _ _ _ _ h.c]; rfl
theorem lt (h: OwJ w w1 v k' m W): w1.heap.size + 4 < W.heap.size + 1 := by have := h.mle; have := h.mp.lt; omega
theorem on (h: OwJ w w1 v k' m W) (hb: Below W.heap.size W W'): OwJ w w1 v k' m W' :=
 ⟨h.bel.trans (hb.mono h.bel.size),(hb.block _ (Array.getElem?_eq_some_iff.1 h.t).1).trans h.t,(hb.block _ (Array.getElem?_eq_some_iff.1 h.c).1).trans h.c,(hb.block _ (Array.getElem?_eq_some_iff.1 h.x).1).trans h.x,h.mp.turn (hb.block _ h.mp.lt),h.le,h.mle,h.ts,h.l,h.ci.on hb,h.off,h.offb⟩
end OwJ
structure OwK (w w1: World) (v: Vv) (k': CondL) (m: Nat) (W: World): Prop where
 bel: Below w.heap.size w W
 x: W.heap[w1.heap.size + 3]? = some (.cells #[.map (some m)] 48 (0,0))
 mp: MapAt Try.prog 3 W m [⟨.int .i64 1,cdV k',0⟩] 1
 le: w.heap.size <= w1.heap.size
 mle: w1.heap.size + 4 <= m
 ts: k'.ts = [ownT v]
 l: k'.l = []
 ci: CdIn W k'
 off: ∀ q,k'.a = some q -> w1.heap.size + 4 <= q.block
 offb: ∀ q,k'.b = some q -> w1.heap.size + 4 <= q.block
theorem OwJ.k {w w1 W: World} {v: Vv} {k': CondL} {m: Nat} (h: OwJ w w1 v k' m W): OwK w w1 v k' m W := ⟨h.bel,h.x,h.mp,h.le,h.mle,h.ts,h.l,h.ci,h.off,h.offb⟩
theorem OwK.wiped {w w1 W W': World} {v: Vv} {k': CondL} {m: Nat} (h: OwK w w1 v k' m W) (ho: Only (fun q => q = w1.heap.size + 1) W W'): OwK w w1 v k' m W' := by
 have hle := h.le
 have hs := h.bel.size
 have hm := h.mle
 have ho': Only (· = w1.heap.size + 1) W W' := ho
 exact ⟨h.bel.trans (ho.below hs fun q hq e => by omega),(ho.block _ (Array.getElem?_eq_some_iff.1 h.x).1 (by omega)).trans h.x,h.mp.turn (ho.block _ h.mp.lt (by omega)),h.le,h.mle,h.ts,h.l,
  h.ci.only ⟨fun q hq => by have := h.off q hq; omega,fun q hq => by have := h.offb q hq; omega,fun x hx => by rw [h.l] at hx; cases hx⟩ ho',h.off,h.offb⟩
theorem own_match {w w1 W: World} {v: Vv} {k': CondL} {m: Nat} (r: RowL) (h: OwK w w1 v k' m W) (hR: Rw.SlG vvC 3 W r.a r.l) (hF: r.l.length <= maxLen /\ ∀ v ∈ r.l,VFit v): Calls Try.prog 7 #[.pointer (some ⟨w1.heap.size + 3,0,none⟩), .slice r.a r.l.length r.c] W (MatchP r [(1,k',0)] W) :=
 pmatch_walk (L := [(1,k',0)]) (clock := 1) r h.x h.mp (fun x hx => by
  simp only [List.mem_cons,List.not_mem_nil,or_false] at hx
  subst hx
  exact ⟨h.ci,by show k'.ts.length <= 1000; rw [h.ts]; simp,by show k'.l.length <= 50; rw [h.l]; simp,fun y hy => by rw [show k'.l = [] from h.l] at hy; cases hy⟩) (by simp) hR hF
theorem predOwns_walk (v: Vv) (r: RowL) (w: World) (hV: VFit v) (hR: Rw.SlG vvC 3 w r.a r.l) (hF: r.l.length <= maxLen /\ ∀ v ∈ r.l,VFit v)
 (hA0: ∀ W,Calls Try.prog 4 #[] W fun e W' => e = .returned (.bool true) /\ Below W.heap.size W W') :
 Calls Try.prog 3 #[vvV v, .slice r.a r.l.length r.c] w fun e W => e = .returned (.bool true) /\ Below w.heap.size w W := by
 have HA := Rw.dh hA0
 have HV := Rw.dh hV
 have HR := Rw.dh (fun W (hb: Below w.heap.size w W) => hR.below hb)
 have HF := Rw.dh hF
 clear hA0 hV hR hF
 obtain ⟨vk,vn,vs⟩ := v
 unfold vvV valV
 go_enter Try.func3,Try.ntmps3
 go_wp2_with fail
 refine (HA.out _).mono ?_
 rintro e w1 ⟨rfl,hb1⟩
 have HB1 := Rw.dh (below_on (Rw.below_alloc w _) hb1)
 have hv1 := (hb1.block w.heap.size (by simp)).trans (Rw.heap_new w (.cells #[.int .i64 vk, .int .i64 vn, .string vs] 23))
 have c0: w1.cell? ⟨w.heap.size,0,none⟩ = some (.int .i64 vk) := by rw [cell_of_row _ _ _ _ _ _ hv1]; rfl
 have c1: w1.cell? ⟨w.heap.size,1,none⟩ = some (.int .i64 vn) := by rw [cell_of_row _ _ _ _ _ _ hv1]; rfl
 have c2: w1.cell? ⟨w.heap.size,2,none⟩ = some (.string vs) := by rw [cell_of_row _ _ _ _ _ _ hv1]; rfl
 clear hb1
 by_cases h1: 200 < (vs.size: Int)
 · go_wp2
   go_ret
   exact ⟨rfl,HB1.out⟩
 by_cases h2: 30 < (r.l.length: Int)
 · go_wp2
   go_ret
   exact ⟨rfl,HB1.out⟩
 go_wp2_with fail
 refine (pnew_walk _).mono ?_
 rintro e w2 ⟨rfl,rfl⟩
 have hO: OwI w w1 ⟨vk,vn,vs⟩ ((((w1.alloc (.cells #[.bool true, .bool true, .int .i64 vk, .int .i64 vn, .string vs] 27)).alloc (.cells (tlC (ownT ⟨vk,vn,vs⟩)).toArray 29)).alloc (.cells #[.slice (some ⟨w1.heap.size + 1,0,none⟩) 1 1, .slice none 0 0] 33)).alloc (.cells #[.map none] 48)) := OwI.mk' HB1.out _
 have HO := Rw.dh hO
 obtain ⟨k0,k1⟩: _ /\ _ := ⟨hO.c0,hO.c1⟩
 clear hO
 simp only [World.size_alloc]
 go_wp2_with fail
 refine (own_add HV.out HO.out).mono ?_
 rintro e w3 ⟨rfl,k',m,hx3,hm3,hmle,hts,hle, -, hci,hoff,hon⟩
 have hkl: k'.l = [] := List.length_eq_zero_iff.1 hle
 have HO3: Hid (OwJ w w1 ⟨vk,vn,vs⟩ k' m w3) := OwJ.mk' HO.out hx3 hm3 hmle hts hkl hci hoff hon
 clear hx3 hm3 hmle hts hle hci hoff hon hkl k0 k1 HO HB1 hv1
 have q0 := HO3.out.c0
 go_wp2_with fail
 refine (own_match r HO3.out.k (HR.out _ HO3.out.bel) HF.out).mono ?_
 rintro e w4 ⟨a4,c4,rfl,hs4,ha4,hb4⟩
 have HO4 := Rw.dh (HO3.out.on hb4)
 have HS4 := Rw.dh hs4
 have HA4: Hid (∀ q,a4 = some q -> w1.heap.size + 1 < q.block) := fun q hq => by have := ha4 q hq; have := HO3.out.lt; omega
 clear hs4 ha4 hb4 HO3 q0
 have q0 := HO4.out.c0
 obtain ⟨t0,t1,t2,t3,t4,t5,t6,t7,t8,t9,t10⟩ := tl_cells HO4.out.t
 have tf := fun o => frozen_of_row _ _ o _ _ HO4.out.t
 have htl := (Array.getElem?_eq_some_iff.1 HO4.out.t).1
 simp only [ownT] at t0 t1 t2 t3 t4 t5 t6 t7 t8 t9 t10
 go_wp2_with fail
 have HO5 := Rw.dh (HO4.out.k.wiped (wipe_only w4 (w1.heap.size + 1)))
 have HS5: Hid (Rw.SlG intC 1 (wipe w4 (w1.heap.size + 1)) a4 ((metL r [(1,k',0)]).mergeSort fun x y => decide (x <= y))) :=
  Rw.dh (HS4.out.turn (wipe_only w4 (w1.heap.size + 1)).size fun b o e hlt => (wipe_only w4 (w1.heap.size + 1)).block b hlt fun e2 => by have := HA4.out _ e; simp only at this; omega)
 show Calls _ _ _ (wipe w4 (w1.heap.size + 1)) _
 clear HO4 HS4 q0 t0 t1 t2 t3 t4 t5 t6 t7 t8 t9 t10 tf htl
 generalize wipe w4 (w1.heap.size + 1) = w5 at *
 refine (own_match r HO5.out (HR.out _ HO5.out.bel) HF.out).mono ?_
 rintro e w6 ⟨a6,c6,rfl,hs6,ha6,hb6⟩
 have HB6 := Rw.dh (below_on HO5.out.bel hb6)
 have HS6 := Rw.dh hs6
 have HT6 := Rw.dh (HS5.out.below hb6)
 clear hs6 ha6 hb6 HO5 HS5
 go_wp2_with fail
 have hn: (metL r [(1,k',0)]).length = ((metL r [(1,k',0)]).mergeSort fun x y => decide (x <= y)).length := (List.length_mergeSort _).symm
 refine (isame_n a6 a4 c6 c4 _ hn hn (by rw [<- hn]; exact Nat.le_trans (metL_one _ _) (by decide)) w6 HS6.out HT6.out).mono ?_
 rintro e w7 ⟨rfl,hb7⟩
 have HB7 := Rw.dh (below_on HB6.out hb7)
 clear hb7 hn
 go_wp2
 go_ret
 exact ⟨rfl,HB7.out⟩
end Go.Proofs.Ytdaikppppkbfoab
