import Derived.Test.YteibhbnlcpejpaaGreatMBU
import Derived.Test.YteibhbnlcpejpaaGreatMBX
set_option maxRecDepth 100000
set_option maxHeartbeats 4000000
namespace Go.Proofs.YteibhbnlcpejpaaGreat
open Go.RowKit
def OfP (n: Nat) (l: List NL) (w: World) (e: Ending) (W: World): Prop := ∃ k': CondL,e = .returned (cdV k') /\ k'.ts = testsN l /\ k'.l.length = (restN l).length /\ (∀ (j: Nat) x y,(restN l)[j]? = some x -> k'.l[j]? = some y -> LikeN n x y) /\ CdIn W k' /\ Below w.heap.size w W
theorem take_snoc {α: Type} {l: List α} {j: Nat} {x: α} (h: l[j]? = some x): l.take (j + 1) = l.take j ++ [x] := by
 obtain ⟨hj,e⟩ := List.getElem?_eq_some_iff.1 h
 rw [List.take_succ_eq_append_getElem hj,e]
structure OfI (n: Nat) (w: World) (l: List NL) (W: World) (v0 v1: Value) (j: Nat): Prop where
 two: Two (fun b => b < w.heap.size) w (w.heap.size + 1) W v0 v1 (testsN (l.take j)) (restN (l.take j))
 res: W.heap[w.heap.size]? = some (.cells #[.slice none 0 0, .slice none 0 0] 78 (0,0))
theorem OfI.on {n: Nat} {w W U: World} {l: List NL} {v0 v1: Value} {j: Nat} (h: OfI n w l W v0 v1 j) (hb: Below W.heap.size W U): OfI n w l U v0 v1 j :=
 ⟨h.two.on hb,(hb.block _ (Array.getElem?_eq_some_iff.1 h.res).1).trans h.res⟩
theorem testN_ok {k: NL} (h: ∀ z ∈ k.kids,VFit z.val /\ fits z.col = true): TOk (testN k).1 := by
 obtain ⟨xo,xk,xn,xs,xv,xc,xa,xp,l⟩ := k
 have hz: TOk tlz := ⟨rfl,vz_fit,vz_fit⟩
 match l,h with
 | [],_ => exact hz
 | [z],h => exact ⟨(h z (by simp [NL.kids])).2,vz_fit,vz_fit⟩
 | [y,z],h =>
  have hy := h y (by simp [NL.kids])
  have hzz := h z (by simp [NL.kids])
  show TOk (comparedN xo y z).1
  unfold comparedN
  split
  · exact ⟨hzz.2,(boundsN_fit hy.1).1,(boundsN_fit hy.1).2⟩
  · exact ⟨hy.2,(boundsN_fit hzz.1).1,(boundsN_fit hzz.1).2⟩
 | _ :: _ :: _ :: _,_ => exact hz
theorem testsN_ok: ∀ {l: List NL},(∀ k ∈ l,∀ z ∈ k.kids,VFit z.val /\ fits z.col = true) -> ∀ t ∈ testsN l,TOk t
 | [],_,t,ht => by cases ht
 | x :: l,h,t,ht => by
  rw [testsN] at ht
  split at ht
  · rcases List.mem_cons.1 ht with rfl | ht
    · exact testN_ok (h x List.mem_cons_self)
    · exact testsN_ok (fun k hk => h k (List.mem_cons_of_mem _ hk)) t ht
  · exact testsN_ok (fun k hk => h k (List.mem_cons_of_mem _ hk)) t ht
theorem of_end {n: Nat} {l: List NL} {w wr w1 W3: World} {k': CondL} (hB: Below w.heap.size w wr) (hl: w.heap.size < wr.heap.size) (hts: k'.ts = testsN l) (hle: k'.l.length = (restN l).length) (hlk: ∀ (j: Nat) x y,(restN l)[j]? = some x -> k'.l[j]? = some y -> LikeN n x y) (hci: CdIn w1 k')
 (hoff: (∀ q,k'.a = some q -> wr.heap.size <= q.block) /\ (∀ q,k'.b = some q -> wr.heap.size <= q.block) /\ ∀ x ∈ k'.l,∀ m,OffN (fun b => wr.heap.size <= b) m x) (hb: Below wr.heap.size wr w1) (hs: w1.heap.size <= W3.heap.size) (h3: ∀ q,q ≠ w.heap.size -> W3.heap[q]? = w1.heap[q]?) (hb3: Below w.heap.size w1 W3): OfP n l w (.returned (cdV k')) W3 :=
 ⟨k',rfl,hts,hle,hlk,⟨hci.ts.turn hs fun b o e _ => h3 b (by have := hoff.1 _ e; simp only at this; omega),hci.ok,hci.ns.turn hs fun b o e _ => h3 b (by have := hoff.2.1 _ e; simp only at this; omega),hci.len,fun x hx m => (hci.ins x hx m).turn (hoff.2.2 x hx m) hs fun b _ hb => h3 b (by omega)⟩,(hB.trans (hb.mono hB.size)).trans hb3⟩
set_option linter.unusedSimpArgs false in
theorem predOfB_walk (n: Nat) (hn: n <= 65536) {l: List NL} {a: Option Addr} {c: Nat} {w: World} (hS: Rw.SlG nC 7 w a l) (hl: l.length <= 600000) (hI: ∀ k ∈ l,∀ m,InN m w k) (hf: ∀ k ∈ l,∀ z ∈ k.kids,VFit z.val /\ fits z.col = true) (hd: ∀ k ∈ l,deepN n k = false) (ho: ∀ k ∈ l,OpN n k): Calls Tryz.prog 39 #[.slice a l.length c] w (OfP n l w) := by
 have HS := Rw.dh hS
 have HI := Rw.dh hI
 have HT := Rw.dh (fun k (hk: k ∈ l) W (hb: Below w.heap.size w W) => testOf_walk k W ((hI k hk 1).on hb))
 have HD := Rw.dh hd
 have HO := Rw.dh ho
 have HF := Rw.dh hf
 clear hS hI hd ho hf
 go_enter Tryz.func39,Tryz.ntmps39
 go_wp2_with fail
 have HS0: Hid (OfI n w l (w.alloc (.cells #[.slice none 0 0, .slice none 0 0] 78) |>.alloc (.cells #[.slice none 0 0, .slice none 0 0] 78)) (.slice none 0 0) (.slice none 0 0) 0) := ⟨Two.zero (fun b hb => by omega) (by omega) (heap_two w _ _) (below_two w _ _),(Below.heap_alloc _ _ _ (by simp)).trans (Rw.heap_new w _)⟩
 go_loopw [10] (fun i wr => ∃ (j: Nat) (v0 v1: Value),j <= l.length /\ i = .int .i64 (j: Int) /\ Hid (OfI n w l wr v0 v1 j)) (fun i _ => l.length - (intOf i).toNat)
 case atStart => exact ⟨0,_,_,Nat.zero_le _,rfl,HS0⟩
 case round =>
  obtain ⟨j,v0,v1,hj,rfl,HR⟩ := hrel
  have hlp := HR.out.two.lt
  by_cases hlt: j < l.length
  · obtain ⟨b,o,k,rfl,hb,hx,hc⟩ := (HS.out.below HR.out.two.bel).at hlt
    have HX := Rw.dh hx
    have HTk := Rw.dh (HT.out k (List.mem_of_getElem? hx))
    have HIk := Rw.dh (HI.out k (List.mem_of_getElem? hx))
    have c0: wr.cell? ⟨b,o + j * 7,none⟩ = some (.string k.op) := hc 0 _ rfl
    have c1: wr.cell? ⟨b,o + j * 7 + 1,none⟩ = some (.int .i64 k.vk) := hc 1 _ rfl
    have c2: wr.cell? ⟨b,o + j * 7 + 2,none⟩ = some (.int .i64 k.vn) := hc 2 _ rfl
    have c3: wr.cell? ⟨b,o + j * 7 + 3,none⟩ = some (.string k.vs) := hc 3 _ rfl
    have c4: wr.cell? ⟨b,o + j * 7 + 4,none⟩ = some (.int .i64 k.var) := hc 4 _ rfl
    have c5: wr.cell? ⟨b,o + j * 7 + 5,none⟩ = some (.int .i64 k.col) := hc 5 _ rfl
    have c6: wr.cell? ⟨b,o + j * 7 + 6,none⟩ = some (.slice k.a k.kids.length k.c) := hc 6 _ rfl
    clear hc hx
    go_wp2_with fail
    refine (HTk.out _ (HR.out.two.bel.trans ((Rw.below_alloc wr _).mono HR.out.two.bel.size))).mono ?_
    rintro e w1 ⟨rfl,hb1⟩
    have hkb := (hb1.block wr.heap.size (by simp)).trans (Rw.heap_new wr (.cells #[.string k.op, .int .i64 k.vk, .int .i64 k.vn, .string k.vs, .int .i64 k.var, .int .i64 k.col, .slice k.a k.kids.length k.c] 44))
    obtain ⟨d0,d1,d2,d3,d4,d5,d6⟩ := obox hkb
    have HR1 := Rw.dh (HR.out.on (below_on (Rw.below_alloc wr _) hb1))
    have hkl := (Array.getElem?_eq_some_iff.1 hkb).1
    clear hb1 hkb c0 c1 c2 c3 c4 c5 c6 hb HR hlp
    obtain ⟨⟨t,ok⟩,hr⟩: ∃ r,r = testN k := ⟨_,rfl⟩
    have HTN := Rw.dh hr
    rw [<- hr]
    clear hr
    obtain ⟨t0,⟨t1,t2,⟨t3,t4,t5⟩⟩,⟨t6,t7,⟨t8,t9,t10⟩⟩⟩ := t
    unfold tlV
    have z0: w1.cell? ⟨w.heap.size + 1,0,none⟩ = some v0 := by rw [cell_of_row _ _ _ _ _ _ HR1.out.two.box]; rfl
    have z1: w1.cell? ⟨w.heap.size + 1,1,none⟩ = some v1 := by rw [cell_of_row _ _ _ _ _ _ HR1.out.two.box]; rfl
    have hl1 := HR1.out.two.lt
    cases ok
    · go_wp2_with (at_builtin; revert HR1)
      intro HR1
      refine Rw.to_letter (F := fun V => Below w1.heap.size w1 V /\ Rw.Src V (some ⟨w1.heap.size + 1,0,none⟩) 1 1 (nC k)) ⟨below_two w1 _ _,Rw.src_new _ (nC k) _ 1 1 (by simp)⟩ ?_
      rintro V ⟨hV,sV⟩
      have hRV := HR1.out.on hV
      have hlen: (restN (l.take j)).length <= j := Nat.le_trans (restN_len _) (by rw [List.length_take]; omega)
      refine append_bigN Tryz.underlying42 infoCN rfl (by decide) rfl _ _ rfl (w.heap.size + 1 + 1) hRV.two.lt v1 (restN (l.take j)).length (Rw.flat nC (restN (l.take j))) rfl hRV.two.n _ 1 1 (nC k) rfl sV rfl (nC_one _) (by unfold maxLen; omega) (by omega) ?_
      intro v2 W2 O2 G2 hv2
      have hb2 := (G2.block _ hRV.two.lt hRV.two.ne1.symm).trans hRV.two.box
      have hsnoc := take_snoc HX.out
      have HR2: Hid (OfI n w l (W2.setCell ⟨w.heap.size + 1,1,none⟩ v2) v0 v2 (j + 1)) := by
       refine ⟨?_, ?_⟩
       · rw [hsnoc,testsN_snoc,restN_snoc, <- HTN.out]
         have h1: testsN (l.take j) ++ [] = testsN (l.take j) := List.append_nil _
         simp only [if_true,if_false,Bool.false_eq_true,List.append_nil]
         exact hRV.two.addN (fun m => ⟨((HIk.out m).on hRV.two.bel),(HIk.out m).old.mono fun b hb => ⟨hb,fun e => (by have := (hRV.two.t.lt b e).1; omega),fun e => (by have := (hRV.two.n.lt b e).1; omega)⟩⟩) (by rw [Rw.flat_append]; simpa [Rw.flat] using O2) G2 hv2
       · have h0 := (Array.getElem?_eq_some_iff.1 hRV.res).1
         exact (heap_setCell_other _ _ _ _ (show w.heap.size ≠ w.heap.size + 1 by omega)).trans ((G2.block _ h0 fun e => by have := (hRV.two.n.lt _ e.symm).1; omega).trans hRV.res)
      obtain ⟨av,cv,rfl⟩ := Rw.owns_slice O2
      have y0: W2.cell? ⟨w.heap.size + 1,1,none⟩ = some v1 := by rw [cell_of_row _ _ _ _ _ _ hb2]; rfl
      have y1: W2.frozen? ⟨w.heap.size + 1,1,none⟩ = false := frozen_of_row _ _ _ _ _ hb2
      have y2 := (Array.getElem?_eq_some_iff.1 hb2).1
      clear O2 G2 hv2 hb2 hRV hV sV HR1 z0 z1 d0 d1 d2 d3 d4 d5 d6
      go_wp2_with fail
      exact ⟨⟨j + 1,_,_,hlt,by go_num,HR2⟩,by simp [intOf]; omega⟩
    · go_wp2_with (at_builtin; revert HR1)
      intro HR1
      refine Rw.to_letter (F := fun V => Below w1.heap.size w1 V /\ Rw.Src V (some ⟨w1.heap.size + 1,0,none⟩) 1 1 (tlC ⟨t0,⟨t1,t2,⟨t3,t4,t5⟩⟩,⟨t6,t7,⟨t8,t9,t10⟩⟩⟩)) ⟨below_two w1 _ _,Rw.src_new _ (tlC ⟨t0,⟨t1,t2,⟨t3,t4,t5⟩⟩,⟨t6,t7,⟨t8,t9,t10⟩⟩⟩) _ 1 1 (by simp)⟩ ?_
      rintro V ⟨hV,sV⟩
      have hRV := HR1.out.on hV
      have hlen: (testsN (l.take j)).length <= j := Nat.le_trans (testsN_len _) (by rw [List.length_take]; omega)
      refine append_bigN Tryz.underlying76 infoCT rfl (by decide) rfl _ _ rfl (w.heap.size + 1 + 1) hRV.two.lt v0 (testsN (l.take j)).length (Rw.flat tlC (testsN (l.take j))) rfl hRV.two.t _ 1 1 (tlC ⟨t0,⟨t1,t2,⟨t3,t4,t5⟩⟩,⟨t6,t7,⟨t8,t9,t10⟩⟩⟩) rfl sV rfl (tlC_one _) (by unfold maxLen; omega) (by omega) ?_
      intro v2 W2 O2 G2 hv2
      have hb2 := (G2.block _ hRV.two.lt hRV.two.ne0.symm).trans hRV.two.box
      have hsnoc := take_snoc HX.out
      have HR2: Hid (OfI n w l (W2.setCell ⟨w.heap.size + 1,0,none⟩ v2) v2 v1 (j + 1)) := by
       refine ⟨?_, ?_⟩
       · rw [hsnoc,testsN_snoc,restN_snoc, <- HTN.out]
         have h1: restN (l.take j) ++ [] = restN (l.take j) := List.append_nil _
         simp only [if_true,if_false,Bool.false_eq_true,List.append_nil]
         exact hRV.two.addT (by rw [Rw.flat_append]; simpa [Rw.flat] using O2) G2 hv2
       · have h0 := (Array.getElem?_eq_some_iff.1 hRV.res).1
         exact (heap_setCell_other _ _ _ _ (show w.heap.size ≠ w.heap.size + 1 by omega)).trans ((G2.block _ h0 fun e => by have := (hRV.two.t.lt _ e.symm).1; omega).trans hRV.res)
      obtain ⟨av,cv,rfl⟩ := Rw.owns_slice O2
      have y0: W2.cell? ⟨w.heap.size + 1,0,none⟩ = some v0 := by rw [cell_of_row _ _ _ _ _ _ hb2]; rfl
      have y1: W2.frozen? ⟨w.heap.size + 1,0,none⟩ = false := frozen_of_row _ _ _ _ _ hb2
      have y2 := (Array.getElem?_eq_some_iff.1 hb2).1
      clear O2 G2 hv2 hb2 hRV hV sV HR1 z0 z1 d0 d1 d2 d3 d4 d5 d6
      go_wp2_with fail
      exact ⟨⟨j + 1,_,_,hlt,by go_num,HR2⟩,by simp [intOf]; omega⟩
  · have hjs: j = l.length := by omega
    subst hjs
    have hR := HR.out
    obtain ⟨hR2,hRr⟩ := hR
    rw [List.take_length] at hR2
    have hrf := restN_len l
    have htf := testsN_len l
    obtain ⟨ca,cc,cb,cd,rfl,rfl,hCd⟩ := hR2.done ⟨by unfold maxLen; omega,testsN_ok HF.out⟩ (by omega)
    have HC := Rw.dh (copiedB_walk n hn ⟨ca,cc,testsN l,cb,cd,restN l⟩ hCd (by show (testsN l).length <= 600000; omega) (fun x hx => HD.out x (restN_mem hx)) (fun x hx => HO.out x (restN_mem hx)))
    have q0: wr.cell? ⟨w.heap.size + 1,0,none⟩ = some (.slice ca (testsN l).length cc) := by rw [cell_of_row _ _ _ _ _ _ hR2.box]; rfl
    have q1: wr.cell? ⟨w.heap.size + 1,1,none⟩ = some (.slice cb (restN l).length cd) := by rw [cell_of_row _ _ _ _ _ _ hR2.box]; rfl
    have HBl := Rw.dh hR2.bel
    have HRr := Rw.dh hRr
    unfold cdV at HC
    simp only at HC
    clear hR2 hRr hCd HR
    go_wp2_with fail
    refine HC.out.mono ?_
    rintro e w1 ⟨k',rfl,hts,hle,hlk,hci,hoff,hb1⟩
    have hrb := (hb1.block _ (Array.getElem?_eq_some_iff.1 HRr.out).1).trans HRr.out
    have HE := Rw.dh (fun (W3: World) hs h3 hb => of_end (W3 := W3) (n := n) HBl.out (Array.getElem?_eq_some_iff.1 HRr.out).1 hts hle hlk hci hoff hb1 hs h3 hb)
    have r0: w1.cell? ⟨w.heap.size,0,none⟩ = some (.slice none 0 0) := by rw [cell_of_row _ _ _ _ _ _ hrb]; rfl
    have r1: w1.cell? ⟨w.heap.size,1,none⟩ = some (.slice none 0 0) := by rw [cell_of_row _ _ _ _ _ _ hrb]; rfl
    have rf := fun o => frozen_of_row _ _ o _ _ hrb
    have hrl := (Array.getElem?_eq_some_iff.1 hrb).1
    clear hts hle hlk hci hoff hb1 hrb q0 q1
    obtain ⟨ka,kc,kt,kb,kd,kl⟩ := k'
    unfold cdV at HE ⊢
    go_wp2_with fail
    refine bodyPost_ret (v := .agg #[.slice ka kt.length kc, .slice kb kl.length kd]) (by simp [results,Tryz.results39,go_sem,r0,r1]) rfl (HE.out _ (by simp) (fun q hq => by rw [heap_setCell_other _ _ _ _ hq,heap_setCell_other _ _ _ _ hq]) (((Below.refl _ w1).setCell (p := ⟨w.heap.size,0,none⟩) (Nat.le_refl _) _).setCell (p := ⟨w.heap.size,1,none⟩) (Nat.le_refl _) _))
theorem predOf_walk (n: Nat) (hn: n <= 65536) {l: List NL} {a: Option Addr} {c: Nat} {w: World} (hS: Rw.SlG nC 7 w a l) (hl: l.length <= 1000) (hI: ∀ k ∈ l,∀ m,InN m w k) (hf: ∀ k ∈ l,∀ z ∈ k.kids,VFit z.val /\ fits z.col = true) (hd: ∀ k ∈ l,deepN n k = false) (ho: ∀ k ∈ l,OpN n k): Calls Tryz.prog 39 #[.slice a l.length c] w (OfP n l w) :=
 predOfB_walk n hn hS (by omega) hI hf hd ho
end Go.Proofs.YteibhbnlcpejpaaGreat
