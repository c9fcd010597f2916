import Derived.Test.YteibhbnlcpejpaaGreatMBI
import Derived.Test.YteibhbnlcpejpaaGreatMBZ
import Derived.Test.YteibhbnlcpejpaaGreatMBM
set_option maxRecDepth 100000
set_option maxHeartbeats 4000000
namespace Go.Proofs.YteibhbnlcpejpaaGreat
open Go.RowKit
def xA: NL := .mk ⟨#[99,111,108,117,109,110]⟩ 0 0 ⟨#[]⟩ 0 0 none 0 []
def xB: NL := .mk ⟨#[99,111,108,117,109,110]⟩ 0 0 ⟨#[]⟩ 0 1 none 0 []
def xN (n: Int): NL := .mk ⟨#[118,97,108,117,101]⟩ 2 n ⟨#[]⟩ 0 0 none 0 []
def H2 (w: World) (p: Nat) (x y: NL): Prop := w.heap[p]? = some (.cells (nC x ++ nC y).toArray 44 (0,0))
theorem slg_flat {α: Type} {f: α -> List Value} {k: Nat} (hf: ∀ x,(f x).length = k) {W: World} {b: Nat} {l: List α} {T: TypeId} {fz: Nat × Nat} (h: W.heap[b]? = some (.cells (Rw.flat f l).toArray T fz)): Rw.SlG f k W (some ⟨b,0,none⟩) l := by
 refine Or.inr ⟨b,0,rfl,(Array.getElem?_eq_some_iff.1 h).1,fun j x hj i u hu => ?_⟩
 rw [Nat.zero_add,cell_of_row _ _ _ _ _ _ h]
 have := Rw.flat_at hf l j x hj i u hu
 simpa using this
theorem H2.slg {w: World} {p: Nat} {x y: NL} (h: H2 w p x y): Rw.SlG nC 7 w (some ⟨p,0,none⟩) [x,y] := slg_flat nC_len (by have h' := h; unfold H2 at h'; simpa [Rw.flat] using h')
theorem leafN {x: NL} (hk: x.kids = []) (h: NOk x): ∀ n w,InN n w x
 | 0,_ => trivial
 | n + 1,w => ⟨h,by rw [hk]; exact Or.inl rfl,fun k hk' => by rw [hk] at hk'; cases hk'⟩
theorem twoN {x y k: NL} {p: Nat} {w: World} (hx: NOk k) (ha: k.a = some ⟨p,0,none⟩) (hkk: k.kids = [x,y]) (h: H2 w p x y) (h1: ∀ n,InN n w x) (h2: ∀ n,InN n w y): ∀ n,InN n w k
 | 0 => trivial
 | n + 1 => ⟨hx,by rw [ha,hkk]; exact h.slg,fun z hz => by
  rw [hkk] at hz
  simp only [List.mem_cons,List.not_mem_nil,or_false] at hz
  rcases hz with rfl | rfl
  · exact h1 n
  · exact h2 n⟩
theorem smallN {x: NL} (h1: fits x.vk = true) (h2: fits x.vn = true) (h3: x.op.size <= 6) (h4: x.vs.size <= 6) (h7: x.kids.length <= 6): NOk x :=
 ⟨h1,h2,by omega,by omega,by omega⟩
def OfP (n: Nat) (l: List NL) (w: World) (e: Ending) (W: World): Prop := ∃ k': CondL,e = .returned (cdV k') /\ k'.ts = testsN l /\ k'.l.length = (restN l).length /\ (∀ (j: Nat) x y,(restN l)[j]? = some x -> k'.l[j]? = some y -> LikeN n x y) /\ CdIn W k' /\ Below w.heap.size w W
theorem take_snoc {α: Type} {l: List α} {j: Nat} {x: α} (h: l[j]? = some x): l.take (j + 1) = l.take j ++ [x] := by
 obtain ⟨hj,e⟩ := List.getElem?_eq_some_iff.1 h
 rw [List.take_succ_eq_append_getElem hj,e]
structure OfI (n: Nat) (w: World) (l: List NL) (W: World) (v0 v1: Value) (j: Nat): Prop where
 two: Two (fun b => b < w.heap.size) w (w.heap.size + 1) W v0 v1 (testsN (l.take j)) (restN (l.take j))
 res: W.heap[w.heap.size]? = some (.cells #[.slice none 0 0, .slice none 0 0] 78 (0,0))
theorem OfI.on {n: Nat} {w W U: World} {l: List NL} {v0 v1: Value} {j: Nat} (h: OfI n w l W v0 v1 j) (hb: Below W.heap.size W U): OfI n w l U v0 v1 j :=
 ⟨h.two.on hb,(hb.block _ (Array.getElem?_eq_some_iff.1 h.res).1).trans h.res⟩
theorem testN_ok {k: NL} (h: ∀ z ∈ k.kids,VFit z.val /\ fits z.col = true): TOk (testN k).1 := by
 obtain ⟨xo,xk,xn,xs,xv,xc,xa,xp,l⟩ := k
 have hz: TOk tlz := ⟨rfl,vz_fit,vz_fit⟩
 match l,h with
 | [],_ => exact hz
 | [z],h => exact ⟨(h z (by simp [NL.kids])).2,vz_fit,vz_fit⟩
 | [y,z],h =>
  have hy := h y (by simp [NL.kids])
  have hzz := h z (by simp [NL.kids])
  show TOk (comparedN xo y z).1
  unfold comparedN
  split
  · exact ⟨hzz.2,(boundsN_fit hy.1).1,(boundsN_fit hy.1).2⟩
  · exact ⟨hy.2,(boundsN_fit hzz.1).1,(boundsN_fit hzz.1).2⟩
 | _ :: _ :: _ :: _,_ => exact hz
theorem testsN_ok: ∀ {l: List NL},(∀ k ∈ l,∀ z ∈ k.kids,VFit z.val /\ fits z.col = true) -> ∀ t ∈ testsN l,TOk t
 | [],_,t,ht => by cases ht
 | x :: l,h,t,ht => by
  rw [testsN] at ht
  split at ht
  · rcases List.mem_cons.1 ht with rfl | ht
    · exact testN_ok (h x List.mem_cons_self)
    · exact testsN_ok (fun k hk => h k (List.mem_cons_of_mem _ hk)) t ht
  · exact testsN_ok (fun k hk => h k (List.mem_cons_of_mem _ hk)) t ht
theorem of_end {n: Nat} {l: List NL} {w wr w1 W3: World} {k': CondL} (hB: Below w.heap.size w wr) (hl: w.heap.size < wr.heap.size) (hts: k'.ts = testsN l) (hle: k'.l.length = (restN l).length) (hlk: ∀ (j: Nat) x y,(restN l)[j]? = some x -> k'.l[j]? = some y -> LikeN n x y) (hci: CdIn w1 k')
 (hoff: (∀ q,k'.a = some q -> wr.heap.size <= q.block) /\ (∀ q,k'.b = some q -> wr.heap.size <= q.block) /\ ∀ x ∈ k'.l,∀ m,OffN (fun b => wr.heap.size <= b) m x) (hb: Below wr.heap.size wr w1) (hs: w1.heap.size <= W3.heap.size) (h3: ∀ q,q ≠ w.heap.size -> W3.heap[q]? = w1.heap[q]?) (hb3: Below w.heap.size w1 W3): OfP n l w (.returned (cdV k')) W3 :=
 ⟨k',rfl,hts,hle,hlk,⟨hci.ts.turn hs fun b o e _ => h3 b (by have := hoff.1 _ e; simp only at this; omega),hci.ok,hci.ns.turn hs fun b o e _ => h3 b (by have := hoff.2.1 _ e; simp only at this; omega),hci.len,fun x hx m => (hci.ins x hx m).turn (hoff.2.2 x hx m) hs fun b _ hb => h3 b (by omega)⟩,(hB.trans (hb.mono hB.size)).trans hb3⟩
set_option linter.unusedSimpArgs false in
theorem predOf_walk (n: Nat) (hn: n <= 65536) {l: List NL} {a: Option Addr} {c: Nat} {w: World} (hS: Rw.SlG nC 7 w a l) (hl: l.length <= 1000) (hI: ∀ k ∈ l,∀ m,InN m w k) (hf: ∀ k ∈ l,∀ z ∈ k.kids,VFit z.val /\ fits z.col = true) (hd: ∀ k ∈ l,deepN n k = false) (ho: ∀ k ∈ l,OpN n k): Calls Tryz.prog 39 #[.slice a l.length c] w (OfP n l w) := by
 have HS := Rw.dh hS
 have HI := Rw.dh hI
 have HT := Rw.dh (fun k (hk: k ∈ l) W (hb: Below w.heap.size w W) => testOf_walk k W ((hI k hk 1).on hb))
 have HD := Rw.dh hd
 have HO := Rw.dh ho
 have HF := Rw.dh hf
 clear hS hI hd ho hf
 go_enter Tryz.func39,Tryz.ntmps39
 go_wp2_with fail
 have HS0: Hid (OfI n w l (w.alloc (.cells #[.slice none 0 0, .slice none 0 0] 78) |>.alloc (.cells #[.slice none 0 0, .slice none 0 0] 78)) (.slice none 0 0) (.slice none 0 0) 0) := ⟨Two.zero (fun b hb => by omega) (by omega) (heap_two w _ _) (below_two w _ _),(Below.heap_alloc _ _ _ (by simp)).trans (Rw.heap_new w _)⟩
 go_loopw [10] (fun i wr => ∃ (j: Nat) (v0 v1: Value),j <= l.length /\ i = .int .i64 (j: Int) /\ Hid (OfI n w l wr v0 v1 j)) (fun i _ => l.length - (intOf i).toNat)
 case atStart => exact ⟨0,_,_,Nat.zero_le _,rfl,HS0⟩
 case round =>
  obtain ⟨j,v0,v1,hj,rfl,HR⟩ := hrel
  have hlp := HR.out.two.lt
  by_cases hlt: j < l.length
  · obtain ⟨b,o,k,rfl,hb,hx,hc⟩ := (HS.out.below HR.out.two.bel).at hlt
    have HX := Rw.dh hx
    have HTk := Rw.dh (HT.out k (List.mem_of_getElem? hx))
    have HIk := Rw.dh (HI.out k (List.mem_of_getElem? hx))
    have c0: wr.cell? ⟨b,o + j * 7,none⟩ = some (.string k.op) := hc 0 _ rfl
    have c1: wr.cell? ⟨b,o + j * 7 + 1,none⟩ = some (.int .i64 k.vk) := hc 1 _ rfl
    have c2: wr.cell? ⟨b,o + j * 7 + 2,none⟩ = some (.int .i64 k.vn) := hc 2 _ rfl
    have c3: wr.cell? ⟨b,o + j * 7 + 3,none⟩ = some (.string k.vs) := hc 3 _ rfl
    have c4: wr.cell? ⟨b,o + j * 7 + 4,none⟩ = some (.int .i64 k.var) := hc 4 _ rfl
    have c5: wr.cell? ⟨b,o + j * 7 + 5,none⟩ = some (.int .i64 k.col) := hc 5 _ rfl
    have c6: wr.cell? ⟨b,o + j * 7 + 6,none⟩ = some (.slice k.a k.kids.length k.c) := hc 6 _ rfl
    clear hc hx
    go_wp2_with fail
    refine (HTk.out _ (HR.out.two.bel.trans ((Rw.below_alloc wr _).mono HR.out.two.bel.size))).mono ?_
    rintro e w1 ⟨rfl,hb1⟩
    have hkb := (hb1.block wr.heap.size (by simp)).trans (Rw.heap_new wr (.cells #[.string k.op, .int .i64 k.vk, .int .i64 k.vn, .string k.vs, .int .i64 k.var, .int .i64 k.col, .slice k.a k.kids.length k.c] 44))
    obtain ⟨d0,d1,d2,d3,d4,d5,d6⟩ := obox hkb
    have HR1 := Rw.dh (HR.out.on (below_on (Rw.below_alloc wr _) hb1))
    have hkl := (Array.getElem?_eq_some_iff.1 hkb).1
    clear hb1 hkb c0 c1 c2 c3 c4 c5 c6 hb HR hlp
    obtain ⟨⟨t,ok⟩,hr⟩: ∃ r,r = testN k := ⟨_,rfl⟩
    have HTN := Rw.dh hr
    rw [<- hr]
    clear hr
    obtain ⟨t0,⟨t1,t2,⟨t3,t4,t5⟩⟩,⟨t6,t7,⟨t8,t9,t10⟩⟩⟩ := t
    unfold tlV
    have z0: w1.cell? ⟨w.heap.size + 1,0,none⟩ = some v0 := by rw [cell_of_row _ _ _ _ _ _ HR1.out.two.box]; rfl
    have z1: w1.cell? ⟨w.heap.size + 1,1,none⟩ = some v1 := by rw [cell_of_row _ _ _ _ _ _ HR1.out.two.box]; rfl
    have hl1 := HR1.out.two.lt
    cases ok
    · go_wp2_with (at_builtin; revert HR1)
      intro HR1
      refine Rw.to_letter (F := fun V => Below w1.heap.size w1 V /\ Rw.Src V (some ⟨w1.heap.size + 1,0,none⟩) 1 1 (nC k)) ⟨below_two w1 _ _,Rw.src_new _ (nC k) _ 1 1 (by simp)⟩ ?_
      rintro V ⟨hV,sV⟩
      have hRV := HR1.out.on hV
      have hlen: (restN (l.take j)).length <= j := Nat.le_trans (restN_len _) (by rw [List.length_take]; omega)
      refine append_bigN Tryz.underlying42 infoCN rfl (by decide) rfl _ _ rfl (w.heap.size + 1 + 1) hRV.two.lt v1 (restN (l.take j)).length (Rw.flat nC (restN (l.take j))) rfl hRV.two.n _ 1 1 (nC k) rfl sV rfl (nC_one _) (by unfold maxLen; omega) (by omega) ?_
      intro v2 W2 O2 G2 hv2
      have hb2 := (G2.block _ hRV.two.lt hRV.two.ne1.symm).trans hRV.two.box
      have hsnoc := take_snoc HX.out
      have HR2: Hid (OfI n w l (W2.setCell ⟨w.heap.size + 1,1,none⟩ v2) v0 v2 (j + 1)) := by
       refine ⟨?_, ?_⟩
       · rw [hsnoc,testsN_snoc,restN_snoc, <- HTN.out]
         have h1: testsN (l.take j) ++ [] = testsN (l.take j) := List.append_nil _
         simp only [if_true,if_false,Bool.false_eq_true,List.append_nil]
         exact hRV.two.addN (fun m => ⟨((HIk.out m).on hRV.two.bel),(HIk.out m).old.mono fun b hb => ⟨hb,fun e => (by have := (hRV.two.t.lt b e).1; omega),fun e => (by have := (hRV.two.n.lt b e).1; omega)⟩⟩) (by rw [Rw.flat_append]; simpa [Rw.flat] using O2) G2 hv2
       · have h0 := (Array.getElem?_eq_some_iff.1 hRV.res).1
         exact (heap_setCell_other _ _ _ _ (show w.heap.size ≠ w.heap.size + 1 by omega)).trans ((G2.block _ h0 fun e => by have := (hRV.two.n.lt _ e.symm).1; omega).trans hRV.res)
      obtain ⟨av,cv,rfl⟩ := Rw.owns_slice O2
      have y0: W2.cell? ⟨w.heap.size + 1,1,none⟩ = some v1 := by rw [cell_of_row _ _ _ _ _ _ hb2]; rfl
      have y1: W2.frozen? ⟨w.heap.size + 1,1,none⟩ = false := frozen_of_row _ _ _ _ _ hb2
      have y2 := (Array.getElem?_eq_some_iff.1 hb2).1
      clear O2 G2 hv2 hb2 hRV hV sV HR1 z0 z1 d0 d1 d2 d3 d4 d5 d6
      go_wp2_with fail
      exact ⟨⟨j + 1,_,_,hlt,by go_num,HR2⟩,by simp [intOf]; omega⟩
    · go_wp2_with (at_builtin; revert HR1)
      intro HR1
      refine Rw.to_letter (F := fun V => Below w1.heap.size w1 V /\ Rw.Src V (some ⟨w1.heap.size + 1,0,none⟩) 1 1 (tlC ⟨t0,⟨t1,t2,⟨t3,t4,t5⟩⟩,⟨t6,t7,⟨t8,t9,t10⟩⟩⟩)) ⟨below_two w1 _ _,Rw.src_new _ (tlC ⟨t0,⟨t1,t2,⟨t3,t4,t5⟩⟩,⟨t6,t7,⟨t8,t9,t10⟩⟩⟩) _ 1 1 (by simp)⟩ ?_
      rintro V ⟨hV,sV⟩
      have hRV := HR1.out.on hV
      have hlen: (testsN (l.take j)).length <= j := Nat.le_trans (testsN_len _) (by rw [List.length_take]; omega)
      refine append_bigN Tryz.underlying76 infoCT rfl (by decide) rfl _ _ rfl (w.heap.size + 1 + 1) hRV.two.lt v0 (testsN (l.take j)).length (Rw.flat tlC (testsN (l.take j))) rfl hRV.two.t _ 1 1 (tlC ⟨t0,⟨t1,t2,⟨t3,t4,t5⟩⟩,⟨t6,t7,⟨t8,t9,t10⟩⟩⟩) rfl sV rfl (tlC_one _) (by unfold maxLen; omega) (by omega) ?_
      intro v2 W2 O2 G2 hv2
      have hb2 := (G2.block _ hRV.two.lt hRV.two.ne0.symm).trans hRV.two.box
      have hsnoc := take_snoc HX.out
      have HR2: Hid (OfI n w l (W2.setCell ⟨w.heap.size + 1,0,none⟩ v2) v2 v1 (j + 1)) := by
       refine ⟨?_, ?_⟩
       · rw [hsnoc,testsN_snoc,restN_snoc, <- HTN.out]
         have h1: restN (l.take j) ++ [] = restN (l.take j) := List.append_nil _
         simp only [if_true,if_false,Bool.false_eq_true,List.append_nil]
         exact hRV.two.addT (by rw [Rw.flat_append]; simpa [Rw.flat] using O2) G2 hv2
       · have h0 := (Array.getElem?_eq_some_iff.1 hRV.res).1
         exact (heap_setCell_other _ _ _ _ (show w.heap.size ≠ w.heap.size + 1 by omega)).trans ((G2.block _ h0 fun e => by have := (hRV.two.t.lt _ e.symm).1; omega).trans hRV.res)
      obtain ⟨av,cv,rfl⟩ := Rw.owns_slice O2
      have y0: W2.cell? ⟨w.heap.size + 1,0,none⟩ = some v0 := by rw [cell_of_row _ _ _ _ _ _ hb2]; rfl
      have y1: W2.frozen? ⟨w.heap.size + 1,0,none⟩ = false := frozen_of_row _ _ _ _ _ hb2
      have y2 := (Array.getElem?_eq_some_iff.1 hb2).1
      clear O2 G2 hv2 hb2 hRV hV sV HR1 z0 z1 d0 d1 d2 d3 d4 d5 d6
      go_wp2_with fail
      exact ⟨⟨j + 1,_,_,hlt,by go_num,HR2⟩,by simp [intOf]; omega⟩
  · have hjs: j = l.length := by omega
    subst hjs
    have hR := HR.out
    obtain ⟨hR2,hRr⟩ := hR
    rw [List.take_length] at hR2
    have hrf := restN_len l
    have htf := testsN_len l
    obtain ⟨ca,cc,cb,cd,rfl,rfl,hCd⟩ := hR2.done ⟨by unfold maxLen; omega,testsN_ok HF.out⟩ (by omega)
    have HC := Rw.dh (copied_walk n hn ⟨ca,cc,testsN l,cb,cd,restN l⟩ hCd (by show (testsN l).length <= 1000; omega) (fun x hx => HD.out x (restN_mem hx)) (fun x hx => HO.out x (restN_mem hx)))
    have q0: wr.cell? ⟨w.heap.size + 1,0,none⟩ = some (.slice ca (testsN l).length cc) := by rw [cell_of_row _ _ _ _ _ _ hR2.box]; rfl
    have q1: wr.cell? ⟨w.heap.size + 1,1,none⟩ = some (.slice cb (restN l).length cd) := by rw [cell_of_row _ _ _ _ _ _ hR2.box]; rfl
    have HBl := Rw.dh hR2.bel
    have HRr := Rw.dh hRr
    unfold cdV at HC
    simp only at HC
    clear hR2 hRr hCd HR
    go_wp2_with fail
    refine HC.out.mono ?_
    rintro e w1 ⟨k',rfl,hts,hle,hlk,hci,hoff,hb1⟩
    have hrb := (hb1.block _ (Array.getElem?_eq_some_iff.1 HRr.out).1).trans HRr.out
    have HE := Rw.dh (fun (W3: World) hs h3 hb => of_end (W3 := W3) (n := n) HBl.out (Array.getElem?_eq_some_iff.1 HRr.out).1 hts hle hlk hci hoff hb1 hs h3 hb)
    have r0: w1.cell? ⟨w.heap.size,0,none⟩ = some (.slice none 0 0) := by rw [cell_of_row _ _ _ _ _ _ hrb]; rfl
    have r1: w1.cell? ⟨w.heap.size,1,none⟩ = some (.slice none 0 0) := by rw [cell_of_row _ _ _ _ _ _ hrb]; rfl
    have rf := fun o => frozen_of_row _ _ o _ _ hrb
    have hrl := (Array.getElem?_eq_some_iff.1 hrb).1
    clear hts hle hlk hci hoff hb1 hrb q0 q1
    obtain ⟨ka,kc,kt,kb,kd,kl⟩ := k'
    unfold cdV at HE ⊢
    go_wp2_with fail
    refine bodyPost_ret (v := .agg #[.slice ka kt.length kc, .slice kb kl.length kd]) (by simp [results,Tryz.results39,go_sem,r0,r1]) rfl (HE.out _ (by simp) (fun q hq => by rw [heap_setCell_other _ _ _ _ hq,heap_setCell_other _ _ _ _ hq]) (((Below.refl _ w1).setCell (p := ⟨w.heap.size,0,none⟩) (Nat.le_refl _) _).setCell (p := ⟨w.heap.size,1,none⟩) (Nat.le_refl _) _))
def pEq (p: Nat): NL := .mk ⟨#[61]⟩ 0 0 ⟨#[]⟩ 0 0 (some ⟨p,0,none⟩) 2 [xA,xN 3]
def pNl (p: Nat): NL := .mk ⟨#[110,117,108,108]⟩ 0 0 ⟨#[]⟩ 0 0 (some ⟨p,0,none⟩) 1 [xB]
def pOr (p: Nat): NL := .mk ⟨#[111,114]⟩ 0 0 ⟨#[]⟩ 0 0 (some ⟨p,0,none⟩) 2 [xB,xB]
def pL (p q r: Nat): List NL := [pEq p,pNl q,pOr r]
def pT: List Tl := [⟨0,⟨true,true,⟨2,3,⟨#[]⟩⟩⟩,⟨true,true,⟨2,3,⟨#[]⟩⟩⟩⟩,⟨1,nullBd,nullBd⟩]
theorem colA: isColN xA = true := by simp [isColN,xA,NL.op,NL.var,NL.kids,nCOLUMN,ByteArray.toList_eq]
theorem colB: isColN xB = true := by simp [isColN,xB,NL.op,NL.var,NL.kids,nCOLUMN,ByteArray.toList_eq]
theorem col3: isColN (xN 3) = false := by simp [isColN,xN,NL.op,NL.var,NL.kids,nCOLUMN,ByteArray.toList_eq]
theorem kno3: isKnownN (xN 3) = true := by simp [isKnownN,xN,NL.op,NL.val,NL.vk,NL.vn,NL.vs,NL.kids,nVALUE,isZ,ByteArray.toList_eq]
theorem knoB: isKnownN xB = false := by simp [isKnownN,xB,NL.op,NL.val,NL.vk,NL.vn,NL.vs,NL.kids,nVALUE,ByteArray.toList_eq]
theorem t_eq (p: Nat): testN (pEq p) = (⟨0,⟨true,true,⟨2,3,⟨#[]⟩⟩⟩,⟨true,true,⟨2,3,⟨#[]⟩⟩⟩⟩,true) := by
 show comparedN ⟨#[61]⟩ xA (xN 3) = _
 unfold comparedN
 rw [if_neg (by rw [col3]; decide)]
 unfold cmpN
 rw [colA,kno3]
 simp [boundsN,ByteArray.toList_eq,xN,xA,NL.val,NL.vk,NL.vn,NL.vs,NL.col]
theorem t_nl (p: Nat): testN (pNl p) = (⟨1,nullBd,nullBd⟩,true) := by
 show ((⟨xB.col,nullBd,nullBd⟩: Tl),(pNl p).op.toList == nNULL && isColN xB) = _
 rw [colB]
 simp [pNl,NL.op,nNULL,ByteArray.toList_eq,xB,NL.col]
theorem t_or (p: Nat): (testN (pOr p)).2 = false := by
 show (comparedN ⟨#[111,114]⟩ xB xB).2 = _
 unfold comparedN
 rw [if_pos colB]
 unfold cmpN
 rw [knoB]
 simp
theorem pL_tests (p q r: Nat): testsN (pL p q r) = pT := by
 unfold pL
 rw [testsN,testsN,testsN,testsN,t_eq,t_nl,t_or]
 rfl
theorem pL_rest (p q r: Nat): restN (pL p q r) = [pOr r] := by
 unfold pL
 rw [restN,restN,restN,restN,t_eq,t_nl,t_or]
 rfl
theorem ordV_self (v: Vv): ordV v v = 0 := by have := ordV_swap v v; omega
theorem pL_met (n: Nat) (a: Option Addr) (c: Nat): meetsC n ⟨a,c,[⟨2,3,⟨#[]⟩⟩,vz]⟩ pT [] = true := by
 have h: ∀ v,inB ⟨true,true,v⟩ ⟨true,true,v⟩ v = true := fun v => by unfold inB; simp [ordV_self,letsB]
 have h1: metT [⟨2,3,⟨#[]⟩⟩,vz] ⟨0,⟨true,true,⟨2,3,⟨#[]⟩⟩⟩,⟨true,true,⟨2,3,⟨#[]⟩⟩⟩⟩ = true := (metT_at (v := ⟨2,3,⟨#[]⟩⟩) rfl).trans (h _)
 have h2: metT [⟨2,3,⟨#[]⟩⟩,vz] ⟨1,nullBd,nullBd⟩ = true := (metT_at (v := vz) rfl).trans (h _)
 simp [meetsC,pT,h1,h2,allN]
structure PIn (w: World) (p q r s: Nat): Prop where
 hp: w.heap[p]? = some (.cells (nC xA ++ nC (xN 3)).toArray 44 (0,0))
 hq: w.heap[q]? = some (.cells (nC xB).toArray 44 (0,0))
 hr: w.heap[r]? = some (.cells (nC xB ++ nC xB).toArray 44 (0,0))
 hs: w.heap[s]? = some (.cells (nC (pEq p) ++ nC (pNl q) ++ nC (pOr r)).toArray 44 (0,0))
theorem PIn.slg {w: World} {p q r s: Nat} (h: PIn w p q r s): Rw.SlG nC 7 w (some ⟨s,0,none⟩) (pL p q r) := slg_flat nC_len (by have := h.hs; simpa [Rw.flat,pL] using this)
theorem PIn.ins {w: World} {p q r s: Nat} (h: PIn w p q r s): ∀ k ∈ pL p q r,∀ n,InN n w k := by
 have sm: ∀ x: NL,fits x.vk = true -> fits x.vn = true -> x.op.size <= 6 -> x.vs.size <= 6 -> x.kids.length <= 6 -> NOk x := fun x a b c d e => smallN a b c d e
 have hA: ∀ n,InN n w xA := fun n => leafN rfl (sm _ rfl rfl (Nat.le_of_ble_eq_true rfl) (Nat.le_of_ble_eq_true rfl) (Nat.le_of_ble_eq_true rfl)) n w
 have hB: ∀ n,InN n w xB := fun n => leafN rfl (sm _ rfl rfl (Nat.le_of_ble_eq_true rfl) (Nat.le_of_ble_eq_true rfl) (Nat.le_of_ble_eq_true rfl)) n w
 have h3: ∀ n,InN n w (xN 3) := fun n => leafN rfl (sm _ rfl rfl (Nat.le_of_ble_eq_true rfl) (Nat.le_of_ble_eq_true rfl) (Nat.le_of_ble_eq_true rfl)) n w
 intro k hk
 simp only [pL,List.mem_cons,List.not_mem_nil,or_false] at hk
 rcases hk with rfl | rfl | rfl
 · exact twoN (sm _ rfl rfl (Nat.le_of_ble_eq_true rfl) (Nat.le_of_ble_eq_true rfl) (Nat.le_of_ble_eq_true rfl)) rfl rfl h.hp hA h3
 · intro n
   cases n with
   | zero => trivial
   | succ n =>
    refine ⟨sm _ rfl rfl (Nat.le_of_ble_eq_true rfl) (Nat.le_of_ble_eq_true rfl) (Nat.le_of_ble_eq_true rfl), ?_,fun z hz => ?_⟩
    · show Rw.SlG nC 7 w (some ⟨q,0,none⟩) [xB]
      exact slg_flat nC_len (by have := h.hq; simpa [Rw.flat] using this)
    · have: z = xB := by simpa [pNl,NL.kids] using hz
      rw [this]; exact hB n
 · exact twoN (sm _ rfl rfl (Nat.le_of_ble_eq_true rfl) (Nat.le_of_ble_eq_true rfl) (Nat.le_of_ble_eq_true rfl)) rfl rfl h.hr hB hB
theorem pL_deep (p q r: Nat): ∀ k ∈ pL p q r,deepN 2 k = false := by
 intro k hk
 simp only [pL,List.mem_cons,List.not_mem_nil,or_false] at hk
 rcases hk with rfl | rfl | rfl <;> rfl
theorem pL_op (p q r: Nat): ∀ k ∈ pL p q r,OpN 2 k := by
 intro k hk
 simp only [pL,List.mem_cons,List.not_mem_nil,or_false] at hk
 rcases hk with rfl | rfl | rfl <;> refine ⟨Nat.le_of_ble_eq_true rfl,fun z hz => ?_⟩
 all_goals
  simp only [pEq,pNl,pOr,NL.kids,List.mem_cons,List.not_mem_nil,or_false] at hz
  refine ⟨?_,fun y _ => trivial⟩
  first | (rcases hz with rfl | rfl <;> exact Nat.le_of_ble_eq_true rfl) | (rcases hz with rfl; exact Nat.le_of_ble_eq_true rfl)
theorem pL_fit (p q r: Nat): ∀ k ∈ pL p q r,∀ z ∈ k.kids,VFit z.val /\ fits z.col = true := by
 intro k hk z hz
 simp only [pL,List.mem_cons,List.not_mem_nil,or_false] at hk
 rcases hk with rfl | rfl | rfl
 all_goals
  simp only [pEq,pNl,pOr,NL.kids,List.mem_cons,List.not_mem_nil,or_false] at hz
  first | (rcases hz with rfl | rfl <;> exact ⟨⟨rfl,rfl,Nat.le_of_ble_eq_true rfl⟩,rfl⟩) | (rcases hz with rfl; exact ⟨⟨rfl,rfl,Nat.le_of_ble_eq_true rfl⟩,rfl⟩)
theorem pbuilt (w: World): Below w.heap.size w (((((((w.alloc (.cells (nC xA).toArray 44)).alloc (.cells (nC xB).toArray 44)).alloc (.cells (nC (xN 3)).toArray 44)).alloc (.cells (nC xA ++ nC (xN 3)).toArray 44)).alloc (.cells (nC xB).toArray 44)).alloc (.cells (nC xB ++ nC xB).toArray 44)).alloc (.cells (nC (pEq (w.heap.size + 3)) ++ nC (pNl (w.heap.size + 4)) ++ nC (pOr (w.heap.size + 5))).toArray 44)) /\
 PIn (((((((w.alloc (.cells (nC xA).toArray 44)).alloc (.cells (nC xB).toArray 44)).alloc (.cells (nC (xN 3)).toArray 44)).alloc (.cells (nC xA ++ nC (xN 3)).toArray 44)).alloc (.cells (nC xB).toArray 44)).alloc (.cells (nC xB ++ nC xB).toArray 44)).alloc (.cells (nC (pEq (w.heap.size + 3)) ++ nC (pNl (w.heap.size + 4)) ++ nC (pOr (w.heap.size + 5))).toArray 44)) (w.heap.size + 3) (w.heap.size + 4) (w.heap.size + 5) (w.heap.size + 6) := by
 refine ⟨?_, ?_, ?_, ?_, ?_⟩
 · exact ((((((Rw.below_alloc w _).alloc (by first | (simp; done) | (simp; omega)) _).alloc (by first | (simp; done) | (simp; omega)) _).alloc (by first | (simp; done) | (simp; omega)) _).alloc (by first | (simp; done) | (simp; omega)) _).alloc (by first | (simp; done) | (simp; omega)) _).alloc (by first | (simp; done) | (simp; omega)) _
 · exact (Below.heap_alloc _ _ _ (by first | (simp; done) | (simp; omega))).trans ((Below.heap_alloc _ _ _ (by first | (simp; done) | (simp; omega))).trans ((Below.heap_alloc _ _ _ (by first | (simp; done) | (simp; omega))).trans (Rw.heap_new' _ _ (by first | (simp; done) | (simp; omega)))))
 · exact (Below.heap_alloc _ _ _ (by first | (simp; done) | (simp; omega))).trans ((Below.heap_alloc _ _ _ (by first | (simp; done) | (simp; omega))).trans (Rw.heap_new' _ _ (by first | (simp; done) | (simp; omega))))
 · exact (Below.heap_alloc _ _ _ (by first | (simp; done) | (simp; omega))).trans (Rw.heap_new' _ _ (by first | (simp; done) | (simp; omega)))
 · exact Rw.heap_new' _ _ (by first | (simp; done) | (simp; omega))
theorem pawake_walk (w: World): Calls Tryz.prog 23 #[] w fun e w' => e = .returned (.bool true) /\ Below w.heap.size w w' := by
 go_enter Tryz.func23,Tryz.ntmps23
 go_wp2_with fail
 have hP := pbuilt w
 have HC := predOf_walk 2 (by decide) (c := 3) hP.2.slg (show 3 <= 1000 by decide) hP.2.ins (pL_fit _ _ _) (pL_deep _ _ _) (pL_op _ _ _)
 have HB := Rw.dh hP.1
 clear hP
 refine HC.mono ?_
 clear HC
 rintro e w1 ⟨k,rfl,hts,hle, -, hci,hb1⟩
 rw [pL_tests] at hts
 rw [pL_rest] at hle
 have HB1 := Rw.dh (HB.out.trans (hb1.mono HB.out.size))
 have HCi := Rw.dh hci
 clear hb1 HB hci
 obtain ⟨ka,kc,kt,kb,kd,kl⟩ := k
 simp only at hts hle
 subst hts
 unfold cdV
 simp only [hle,pT,List.length_cons,List.length_nil]
 go_wp2_with fail
 have hu := below_two w1 (.cells #[.slice ka 2 kc, .slice kb 1 kd] 78) (.cells #[.int .i64 2, .int .i64 3, .string ⟨#[]⟩, .int .i64 0, .int .i64 0, .string ⟨#[]⟩] 27)
 have hk: CdIn ((w1.alloc (.cells #[.slice ka 2 kc, .slice kb 1 kd] 78)).alloc (.cells #[.int .i64 2, .int .i64 3, .string ⟨#[]⟩, .int .i64 0, .int .i64 0, .string ⟨#[]⟩] 27)) ⟨ka,kc,pT,none,0,[]⟩ := ⟨HCi.out.ts.below hu,HCi.out.ok,Or.inl rfl,Nat.zero_le _,fun x hx => (by cases hx)⟩
 have hr: Rw.SlG vvC 3 ((w1.alloc (.cells #[.slice ka 2 kc, .slice kb 1 kd] 78)).alloc (.cells #[.int .i64 2, .int .i64 3, .string ⟨#[]⟩, .int .i64 0, .int .i64 0, .string ⟨#[]⟩] 27)) (some ⟨w1.heap.size + 1,0,none⟩) [⟨2,3,⟨#[]⟩⟩,vz] := slg_flat vvC_len (heap_two w1 _ _)
 have HM := meets_walk (n := 2) (by decide) ⟨ka,kc,pT,none,0,[]⟩ ⟨some ⟨w1.heap.size + 1,0,none⟩,2,[⟨2,3,⟨#[]⟩⟩,vz]⟩ hk (show 2 <= 1000 by decide) (fun x hx => (by cases hx)) (Nat.zero_le _) hr ⟨by simp [maxLen],fun v hv => (by
  simp only [List.mem_cons,List.not_mem_nil,or_false] at hv
  rcases hv with rfl | rfl <;> exact ⟨rfl,rfl,Nat.le_of_ble_eq_true rfl⟩)⟩
 rw [pL_met] at HM
 refine HM.mono ?_
 rintro e w2 ⟨rfl,hb2⟩
 have HB2 := Rw.dh (below_on HB1.out (below_on hu hb2))
 clear HM hk hr hu hb2 HCi HB1
 go_wp2
 go_ret
 exact ⟨rfl,HB2.out⟩
end Go.Proofs.YteibhbnlcpejpaaGreat
