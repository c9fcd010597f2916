import Derived.Test.YteibhbnlcpejpaaGreatMBE
import Derived.Test.YteibhbnlcpejpaaGreatMBM
import Derived.Test.YteibhbnlcpejpaaGreatMBR
import Derived.Test.YteibhbnlcpejpaaGreatMBT
set_option maxRecDepth 100000
set_option maxHeartbeats 4000000
namespace Go.Proofs.YteibhbnlcpejpaaGreat
open Go.RowKit
theorem offN_any: ∀ (n: Nat) (x: NL),OffN (fun _ => True) n x
 | 0,_ => trivial
 | n + 1,_ => ⟨Or.inr fun _ _ _ => trivial,fun k _ => offN_any n k⟩
theorem InN.old {n: Nat} {w: World} {x: NL} (h: InN n w x): OffN (fun b => b < w.heap.size) n x := (h.off (offN_any n x)).mono fun _ h => h.2
structure Two (P: Nat -> Prop) (w: World) (p: Nat) (W: World) (v0 v1: Value) (ts: List Tl) (l: List NL): Prop where
 old: w.heap.size <= p
 box: W.heap[p]? = some (.cells #[v0,v1] 78 (0,0))
 t: W.ownsRow (p + 1) 175 11 v0 ts.length (Rw.flat tlC ts)
 n: W.ownsRow (p + 1) 44 7 v1 l.length (Rw.flat nC l)
 ins: ∀ k ∈ l,∀ m,InN m W k /\ OffN (fun b => P b /\ v0.ownBlock ≠ some b /\ v1.ownBlock ≠ some b) m k
 bel: Below w.heap.size w W
 pne: ∀ b,P b -> b ≠ p
namespace Two
variable {P: Nat -> Prop} {w W U W2: World} {p: Nat} {v0 v1 v2: Value} {ts: List Tl} {l: List NL}
theorem lt (h: Two P w p W v0 v1 ts l): p < W.heap.size := (Array.getElem?_eq_some_iff.1 h.box).1
theorem ne0 (h: Two P w p W v0 v1 ts l): v0.ownBlock ≠ some p := fun e => by have := (h.t.lt p e).1; omega
theorem ne1 (h: Two P w p W v0 v1 ts l): v1.ownBlock ≠ some p := fun e => by have := (h.n.lt p e).1; omega
theorem ne (h: Two P w p W v0 v1 ts l) {q: Nat} (h0: v0.ownBlock = some q): v1.ownBlock ≠ some q := fun h1 => Rw.owns_ne h.t h.n (by decide) h0 h1
theorem on (h: Two P w p W v0 v1 ts l) (hb: Below W.heap.size W U): Two P w p U v0 v1 ts l :=
 ⟨h.old,(hb.block _ h.lt).trans h.box,Rw.owns_on h.t hb,Rw.owns_on h.n hb,fun k hk m => ⟨((h.ins k hk m).1).on hb,(h.ins k hk m).2⟩,below_on h.bel hb,h.pne⟩
theorem cells (h: Two P w p W v0 v1 ts l): W.cell? ⟨p,0,none⟩ = some v0 /\ W.cell? ⟨p,1,none⟩ = some v1 /\ W.frozen? ⟨p,0,none⟩ = false /\ W.frozen? ⟨p,1,none⟩ = false := by
 refine ⟨?_, ?_,frozen_of_row _ _ _ _ _ h.box,frozen_of_row _ _ _ _ _ h.box⟩ <;> (rw [cell_of_row _ _ _ _ _ _ h.box]; rfl)
theorem key {P: Nat -> Prop} {U W2: World} {p: Nat} {v0 v1 v2: Value} (hP: ∀ b,P b -> b ≠ p) (z: NL) (m: Nat) (i1: InN m U z) (o1: OffN (fun b => P b /\ v0.ownBlock ≠ some b /\ v1.ownBlock ≠ some b) m z) (hs: U.heap.size <= W2.heap.size) (hb: ∀ b,b < U.heap.size -> b ≠ p -> v0.ownBlock ≠ some b -> W2.heap[b]? = U.heap[b]?) (hv: v2.ownBlock = v0.ownBlock \/ v2.ownBlock = some U.heap.size) :
 InN m W2 z /\ OffN (fun b => P b /\ v2.ownBlock ≠ some b /\ v1.ownBlock ≠ some b) m z := by
 refine ⟨i1.turn o1 hs fun b hb' h => hb b hb' (hP b h.1) h.2.1,(i1.off o1).mono fun b h => ⟨h.1.1, ?_,h.1.2.2⟩⟩
 rcases hv with e | e
 · rw [e]; exact h.1.2.1
 · rw [e]; intro e'; cases e'; exact absurd h.2 (Nat.lt_irrefl _)
theorem addT {t: Tl} (h: Two P w p U v0 v1 ts l) (O2: W2.ownsRow (p + 1) 175 11 v2 (ts.length + 1) (Rw.flat tlC (ts ++ [t]))) (G2: U.grownBy W2 v0.ownBlock) (hv: v2.ownBlock = v0.ownBlock \/ v2.ownBlock = some U.heap.size) :
 Two P w p (W2.setCell ⟨p,0,none⟩ v2) v2 v1 (ts ++ [t]) l := by
 have hp := h.lt
 have hn0 := h.ne0
 have hB2: W2.heap[p]? = some (.cells #[v0,v1] 78 (0,0)) := (G2.block p hp hn0.symm).trans h.box
 have ho: ∀ q,q ≠ p -> (W2.setCell ⟨p,0,none⟩ v2).heap[q]? = W2.heap[q]? := fun q hq => heap_setCell_other _ _ _ _ hq
 refine ⟨h.old, ?_, ?_, ?_, ?_, ?_,h.pne⟩
 · have := heap_setCell_same W2 p 0 #[v0,v1] 78 v2 hB2
   simpa using this
 · rw [List.length_append]
   exact Rw.owns_below O2 fun q hq => ho q (by have := (O2.lt q hq).1; omega)
 · refine Rw.owns_below h.n fun q hq => (ho q (by have := (h.n.lt q hq).1; omega)).trans (G2.block q (h.n.lt q hq).2 fun e => h.ne e.symm hq)
 · intro k hk m
   refine key h.pne k m (h.ins k hk m).1 (h.ins k hk m).2 (by simpa using G2.size) (fun b hb h1 h2 => (ho b h1).trans (G2.block b hb h2.symm)) hv
 · exact (h.bel.grown G2 h.bel.size fun q hq => by have := (h.t.lt q hq).1; have := h.old; omega).setCell h.old v2
theorem addN {y: NL} (h: Two P w p U v0 v1 ts l) (hI: ∀ m,InN m U y /\ OffN (fun b => P b /\ v0.ownBlock ≠ some b /\ v1.ownBlock ≠ some b) m y) (O2: W2.ownsRow (p + 1) 44 7 v2 (l.length + 1) (Rw.flat nC (l ++ [y]))) (G2: U.grownBy W2 v1.ownBlock) (hv: v2.ownBlock = v1.ownBlock \/ v2.ownBlock = some U.heap.size) :
 Two P w p (W2.setCell ⟨p,1,none⟩ v2) v0 v2 ts (l ++ [y]) := by
 have hp := h.lt
 have hn1 := h.ne1
 have hB2: W2.heap[p]? = some (.cells #[v0,v1] 78 (0,0)) := (G2.block p hp hn1.symm).trans h.box
 have ho: ∀ q,q ≠ p -> (W2.setCell ⟨p,1,none⟩ v2).heap[q]? = W2.heap[q]? := fun q hq => heap_setCell_other _ _ _ _ hq
 have hk: ∀ z m,InN m U z -> OffN (fun b => P b /\ v0.ownBlock ≠ some b /\ v1.ownBlock ≠ some b) m z -> InN m (W2.setCell ⟨p,1,none⟩ v2) z /\ OffN (fun b => P b /\ v0.ownBlock ≠ some b /\ v2.ownBlock ≠ some b) m z := fun z m i o => by
  have := key (v0 := v1) (v1 := v0) (v2 := v2) h.pne z m i (o.mono fun b hb => ⟨hb.1,hb.2.2,hb.2.1⟩) (W2 := W2.setCell ⟨p,1,none⟩ v2) (by simpa using G2.size) (fun b hb h1 h2 => (ho b h1).trans (G2.block b hb h2.symm)) hv
  exact ⟨this.1,this.2.mono fun b hb => ⟨hb.1,hb.2.2,hb.2.1⟩⟩
 refine ⟨h.old, ?_, ?_, ?_, ?_, ?_,h.pne⟩
 · have := heap_setCell_same W2 p 1 #[v0,v1] 78 v2 hB2
   simpa using this
 · refine Rw.owns_below h.t fun q hq => (ho q (by have := (h.t.lt q hq).1; omega)).trans (G2.block q (h.t.lt q hq).2 fun e => h.ne hq e.symm)
 · rw [List.length_append]
   exact Rw.owns_below O2 fun q hq => ho q (by have := (O2.lt q hq).1; omega)
 · intro k hk' m
   rcases List.mem_append.1 hk' with h1 | h1
   · exact hk k m (h.ins k h1 m).1 (h.ins k h1 m).2
   · simp at h1
     subst h1
     exact hk _ m (hI m).1 (hI m).2
 · exact (h.bel.grown G2 h.bel.size fun q hq => by have := (h.n.lt q hq).1; have := h.old; omega).setCell h.old v2
theorem done (h: Two P w p W v0 v1 ts l) (hT: TsOk ts) (hl: l.length <= 1599289640401): ∃ a c b d,v0 = .slice a ts.length c /\ v1 = .slice b l.length d /\ CdIn W ⟨a,c,ts,b,d,l⟩ := by
 obtain ⟨a,c,rfl⟩ := Rw.owns_slice h.t
 obtain ⟨b,d,rfl⟩ := Rw.owns_slice h.n
 exact ⟨a,c,b,d,rfl,rfl,(Rw.owns_slg tlC_len (by decide) h.t).2.1,hT,(Rw.owns_slg nC_len (by decide) h.n).2.1,hl,fun k hk m => (h.ins k hk m).1⟩
end Two
theorem fit_some (l: List VarL): ∃ rs: List RowL,FitAll l rs := by
 refine ⟨l.map fun v => ⟨none,0,v.cols.map fun _ => vz⟩,by simp,fun i v r hv hr => ?_⟩
 rw [List.getElem?_map,hv] at hr
 simp only [Option.map_some,Option.some.injEq] at hr
 subst hr
 refine ⟨by simp,fun j c u hc hu => ?_⟩
 rw [List.getElem?_map,hc] at hu
 simp only [Option.map_some,Option.some.injEq] at hu
 subst hu
 exact vz_typed _
theorem andL_in {w: World}: ∀ (n: Nat) (y: NL),(∀ k,InN k w y) -> ∀ m ∈ andL n y,∀ k,InN k w m
 | 0,y,h,m,hm => by simp only [andL,List.mem_cons,List.not_mem_nil,or_false] at hm; subst hm; exact h
 | n + 1,y,h,m,hm => by
  unfold andL at hm
  split at hm
  · obtain ⟨z,hz,hzm⟩ := List.mem_flatMap.1 hm
    exact andL_in n z (fun k => (h (k + 1)).2.2 z hz) m hzm
  · simp only [List.mem_cons,List.not_mem_nil,or_false] at hm; subst hm; exact h
def ColN: Nat -> NL -> Prop
 | 0,_ => True
 | n + 1,x => (0 <= x.col /\ x.col <= 1000) /\ ∀ k ∈ x.kids,ColN n k
theorem zero_le1000: (0: Int) <= 1000 := by decide
theorem ColN.z: ∀ n,ColN n zNL
 | 0 => trivial
 | _ + 1 => ⟨⟨Int.le_refl _,by decide⟩,fun k hk => by cases hk⟩
theorem ColN.like: ∀ {n: Nat} {x y: NL},ColN n x -> LikeN n x y -> ColN n y
 | 0,_,_,_,_ => trivial
 | n + 1,x,y,h,hl => by
  refine ⟨by rw [<- hl.2.2.2.2.2.1]; exact h.1,fun k hk => ?_⟩
  obtain ⟨j,hj⟩ := List.mem_iff_getElem?.1 hk
  have hjl := (List.getElem?_eq_some_iff.1 hj).1
  have hx := List.getElem?_eq_getElem (l := x.kids) (i := j) (by rw [hl.2.2.2.2.2.2.1]; exact hjl)
  exact (h.2 _ (List.mem_of_getElem? hx)).like (hl.2.2.2.2.2.2.2 j _ k hx hj)
theorem chkTyped_col {n: Nat} {xo: ByteArray} {l: List NL} {t: Option Int} (h: ∀ k ∈ l,ColN n k): ColN (n + 1) (chkTyped xo l t).1 := by
 unfold chkTyped
 split
 · exact ColN.z _
 · exact ⟨⟨Int.le_refl _,zero_le1000⟩,h⟩
theorem chk_col {l: List VarL} (hf: ∀ v ∈ l,v.cols.length <= 50): ∀ (n: Nat) (x: XL),ColN n (chk n l x).1
 | 0,_ => trivial
 | n + 1, .mk xo xk xn xs xv xc xa xp kids => by
  rw [chk_mk]
  split
  · exact ⟨⟨Int.le_refl _,zero_le1000⟩,fun k hk => by cases hk⟩
  split
  · unfold chkPlace
    split
    · exact ColN.z _
    · rename_i v c k h
      obtain ⟨y,hy,hc⟩ := place_at h
      have h1 := (List.getElem?_eq_some_iff.1 hc).1
      have h2 := hf y (List.mem_of_getElem? hy)
      refine ⟨⟨?_, ?_⟩,fun k hk => by cases hk⟩
      · show (0: Int) <= (c: Int); omega
      · show (c: Int) <= 1000; omega
  · match kids with
    | [] => exact ColN.z _
    | [k] =>
     show ColN (n + 1) (chkOne xo (chk n l k)).1
     unfold chkOne
     split
     · exact chkTyped_col fun z hz => by simp only [List.mem_cons,List.not_mem_nil,or_false] at hz; subst hz; exact chk_col hf n k
     · exact ColN.z _
    | k :: k2 :: rest =>
     show ColN (n + 1) (chkTwo xo (chk n l k) (chk n l k2)).1
     unfold chkTwo
     split
     · split
       · refine chkTyped_col fun z hz => ?_
         simp only [List.mem_cons,List.not_mem_nil,or_false] at hz
         rcases hz with rfl | rfl
         · exact chk_col hf n k
         · exact chk_col hf n k2
       · exact ColN.z _
     · exact ColN.z _
theorem andL_col: ∀ (n: Nat) (y: NL),ColN n y -> deepN n y = false -> ∀ m ∈ andL n y,∀ z ∈ m.kids,fits z.col = true
 | 0,_,_,h,_,_ => by cases h
 | n + 1,y,hc,hd,m,hm => by
  simp only [deepN,List.any_eq_false] at hd
  unfold andL at hm
  split at hm
  · obtain ⟨k,hk,hkm⟩ := List.mem_flatMap.1 hm
    exact andL_col n k (hc.2 k hk) (by simpa using hd k hk) m hkm
  · simp only [List.mem_cons,List.not_mem_nil,or_false] at hm
    subst hm
    intro z hz
    have hz2: deepN n z = false := by simpa using hd z hz
    cases n with
    | zero => cases hz2
    | succ n =>
     have := (hc.2 z hz).1
     unfold fits
     simp
     omega
def CondP (l: List VarL) (w: World) (e: Ending) (W: World): Prop := Below w.heap.size w W /\
 ((∃ c: Int,(c != 0) = true /\ e = .returned (.tuple #[.slice none 0 0, .int .i64 c])) \/
  ∃ L a c,e = .returned (.tuple #[.slice a (L: List NL).length c, .int .i64 0]) /\ Rw.SlG nC 7 W a L /\ (∀ m ∈ L,∀ k,InN k W m) /\ L.length <= 524288 /\ (∀ m ∈ L,∀ z ∈ m.kids,fits z.col = true) /\ (∀ rs,FitAll l rs -> ∀ m ∈ L,LeafOk rs m))
theorem cond_walk {l: List VarL} {a: Option Addr} {c: Nat} (hf: FewCols l) (ws: List XL) {wa: Option Addr} {wc: Nat} {w: World} (hw: ws.length <= 1) (hS: Rw.SlG xC 7 w wa ws) (hi: ∀ x ∈ ws,In 20 w x) (hl: VarsIn w a l) :
 Calls Tryz.prog 35 #[.slice a l.length c, .slice wa ws.length wc] w (CondP l w) := by
 have HL := Rw.dh hl
 match ws,hw,hS,hi with
 | [],_,_,_ =>
  go_enter Tryz.func35,Tryz.ntmps35
  go_wp2
  go_ret2
  exact ⟨Below.refl _ _,Or.inr ⟨[],none,0,rfl,Or.inl rfl,fun m hm => (by cases hm),by decide,fun m hm => (by cases hm),fun rs _ m hm => (by cases hm)⟩⟩
 | [x],_,hS,hi =>
  obtain ⟨b,o,x',rfl,hb,hx,hc⟩ := hS.at (j := 0) (by simp)
  cases hx
  have HX := Rw.dh (expr_walk (a := a) (c := c) hf x (hi x (by simp)) hl)
  have c0: w.cell? ⟨b,o,none⟩ = some (.string x.op) := by have := hc 0 _ rfl; simpa using this
  have c1: w.cell? ⟨b,o + 1,none⟩ = some (.int .i64 x.vk) := by have := hc 1 _ rfl; simpa using this
  have c2: w.cell? ⟨b,o + 2,none⟩ = some (.int .i64 x.vn) := by have := hc 2 _ rfl; simpa using this
  have c3: w.cell? ⟨b,o + 3,none⟩ = some (.string x.vs) := by have := hc 3 _ rfl; simpa using this
  have c4: w.cell? ⟨b,o + 4,none⟩ = some (.string x.var) := by have := hc 4 _ rfl; simpa using this
  have c5: w.cell? ⟨b,o + 5,none⟩ = some (.string x.col) := by have := hc 5 _ rfl; simpa using this
  have c6: w.cell? ⟨b,o + 6,none⟩ = some (.slice x.a x.kids.length x.c) := by have := hc 6 _ rfl; simpa using this
  clear hS hi hl hc
  unfold xV at HX
  go_enter Tryz.func35,Tryz.ntmps35
  go_wp2_with fail
  refine HX.out.mono ?_
  clear HX
  rintro e w2 ⟨hb2,y,t,rfl,hres⟩
  have HB2 := Rw.dh hb2
  clear hb2 c0 c1 c2 c3 c4 c5 c6
  rcases hres with ⟨h0,rfl,hly,hiy⟩ | ⟨hne,rfl,rfl⟩
  · have HY := Rw.dh (fun m => (hiy m).1)
    have HLy := Rw.dh (hly 20)
    have H0 := Rw.dh h0
    have HAg := Rw.dh (agree_walk (exprR l x).2.1 1)
    have hrx: Hid (rightX 20 x = true /\ exprR l x = chk 20 l x) := by
     unfold exprR at h0 ⊢
     split at h0
     · rename_i h; exact ⟨h,by rw [if_pos h]⟩
     · cases h0
    rw [h0]
    have HAn: Hid (agreeB (exprR l x).2.1 1 = true -> (∀ rs,FitAll l rs -> ∀ m ∈ andL 20 y,LeafOk rs m) /\ (andL 20 y).length <= 524288) := fun hag => by
     have hl: LikeN 20 (chk 20 l x).1 y := by rw [<- hrx.2]; exact HLy.out
     have hch: chk 20 l x = ((chk 20 l x).1,(exprR l x).2.1,0) := by rw [<- H0.out,hrx.2]
     have key := fun rs hF => leaves_ok (l := l) (rs := rs) hF 20 x (chk 20 l x).1 (exprR l x).2.1 y (Nat.le_refl _) hrx.1 hch (agree_one hag) hl
     obtain ⟨rs,hF⟩ := fit_some l
     exact ⟨fun rs hF => (key rs hF).1,by have := (key rs hF).2; omega⟩
    have HDp: Hid (deepN 20 y = false) := by
     have hl: LikeN 20 (chk 20 l x).1 y := by rw [<- hrx.2]; exact HLy.out
     rw [Hid, <- hl.deep]
     exact chk_deep (by rw [<- hrx.2]; exact H0.out)
    have HCl: Hid (∀ m ∈ andL 20 y,∀ z ∈ m.kids,fits z.col = true) := by
     have hl: LikeN 20 (chk 20 l x).1 y := by rw [<- hrx.2]; exact HLy.out
     exact andL_col 20 y ((chk_col hf.2 20 x).like hl) HDp.out
    clear h0 hly hiy hrx HLy H0
    generalize (exprR l x).2.1 = t at *
    unfold nV
    go_wp2_with fail
    refine (HAg.out _).mono ?_
    clear HAg
    rintro e w3 ⟨rfl,rfl⟩
    cases hag: agreeB t 1 with
    | false =>
     go_wp2
     go_ret2
     exact ⟨HB2.out.alloc HB2.out.size _,Or.inl ⟨4,rfl,rfl⟩⟩
    | true =>
     have hb3 := Rw.below_alloc w2 (.cells #[.string y.op, .int .i64 y.vk, .int .i64 y.vn, .string y.vs, .int .i64 y.var, .int .i64 y.col, .slice y.a y.kids.length y.c] 44)
     have HB3 := Rw.dh (Rw.below_on HB2.out hb3 HB2.out.size)
     have HY3 := Rw.dh (fun m => (HY.out m).on hb3)
     have HAp := Rw.dh (apart_walk _ 20 y _ (.slice none 0 0) [] (Nat.le_refl _) (HY3.out 20) (InN.old (HY3.out 20)) HDp.out (World.ownsRow_nil _ _ _ _) (by have := (HAn.out hag).2; simp; omega))
     have HAn2 := Rw.dh (HAn.out hag)
     unfold nV at HAp
     clear hb3 HAn HDp hag HY
     go_wp2_with fail
     refine HAp.out.mono ?_
     clear HAp
     rintro e w5 ⟨v5,rfl,hO5,hb5⟩
     obtain ⟨a5,c5,rfl⟩ := Rw.owns_slice hO5
     have HE: Hid (CondP l w (.returned (.tuple #[.slice a5 (andL 20 y).length c5, .int .i64 0])) w5) := ⟨Rw.below_on HB3.out hb5 HB3.out.size,Or.inr ⟨andL 20 y,a5,c5,rfl,(Rw.owns_slg nC_len (by decide) hO5).2.1,andL_in 20 y fun k => (HY3.out k).on hb5,HAn2.out.2,HCl.out,HAn2.out.1⟩⟩
     clear hO5 hb5 HB3 HY3 HAn2
     simp only [List.nil_append]
     go_wp2
     go_ret2
     exact HE.out
  · generalize (exprR l x).2.2 = ec at *
    unfold nV
    go_wp2
    go_ret2
    exact ⟨HB2.out.alloc HB2.out.size _,Or.inl ⟨ec,hne,rfl⟩⟩
theorem ownN_end {n: Nat} {x y: NL} {w w1 w2 W3: World} (hB: Below w.heap.size w w1) (hl: w.heap.size + 1 < w1.heap.size) (hL: LikeN n x y) (hI: ∀ m,InN m w2 y /\ OffN (fun b => w1.heap.size <= b) m y) (hb: Below w1.heap.size w1 w2)
 (hs: w2.heap.size <= W3.heap.size) (h3: ∀ q,q ≠ w.heap.size + 1 -> W3.heap[q]? = w2.heap[q]?) (hb3: Below (w.heap.size + 1) w2 W3): PlainNP n x w (.returned (nV y)) W3 :=
 ⟨y,rfl,hL,fun m => ⟨(hI m).1.turn (hI m).2 hs fun b _ h => h3 b (by omega),(hI m).2.mono fun b h => by omega⟩,(hB.trans (hb.mono hB.size)).trans (hb3.mono (by omega))⟩
theorem ownN_walk (n: Nat) (hn: n <= 65536) (x: NL) (w: World) (hI: ∀ m,InN m w x) (ho: OpN n x) (hd: deepN n x = false): Calls Tryz.prog 117 #[nV x] w (PlainNP n x w) := by
 have HS := Rw.dh (fun W (hb: Below w.heap.size w W) => shallow_walk 65536 (Nat.le_refl _) x W ((hI 65536).on hb))
 have HC := Rw.dh (fun W (hb: Below w.heap.size w W) => cloned_walk n x W ((hI n).on hb) ho hd)
 rw [deepN_le hd hn] at HS
 clear hI ho hd
 obtain ⟨xo,xk,xn,xs,xv,xc,xa,xp,l⟩ := x
 simp only [nV,NL.op,NL.vk,NL.vn,NL.vs,NL.var,NL.col,NL.a,NL.c,NL.kids] at HS HC ⊢
 go_enter Tryz.func117,Tryz.ntmps117
 go_wp2_with fail
 refine (HS.out _ (below_two w _ _)).mono ?_
 rintro e w1 ⟨rfl,hb1⟩
 have hB1 := below_on (below_two w (.cells #[.string xo, .int .i64 xk, .int .i64 xn, .string xs, .int .i64 xv, .int .i64 xc, .slice xa l.length xp] 44) (.cells #[.string ⟨#[]⟩, .int .i64 0, .int .i64 0, .string ⟨#[]⟩, .int .i64 0, .int .i64 0, .slice none 0 0] 44)) hb1
 have hn1 := (hb1.block w.heap.size (by simp; omega)).trans ((Below.heap_alloc _ _ _ (by simp)).trans (Rw.heap_new w _))
 have hr1 := (hb1.block (w.heap.size + 1) (by simp)).trans (heap_two w _ _)
 obtain ⟨c0,c1,c2,c3,c4,c5,c6⟩ := obox hn1
 have HB1 := Rw.dh hB1
 have HR1 := Rw.dh hr1
 clear hb1 hB1 hn1 hr1 HS
 go_wp2_with fail
 refine (HC.out _ HB1.out).mono ?_
 rintro e w2 ⟨y,rfl,hL,hIy,hb2⟩
 have hr2 := (hb2.block _ (Array.getElem?_eq_some_iff.1 HR1.out).1).trans HR1.out
 obtain ⟨r0,r1,r2,r3,r4,r5,r6,rf,hr9⟩ := zbox hr2
 have hrl := (Array.getElem?_eq_some_iff.1 hr2).1
 have HE := Rw.dh (fun (W3: World) hs h3 hb => ownN_end (W3 := W3) (x := .mk xo xk xn xs xv xc xa xp l) HB1.out (Array.getElem?_eq_some_iff.1 HR1.out).1 hL hIy hb2 hs h3 hb)
 clear hL hIy hb2 hr2 hr9 HC c0 c1 c2 c3 c4 c5 c6
 obtain ⟨yo,yk,yn,ys,yv,yc,ya,yp,m⟩ := y
 simp only [nV,NL.op,NL.vk,NL.vn,NL.vs,NL.var,NL.col,NL.a,NL.c,NL.kids] at HE ⊢
 go_wp2_with fail
 refine bodyPost_ret (v := .agg #[.string yo, .int .i64 yk, .int .i64 yn, .string ys, .int .i64 yv, .int .i64 yc, .slice ya m.length yp]) (by simp [results,Tryz.results117,go_sem,r0,r1,r2,r3,r4,r5,r6]) rfl (HE.out _ (by simp) (fun q hq => nheap_set7 hq _ _ _ _ _ _ _ _) (nbelow_set7 (Nat.le_refl _) (Below.refl _ _) _ _ _ _ _ _ _))
structure KeepT (wr: World) (t: Tl) (W: World): Prop where
 bel: Below wr.heap.size wr W
 box: W.heap[wr.heap.size]? = some (.cells (tlC t).toArray 175 (0,0))
namespace KeepT
variable {wr W W': World} {t: Tl}
theorem drew (h: KeepT wr t W): KeepT wr t W.drew := ⟨h.bel.drew,h.box⟩
theorem on (h: KeepT wr t W) (hb: Below W.heap.size W W'): KeepT wr t W' := ⟨h.bel.trans (hb.mono h.bel.size),(hb.block _ (Array.getElem?_eq_some_iff.1 h.box).1).trans h.box⟩
theorem lo (h: KeepT wr t W): KeepT wr t (((W.setCell ⟨wr.heap.size,3,none⟩ (.int .i64 t.lo.v.k)).setCell ⟨wr.heap.size,4,none⟩ (.int .i64 t.lo.v.n)).setCell ⟨wr.heap.size,5,none⟩ (.string t.lo.v.s)) := by
 refine ⟨((h.bel.setCell (Nat.le_refl _) _).setCell (Nat.le_refl _) _).setCell (Nat.le_refl _) _, ?_⟩
 have h0 := heap_setCell_same W wr.heap.size 3 _ _ (.int .i64 t.lo.v.k) h.box
 have h1 := heap_setCell_same _ wr.heap.size 4 _ _ (.int .i64 t.lo.v.n) h0
 have h2 := heap_setCell_same _ wr.heap.size 5 _ _ (.string t.lo.v.s) h1
 simpa [tlC] using h2
theorem hi (h: KeepT wr t W): KeepT wr t (((W.setCell ⟨wr.heap.size,8,none⟩ (.int .i64 t.hi.v.k)).setCell ⟨wr.heap.size,9,none⟩ (.int .i64 t.hi.v.n)).setCell ⟨wr.heap.size,10,none⟩ (.string t.hi.v.s)) := by
 refine ⟨((h.bel.setCell (Nat.le_refl _) _).setCell (Nat.le_refl _) _).setCell (Nat.le_refl _) _, ?_⟩
 have h0 := heap_setCell_same W wr.heap.size 8 _ _ (.int .i64 t.hi.v.k) h.box
 have h1 := heap_setCell_same _ wr.heap.size 9 _ _ (.int .i64 t.hi.v.n) h0
 have h2 := heap_setCell_same _ wr.heap.size 10 _ _ (.string t.hi.v.s) h1
 simpa [tlC] using h2
end KeepT
def K2 (w: World) (x y: Value) (W: World): Prop := W.heap[w.heap.size]? = some (.cells #[x,y] 78 (0,0)) /\ W.heap[w.heap.size + 1]? = some (.cells #[.slice none 0 0, .slice none 0 0] 78 (0,0))
theorem Two.zero {P: Nat -> Prop} {w W: World} {p: Nat} (hP: ∀ b,P b -> b ≠ p) (hp: w.heap.size <= p) (h: W.heap[p]? = some (.cells #[.slice none 0 0, .slice none 0 0] 78 (0,0))) (hb: Below w.heap.size w W): Two P w p W (.slice none 0 0) (.slice none 0 0) [] [] :=
 ⟨hp,h,World.ownsRow_nil _ _ _ _,World.ownsRow_nil _ _ _ _,fun k hk => (by cases hk),hb,hP⟩
theorem K2.on {P: Nat -> Prop} {w W U: World} {p: Nat} {x y v0 v1: Value} {ts: List Tl} {l: List NL} (h: K2 w x y W) (_ht: Two P w p W v0 v1 ts l) (hb: Below W.heap.size W U): K2 w x y U :=
 ⟨(hb.block _ (Array.getElem?_eq_some_iff.1 h.1).1).trans h.1,(hb.block _ (Array.getElem?_eq_some_iff.1 h.2).1).trans h.2⟩
theorem K2.put {w U W2: World} {p i: Nat} {x y u: Value} {r: Option Nat} (h: K2 w x y U) (hp: w.heap.size + 2 <= p) (hg: ∀ q,q < U.heap.size -> r ≠ some q -> W2.heap[q]? = U.heap[q]?) (hr: ∀ q,r = some q -> w.heap.size + 2 < q): K2 w x y (W2.setCell ⟨p,i,none⟩ u) := by
 have h0 := (Array.getElem?_eq_some_iff.1 h.1).1
 have h1 := (Array.getElem?_eq_some_iff.1 h.2).1
 exact ⟨(heap_setCell_other _ _ _ _ (show w.heap.size ≠ p by omega)).trans ((hg _ h0 fun e => by have := hr _ e; omega).trans h.1),(heap_setCell_other _ _ _ _ (show w.heap.size + 1 ≠ p by omega)).trans ((hg _ h1 fun e => by have := hr _ e; omega).trans h.2)⟩
theorem infoCT: (Tryz.prog.info? 175).map (fun i => (i.zero,i.size,i.bytes)) = some (some (tlV tlz),11,88) := by kernel_rfl
def CopyP (n: Nat) (k: CondL) (w: World) (e: Ending) (W: World): Prop := ∃ k': CondL,e = .returned (cdV k') /\ k'.ts = k.ts /\ k'.l.length = k.l.length /\ (∀ (j: Nat) x y,k.l[j]? = some x -> k'.l[j]? = some y -> LikeN n x y) /\ CdIn W k' /\ ((∀ q,k'.a = some q -> w.heap.size <= q.block) /\ (∀ q,k'.b = some q -> w.heap.size <= q.block) /\ ∀ x ∈ k'.l,∀ m,OffN (fun b => w.heap.size <= b) m x) /\ Below w.heap.size w W
theorem like_snoc {n j: Nat} {l l': List NL} {k y: NL} (hlen: l'.length = j) (h: ∀ (i: Nat) x z,l[i]? = some x -> l'[i]? = some z -> LikeN n x z) (hk: l[j]? = some k) (hL: LikeN n k y): ∀ (i: Nat) x z,l[i]? = some x -> (l' ++ [y])[i]? = some z -> LikeN n x z := by
 intro i a a' h1 h2
 by_cases hij: i < l'.length
 · rw [List.getElem?_append_left hij] at h2
   exact h i a a' h1 h2
 · rw [List.getElem?_append_right (by omega)] at h2
   have hi0: i - l'.length = 0 := by
    have := (List.getElem?_eq_some_iff.1 h2).1
    simp at this; omega
   rw [hi0] at h2
   simp at h2
   subst h2
   have: i = j := by omega
   subst this
   rw [hk] at h1
   cases h1
   exact hL
theorem copied_end {n: Nat} {k: CondL} {w W W3: World} {av lv: Option Addr} {cv dv: Nat} {l': List NL} (h: Two (fun b => w.heap.size + 3 <= b) w (w.heap.size + 2) W (.slice av k.ts.length cv) (.slice lv k.l.length dv) k.ts l') (hlen: l'.length = k.l.length) (hlike: ∀ (i: Nat) x z,k.l[i]? = some x -> l'[i]? = some z -> LikeN n x z) (hT: TsOk k.ts) (hL: k.l.length <= 1599289640401)
 (hs: W.heap.size <= W3.heap.size) (h3: ∀ q,q ≠ w.heap.size + 1 -> W3.heap[q]? = W.heap[q]?) (hb3: Below (w.heap.size + 1) W W3): CopyP n k w (.returned (.agg #[.slice av k.ts.length cv, .slice lv k.l.length dv])) W3 := by
 have O1: W3.ownsRow (w.heap.size + 2 + 1) 175 11 (.slice av k.ts.length cv) k.ts.length (Rw.flat tlC k.ts) := Rw.owns_below h.t fun q hq => h3 q (by have := (h.t.lt q hq).1; omega)
 have O2: W3.ownsRow (w.heap.size + 2 + 1) 44 7 (.slice lv l'.length dv) l'.length (Rw.flat nC l') := by
  have := Rw.owns_below h.n fun q hq => h3 q (by have := (h.n.lt q hq).1; omega)
  rw [hlen] at this ⊢
  exact this
 refine ⟨⟨av,cv,k.ts,lv,dv,l'⟩, ?_,rfl,hlen,hlike,⟨(Rw.owns_slg tlC_len (by decide) O1).2.1,hT,(Rw.owns_slg nC_len (by decide) O2).2.1, ?_,fun x hx m => ?_⟩, ?_,h.bel.trans (hb3.mono (by omega))⟩
 · show _ = Ending.returned (.agg #[.slice av k.ts.length cv, .slice lv l'.length dv])
   rw [hlen]
 · show l'.length <= _
   rw [hlen]; exact hL
 · exact (h.ins x hx m).1.turn (h.ins x hx m).2 hs fun b _ hb => h3 b (by have := hb.1; omega)
 · refine ⟨fun q hq => ?_,fun q hq => ?_,fun x hx m => (h.ins x hx m).2.mono fun b hb => by have := hb.1; omega⟩
   · have: av = some q := hq
     subst this
     rcases Rw.owns_addr O1 with ⟨e,_⟩ | ⟨g,e⟩
     · cases e
     · cases e
       have := (O1.lt g rfl).1
       show w.heap.size <= g
       omega
   · have: lv = some q := hq
     subst this
     rcases Rw.owns_addr O2 with ⟨e,_⟩ | ⟨g,e⟩
     · cases e
     · cases e
       have := (O2.lt g rfl).1
       show w.heap.size <= g
       omega
set_option linter.unusedSimpArgs false in
theorem copiedB_walk (n: Nat) (hn: n <= 65536) (k: CondL) {w: World} (hI: CdIn w k) (hts: k.ts.length <= 600000) (hd: ∀ x ∈ k.l,deepN n x = false) (ho: ∀ x ∈ k.l,OpN n x): Calls Tryz.prog 80 #[cdV k] w (CopyP n k w) := by
 have HI := Rw.dh (fun W (hb: Below w.heap.size w W) => hI.on hb)
 have HN := Rw.dh (fun x (hx: x ∈ k.l) W (hb: Below w.heap.size w W) => ownN_walk n hn x W (fun m => (hI.ins x hx m).on hb) (ho x hx) (hd x hx))
 have HT := Rw.dh hI.ok
 have HLn := Rw.dh hI.len
 clear hI hd ho
 obtain ⟨ta,tc,ts,la,lc,l⟩ := k
 simp only at HN HT HLn hts
 unfold cdV
 go_enter Tryz.func80,Tryz.ntmps80
 go_wp2_with fail
 have hT0: Two (fun b => w.heap.size + 3 <= b) w (w.heap.size + 2) _ (.slice none 0 0) (.slice none 0 0) [] [] := Two.zero (fun b hb => by omega) (by omega) (heap_three w (.cells #[.slice ta ts.length tc, .slice la l.length lc] 78) (.cells #[.slice none 0 0, .slice none 0 0] 78) (.cells #[.slice none 0 0, .slice none 0 0] 78)) (below_three w _ _ _)
 have hK0: K2 w (.slice ta ts.length tc) (.slice la l.length lc) (((w.alloc (.cells #[.slice ta ts.length tc, .slice la l.length lc] 78)).alloc (.cells #[.slice none 0 0, .slice none 0 0] 78)).alloc (.cells #[.slice none 0 0, .slice none 0 0] 78)) := ⟨(Below.heap_alloc _ _ _ (by simp; omega)).trans ((Below.heap_alloc _ _ _ (by simp)).trans (Rw.heap_new w _)),(Below.heap_alloc _ _ _ (by simp)).trans (heap_two w _ _)⟩
 have HS0: Hid (Two (fun b => w.heap.size + 3 <= b) w (w.heap.size + 2) _ (.slice none 0 0) (.slice none 0 0) (ts.take 0) [] /\ _) := ⟨hT0,hK0⟩
 clear hT0 hK0
 go_loopw [11] (fun i wr => ∃ (j: Nat) (v: Value),j <= ts.length /\ i = .int .i64 (j: Int) /\ Hid (Two (fun b => w.heap.size + 3 <= b) w (w.heap.size + 2) wr v (.slice none 0 0) (ts.take j) [] /\ K2 w (.slice ta ts.length tc) (.slice la l.length lc) wr)) (fun i _ => ts.length - (intOf i).toNat)
 case atStart => exact ⟨0,_,Nat.zero_le _,rfl,HS0⟩
 case round =>
  obtain ⟨j,v,hj,rfl,HR⟩ := hrel
  by_cases hlt: j < ts.length
  · obtain ⟨b,o,t,e,hb,hx,hc⟩ := ((HI.out _ HR.out.1.bel).ts).at hlt
    simp only at e
    subst e
    have HXt: Hid (ts[j]? = some t) := hx
    have HTt := Rw.dh (HT.out.2 t (List.mem_of_getElem? hx))
    have c0: wr.cell? ⟨b,o + j * 11,none⟩ = some (.int .i64 t.col) := hc 0 _ rfl
    have c1: wr.cell? ⟨b,o + j * 11 + 1,none⟩ = some (.bool t.lo.has) := hc 1 _ rfl
    have c2: wr.cell? ⟨b,o + j * 11 + 2,none⟩ = some (.bool t.lo.incl) := hc 2 _ rfl
    have c3: wr.cell? ⟨b,o + j * 11 + 3,none⟩ = some (.int .i64 t.lo.v.k) := hc 3 _ rfl
    have c4: wr.cell? ⟨b,o + j * 11 + 4,none⟩ = some (.int .i64 t.lo.v.n) := hc 4 _ rfl
    have c5: wr.cell? ⟨b,o + j * 11 + 5,none⟩ = some (.string t.lo.v.s) := hc 5 _ rfl
    have c6: wr.cell? ⟨b,o + j * 11 + 6,none⟩ = some (.bool t.hi.has) := hc 6 _ rfl
    have c7: wr.cell? ⟨b,o + j * 11 + 7,none⟩ = some (.bool t.hi.incl) := hc 7 _ rfl
    have c8: wr.cell? ⟨b,o + j * 11 + 8,none⟩ = some (.int .i64 t.hi.v.k) := hc 8 _ rfl
    have c9: wr.cell? ⟨b,o + j * 11 + 9,none⟩ = some (.int .i64 t.hi.v.n) := hc 9 _ rfl
    have c10: wr.cell? ⟨b,o + j * 11 + 10,none⟩ = some (.string t.hi.v.s) := hc 10 _ rfl
    clear hc hx
    have HV1: Hid (∀ W,Calls Tryz.prog 116 #[.agg #[.int .i64 t.lo.v.k, .int .i64 t.lo.v.n, .string t.lo.v.s]] W fun e w' => e = .returned (.agg #[.int .i64 t.lo.v.k, .int .i64 t.lo.v.n, .string t.lo.v.s]) /\ Below W.heap.size W w') := fun W => ownV_walk t.lo.v HTt.out.lo.2.2 W
    have HV2: Hid (∀ W,Calls Tryz.prog 116 #[.agg #[.int .i64 t.hi.v.k, .int .i64 t.hi.v.n, .string t.hi.v.s]] W fun e w' => e = .returned (.agg #[.int .i64 t.hi.v.k, .int .i64 t.hi.v.n, .string t.hi.v.s]) /\ Below W.heap.size W w') := fun W => ownV_walk t.hi.v HTt.out.hi.2.2 W
    go_wp2_with fail
    refine Rw.to_letter (F := fun W => KeepT wr t W) ⟨Rw.below_alloc _ _,Rw.heap_new _ _⟩ ?_
    intro W0 hk0
    have KR: Hid (KeepT wr t W0) := hk0
    have KS: Hid (∀ W',KeepT wr t W' -> (fun W => W.cell? ⟨wr.heap.size,0,none⟩ = some (.int .i64 t.col) /\ W.cell? ⟨wr.heap.size,1,none⟩ = some (.bool t.lo.has) /\ W.cell? ⟨wr.heap.size,2,none⟩ = some (.bool t.lo.incl) /\ W.cell? ⟨wr.heap.size,3,none⟩ = some (.int .i64 t.lo.v.k) /\ W.cell? ⟨wr.heap.size,4,none⟩ = some (.int .i64 t.lo.v.n) /\ W.cell? ⟨wr.heap.size,5,none⟩ = some (.string t.lo.v.s) /\ W.cell? ⟨wr.heap.size,6,none⟩ = some (.bool t.hi.has) /\ W.cell? ⟨wr.heap.size,7,none⟩ = some (.bool t.hi.incl) /\ W.cell? ⟨wr.heap.size,8,none⟩ = some (.int .i64 t.hi.v.k) /\ W.cell? ⟨wr.heap.size,9,none⟩ = some (.int .i64 t.hi.v.n) /\ W.cell? ⟨wr.heap.size,10,none⟩ = some (.string t.hi.v.s)) W') := fun W' hk => tl_cells hk.box
    clear hk0 c0 c1 c2 c3 c4 c5 c6 c7 c8 c9 c10 hb
    go_region_held (fun W => W.cell? ⟨wr.heap.size,0,none⟩ = some (.int .i64 t.col) /\ W.cell? ⟨wr.heap.size,1,none⟩ = some (.bool t.lo.has) /\ W.cell? ⟨wr.heap.size,2,none⟩ = some (.bool t.lo.incl) /\ W.cell? ⟨wr.heap.size,3,none⟩ = some (.int .i64 t.lo.v.k) /\ W.cell? ⟨wr.heap.size,4,none⟩ = some (.int .i64 t.lo.v.n) /\ W.cell? ⟨wr.heap.size,5,none⟩ = some (.string t.lo.v.s) /\ W.cell? ⟨wr.heap.size,6,none⟩ = some (.bool t.hi.has) /\ W.cell? ⟨wr.heap.size,7,none⟩ = some (.bool t.hi.incl) /\ W.cell? ⟨wr.heap.size,8,none⟩ = some (.int .i64 t.hi.v.k) /\ W.cell? ⟨wr.heap.size,9,none⟩ = some (.int .i64 t.hi.v.n) /\ W.cell? ⟨wr.heap.size,10,none⟩ = some (.string t.hi.v.s)) (exact KS.out _ (by repeat (first | with_reducible exact KR.out | with_reducible refine KeepT.drew ?_ | with_reducible refine KeepT.lo ?_ | with_reducible refine KeepT.hi ?_ | with_reducible refine KeepT.on ?_ (by with_reducible assumption)))) (first | (go_at_call 116; refine (HV1.out _).mono ?_; rintro e w5 ⟨rfl,hb5⟩; have h5: KeepT wr t w5 := (by repeat (first | with_reducible exact KR.out | with_reducible refine KeepT.drew ?_ | with_reducible refine KeepT.lo ?_ | with_reducible refine KeepT.hi ?_ | with_reducible refine KeepT.on ?_ (by with_reducible assumption))); have f5 := fun o => frozen_of_row _ _ o _ _ h5.box; have l5 := (Array.getElem?_eq_some_iff.1 h5.box).1) | (go_at_call 116; refine (HV2.out _).mono ?_; rintro e w6 ⟨rfl,hb6⟩; have h6: KeepT wr t w6 := (by repeat (first | with_reducible exact KR.out | with_reducible refine KeepT.drew ?_ | with_reducible refine KeepT.lo ?_ | with_reducible refine KeepT.hi ?_ | with_reducible refine KeepT.on ?_ (by with_reducible assumption))); have f6 := fun o => frozen_of_row _ _ o _ _ h6.box; have l6 := (Array.getElem?_eq_some_iff.1 h6.box).1))
    refine Rw.to_letter (F := fun W => KeepT wr t W) (by repeat (first | with_reducible exact KR.out | with_reducible refine KeepT.drew ?_ | with_reducible refine KeepT.lo ?_ | with_reducible refine KeepT.hi ?_ | with_reducible refine KeepT.on ?_ (by with_reducible assumption))) ?_
    intro W5 hk5
    have HT5: Hid (Two (fun b => w.heap.size + 3 <= b) w (w.heap.size + 2) W5 v (.slice none 0 0) (ts.take j) [] /\ K2 w (.slice (some ⟨b,o,none⟩) ts.length tc) (.slice la l.length lc) W5) := ⟨HR.out.1.on hk5.bel,HR.out.2.on HR.out.1 hk5.bel⟩
    obtain ⟨t0,t1,t2,t3,t4,t5,t6,t7,t8,t9,t10⟩ := tl_cells hk5.box
    have z0: W5.cell? ⟨w.heap.size + 2,0,none⟩ = some v := by rw [cell_of_row _ _ _ _ _ _ HT5.out.1.box]; rfl
    have hl5 := HT5.out.1.lt
    clear KR KS hk5 HR HV1 HV2
    go_wp2_with (at_builtin; revert HT5)
    intro HT5
    refine Rw.to_letter (F := fun V => Below W5.heap.size W5 V /\ Rw.Src V (some ⟨W5.heap.size,0,none⟩) 1 1 (tlC t)) ⟨Rw.below_alloc _ _,Rw.src_new _ (tlC t) _ 1 1 rfl⟩ ?_
    rintro V ⟨hV,sV⟩
    have hTV := HT5.out.1.on hV
    have hlen: (ts.take j).length = j := by rw [List.length_take]; omega
    have hKV := HT5.out.2.on HT5.out.1 hV
    have O1 := hTV.t
    rw [hlen] at O1
    refine append_bigN Tryz.underlying76 infoCT rfl (by decide) rfl _ _ rfl (w.heap.size + 2 + 1) hTV.lt v j (Rw.flat tlC (ts.take j)) rfl O1 _ 1 1 (tlC t) rfl sV rfl (tlC_one _) (by unfold maxLen; omega) (by omega) ?_
    intro v2 W2 O2 G2 hv2
    obtain ⟨av,cv,rfl⟩ := Rw.owns_slice O2
    have hb2 := (G2.block _ hTV.lt hTV.ne0.symm).trans hTV.box
    have HR2: Hid (Two (fun b => w.heap.size + 3 <= b) w (w.heap.size + 2) (W2.setCell ⟨w.heap.size + 2,0,none⟩ (.slice av (j + 1) cv)) (.slice av (j + 1) cv) (.slice none 0 0) (ts.take (j + 1)) [] /\ K2 w (.slice (some ⟨b,o,none⟩) ts.length tc) (.slice la l.length lc) (W2.setCell ⟨w.heap.size + 2,0,none⟩ (.slice av (j + 1) cv))) := by
     obtain ⟨hjl,hkj⟩ := List.getElem?_eq_some_iff.1 HXt.out
     refine ⟨?_,hKV.put (r := v.ownBlock) (Nat.le_refl _) (fun q h1 h2 => G2.block q h1 h2.symm) fun q e => by have := (hTV.t.lt q e).1; omega⟩
     rw [List.take_succ_eq_append_getElem hjl,hkj]
     exact hTV.addT (by rw [hlen,Rw.flat_append]; simpa [Rw.flat] using O2) G2 hv2
    have y0: W2.cell? ⟨w.heap.size + 2,0,none⟩ = some v := by rw [cell_of_row _ _ _ _ _ _ hb2]; rfl
    have y1: W2.frozen? ⟨w.heap.size + 2,0,none⟩ = false := frozen_of_row _ _ _ _ _ hb2
    have y2 := (Array.getElem?_eq_some_iff.1 hb2).1
    clear O1 O2 G2 hv2 hb2 hTV hKV hV sV HT5 z0 t0 t1 t2 t3 t4 t5 t6 t7 t8 t9 t10
    go_wp2_with fail
    exact ⟨⟨j + 1,_,hlt,by go_num,HR2⟩,by simp [intOf]; omega⟩
  · have hjs: j = ts.length := by omega
    subst hjs
    have hR := HR.out
    rw [List.take_length] at hR
    obtain ⟨av,cv,rfl⟩ := Rw.owns_slice hR.1.t
    have z1: wr.cell? ⟨w.heap.size,1,none⟩ = some (.slice la l.length lc) := by rw [cell_of_row _ _ _ _ _ _ hR.2.1]; rfl
    have HS1: Hid (Two (fun b => w.heap.size + 3 <= b) w (w.heap.size + 2) wr (.slice av ts.length cv) (.slice none 0 0) ts [] /\ K2 w (.slice ta ts.length tc) (.slice la l.length lc) wr /\ ([]: List NL).length = 0 /\ ∀ (i: Nat) x y,l[i]? = some x -> ([]: List NL)[i]? = some y -> LikeN n x y) := ⟨hR.1,hR.2,rfl,fun i x y _ h => by cases h⟩
    clear hR HR
    go_wp2_with fail
    go_loopw [37] (fun i wx => ∃ (j: Nat) (v: Value) (l': List NL),j <= l.length /\ i = .int .i64 (j: Int) /\ Hid (Two (fun b => w.heap.size + 3 <= b) w (w.heap.size + 2) wx (.slice av ts.length cv) v ts l' /\ K2 w (.slice ta ts.length tc) (.slice la l.length lc) wx /\ l'.length = j /\ ∀ (i: Nat) x y,l[i]? = some x -> l'[i]? = some y -> LikeN n x y)) (fun i _ => l.length - (intOf i).toNat)
    case atStart => exact ⟨0,_,[],Nat.zero_le _,rfl,HS1⟩
    case round =>
     obtain ⟨j,v,l',hj,rfl,HR⟩ := hrel
     have hlp := HR.out.1.lt
     by_cases hlt: j < l.length
     · obtain ⟨b,o,k,e,hb,hx,hc⟩ := ((HI.out _ HR.out.1.bel).ns).at hlt
       simp only at e
       subst e
       have HXk: Hid (l[j]? = some k) := hx
       have HKk := Rw.dh (HN.out k (List.mem_of_getElem? hx))
       have c0: wr.cell? ⟨b,o + j * 7,none⟩ = some (.string k.op) := hc 0 _ rfl
       have c1: wr.cell? ⟨b,o + j * 7 + 1,none⟩ = some (.int .i64 k.vk) := hc 1 _ rfl
       have c2: wr.cell? ⟨b,o + j * 7 + 2,none⟩ = some (.int .i64 k.vn) := hc 2 _ rfl
       have c3: wr.cell? ⟨b,o + j * 7 + 3,none⟩ = some (.string k.vs) := hc 3 _ rfl
       have c4: wr.cell? ⟨b,o + j * 7 + 4,none⟩ = some (.int .i64 k.var) := hc 4 _ rfl
       have c5: wr.cell? ⟨b,o + j * 7 + 5,none⟩ = some (.int .i64 k.col) := hc 5 _ rfl
       have c6: wr.cell? ⟨b,o + j * 7 + 6,none⟩ = some (.slice k.a k.kids.length k.c) := hc 6 _ rfl
       clear hc hx z1
       go_wp2_with fail
       refine Rw.to_letter (F := fun V => Below wr.heap.size wr V /\ V.heap[wr.heap.size]? = some (.cells (nC k).toArray 44 (0,0))) ⟨Rw.below_alloc _ _,Rw.heap_new _ _⟩ ?_
       rintro V ⟨hV,hkb⟩
       have HRV := Rw.dh (HR.out.1.on hV)
       have HK2 := Rw.dh (HR.out.2.1.on HR.out.1 hV)
       have HLl := Rw.dh HR.out.2.2
       have KS: Hid (∀ W',Below V.heap.size V W' -> (fun w' => w'.cell? ⟨w.heap.size + 2,1,none⟩ = some v /\ w'.cell? ⟨wr.heap.size,0,none⟩ = some (.string k.op) /\ w'.cell? ⟨wr.heap.size,1,none⟩ = some (.int .i64 k.vk) /\ w'.cell? ⟨wr.heap.size,2,none⟩ = some (.int .i64 k.vn) /\ w'.cell? ⟨wr.heap.size,3,none⟩ = some (.string k.vs) /\ w'.cell? ⟨wr.heap.size,4,none⟩ = some (.int .i64 k.var) /\ w'.cell? ⟨wr.heap.size,5,none⟩ = some (.int .i64 k.col) /\ w'.cell? ⟨wr.heap.size,6,none⟩ = some (.slice k.a k.kids.length k.c)) W') := fun W' hb => by
        have g1 := (hb.block _ (Array.getElem?_eq_some_iff.1 hkb).1).trans hkb
        have g2 := (hb.block _ HRV.out.lt).trans HRV.out.box
        refine ⟨?_, ?_, ?_, ?_, ?_, ?_, ?_, ?_⟩
        · rw [cell_of_row _ _ _ _ _ _ g2]; rfl
        all_goals (rw [cell_of_row _ _ _ _ _ _ g1]; rfl)
       have hHeld: (fun w' => w'.cell? ⟨w.heap.size + 2,1,none⟩ = some v /\ w'.cell? ⟨wr.heap.size,0,none⟩ = some (.string k.op) /\ w'.cell? ⟨wr.heap.size,1,none⟩ = some (.int .i64 k.vk) /\ w'.cell? ⟨wr.heap.size,2,none⟩ = some (.int .i64 k.vn) /\ w'.cell? ⟨wr.heap.size,3,none⟩ = some (.string k.vs) /\ w'.cell? ⟨wr.heap.size,4,none⟩ = some (.int .i64 k.var) /\ w'.cell? ⟨wr.heap.size,5,none⟩ = some (.int .i64 k.col) /\ w'.cell? ⟨wr.heap.size,6,none⟩ = some (.slice k.a k.kids.length k.c)) V.drew := KS.out _ (Below.refl _ V).drew
       have HVk := Rw.dh (Array.getElem?_eq_some_iff.1 hkb).1
       have HKb := Rw.dh hkb
       have HVv: Hid (∀ q,v.ownBlock = some q -> wr.heap.size <= q -> False) := fun q hq h => by have := (HR.out.1.n.lt q hq).2; omega
       have HBk := Rw.dh (HR.out.1.bel.trans (hV.mono HR.out.1.bel.size))
       have hkl: l.length <= 1599289640401 := HLn.out
       clear c0 c1 c2 c3 c4 c5 c6 hb hV hkb HR hlp
       refine HeT.begin_ (fun w' => w'.cell? ⟨w.heap.size + 2,1,none⟩ = some v /\ w'.cell? ⟨wr.heap.size,0,none⟩ = some (.string k.op) /\ w'.cell? ⟨wr.heap.size,1,none⟩ = some (.int .i64 k.vk) /\ w'.cell? ⟨wr.heap.size,2,none⟩ = some (.int .i64 k.vn) /\ w'.cell? ⟨wr.heap.size,3,none⟩ = some (.string k.vs) /\ w'.cell? ⟨wr.heap.size,4,none⟩ = some (.int .i64 k.var) /\ w'.cell? ⟨wr.heap.size,5,none⟩ = some (.int .i64 k.col) /\ w'.cell? ⟨wr.heap.size,6,none⟩ = some (.slice k.a k.kids.length k.c)) 7 (by kernel_rfl) ?_
       refine HeT.take (i := 0) (v := ?_) rfl (by kernel_rfl) (by kernel_rfl) (by kernel_rfl) (by kernel_rfl) (by decide) (fun _ _ _ h => h) (Or.inl ⟨by rfl, ?_⟩) hHeld ?_
       rotate_left
       · intro w' hSw
         obtain ⟨s0,t0,t1,t2,t3,t4,t5,t6⟩ := hSw
         go_simp
         (try with_reducible rfl)
       (try simp only [Act.put,List.getElem_toArray,List.getElem_cons_succ,List.getElem_cons_zero,HeT.pT])
       refine HeT.take (i := 1) (v := ?_) rfl (by kernel_rfl) (by kernel_rfl) (by kernel_rfl) (by kernel_rfl) (by decide) (fun _ _ _ h => h) (Or.inl ⟨by rfl, ?_⟩) hHeld ?_
       rotate_left
       · intro w' hSw
         obtain ⟨s0,t0,t1,t2,t3,t4,t5,t6⟩ := hSw
         go_simp
         (try with_reducible rfl)
       (try simp only [Act.put,List.getElem_toArray,List.getElem_cons_succ,List.getElem_cons_zero,HeT.pT])
       refine HeT.take (i := 2) (v := ?_) rfl (by kernel_rfl) (by kernel_rfl) (by kernel_rfl) (by kernel_rfl) (by decide) (fun _ _ _ h => h) (Or.inl ⟨by rfl, ?_⟩) hHeld ?_
       rotate_left
       · intro w' hSw
         obtain ⟨s0,t0,t1,t2,t3,t4,t5,t6⟩ := hSw
         go_simp
         (try with_reducible rfl)
       (try simp only [Act.put,List.getElem_toArray,List.getElem_cons_succ,List.getElem_cons_zero,HeT.pT])
       refine HeT.one (i := 3) (by kernel_rfl) rfl ?_
       intro K hK
       go_simp
       refine (HKk.out _ (HBk.out.drew)).mono ?_
       rintro e w1 ⟨y,rfl,hL,hIy,hb1⟩
       have hb2: Below V.heap.size V w1 := (Below.refl _ V).drew.trans hb1
       refine hK _ _ (KS.out _ hb2) ?_
       have HB2 := Rw.dh hb2
       have HLy := Rw.dh hL
       have HIy: Hid (∀ m,InN m w1 y /\ OffN (fun b => V.heap.size <= b) m y) := hIy
       clear hb1 hb2 hL hIy
       unfold nV
       clear hK K
       (try simp only [Act.put,List.getElem_toArray,List.getElem_cons_succ,List.getElem_cons_zero,HeT.pT])
       refine HeT.one (i := 4) (by kernel_rfl) rfl ?_
       intro K hK
       go_simp
       have hbU := HB2.out.alloc HB2.out.size (.cells #[.string y.op, .int .i64 y.vk, .int .i64 y.vn, .string y.vs, .int .i64 y.var, .int .i64 y.col, .slice y.a y.kids.length y.c] 44)
       refine hK _ _ (KS.out _ hbU) ?_
       have HBU := Rw.dh hbU
       clear hbU
       clear hK K
       (try simp only [Act.put,List.getElem_toArray,List.getElem_cons_succ,List.getElem_cons_zero,HeT.pT])
       refine HeT.one (i := 5) (by kernel_rfl) rfl ?_
       intro K hK
       have hHU := HRV.out.on HBU.out
       have hKU := HK2.out.on HRV.out HBU.out
       have O1 := hHU.n
       rw [HLl.out.1] at O1
       refine step_at Tryz.underlying42 infoCN rfl (by decide) rfl (.tmp 42) (.tmp 45) rfl (w.heap.size + 2 + 1) hHU.lt v j (Rw.flat nC l') (by simp [Act.eval]) O1 ⟨w1.heap.size,0,none⟩ 1 1 (nC y) (by simp [Act.eval]) rfl new_cells (nC_one _) (by unfold maxLen; omega) (by omega) ?_
       intro v2 W2 O2 G2 hv2
       obtain ⟨lv,dv,rfl⟩ := Rw.owns_slice O2
       have hpU := hHU.lt
       have hnv := hHU.ne1
       have hb2 := (G2.block _ hpU hnv.symm).trans hHU.box
       have hkb2 := (G2.block wr.heap.size (by have := HBU.out.size; have := HVk.out; omega) (fun e => HVv.out _ e.symm (Nat.le_refl _))).trans ((HBU.out.block _ HVk.out).trans HKb.out)
       have HR2: Hid (Two (fun b => w.heap.size + 3 <= b) w (w.heap.size + 2) (W2.setCell ⟨w.heap.size + 2,1,none⟩ (.slice lv (j + 1) dv)) (.slice av ts.length cv) (.slice lv (j + 1) dv) ts (l' ++ [y]) /\ K2 w (.slice ta ts.length tc) (.slice (some ⟨b,o,none⟩) l.length lc) (W2.setCell ⟨w.heap.size + 2,1,none⟩ (.slice lv (j + 1) dv)) /\ (l' ++ [y]).length = j + 1 /\ ∀ (i: Nat) x z,l[i]? = some x -> (l' ++ [y])[i]? = some z -> LikeN n x z) := by
        refine ⟨hHU.addN (fun m => ⟨(HIy.out m).1.on (Rw.below_alloc w1 _),(HIy.out m).2.mono fun b hb => ?_⟩) (by rw [HLl.out.1,Rw.flat_append]; simpa [Rw.flat] using O2) G2 hv2,hKU.put (r := v.ownBlock) (Nat.le_refl _) (fun q h1 h2 => G2.block q h1 h2.symm) (fun q e => by have := (hHU.n.lt q e).1; omega),by simp [HLl.out.1],like_snoc HLl.out.1 HLl.out.2 HXk.out HLy.out⟩
        have h1 := HRV.out.lt
        refine ⟨by omega,fun e => ?_,fun e => ?_⟩
        · have := (HRV.out.t.lt b e).2; omega
        · have := (HRV.out.n.lt b e).2; omega
       have y0: W2.cell? ⟨w.heap.size + 2,1,none⟩ = some v := by rw [cell_of_row _ _ _ _ _ _ hb2]; rfl
       have y1: W2.frozen? ⟨w.heap.size + 2,1,none⟩ = false := frozen_of_row _ _ _ _ _ hb2
       have y2 := (Array.getElem?_eq_some_iff.1 hb2).1
       have hS2: (fun w' => w'.cell? ⟨w.heap.size + 2,1,none⟩ = some v /\ w'.cell? ⟨wr.heap.size,0,none⟩ = some (.string k.op) /\ w'.cell? ⟨wr.heap.size,1,none⟩ = some (.int .i64 k.vk) /\ w'.cell? ⟨wr.heap.size,2,none⟩ = some (.int .i64 k.vn) /\ w'.cell? ⟨wr.heap.size,3,none⟩ = some (.string k.vs) /\ w'.cell? ⟨wr.heap.size,4,none⟩ = some (.int .i64 k.var) /\ w'.cell? ⟨wr.heap.size,5,none⟩ = some (.int .i64 k.col) /\ w'.cell? ⟨wr.heap.size,6,none⟩ = some (.slice k.a k.kids.length k.c)) W2 := ⟨y0,by rw [cell_of_row _ _ _ _ _ _ hkb2]; rfl,by rw [cell_of_row _ _ _ _ _ _ hkb2]; rfl,by rw [cell_of_row _ _ _ _ _ _ hkb2]; rfl,by rw [cell_of_row _ _ _ _ _ _ hkb2]; rfl,by rw [cell_of_row _ _ _ _ _ _ hkb2]; rfl,by rw [cell_of_row _ _ _ _ _ _ hkb2]; rfl,by rw [cell_of_row _ _ _ _ _ _ hkb2]; rfl⟩
       refine hK _ _ hS2 ?_
       clear O1 O2 G2 hv2 hb2 hkb2 hpU hnv hHU hKU
       clear hK K
       (try simp only [Act.put,List.getElem_toArray,List.getElem_cons_succ,List.getElem_cons_zero,HeT.pT])
       refine HeT.one (i := 6) (by kernel_rfl) rfl ?_
       intro K hK
       go_simp
       refine hK _ _ hS2 ?_
       clear hK K
       (try simp only [Act.put,List.getElem_toArray,List.getElem_cons_succ,List.getElem_cons_zero,HeT.pT])
       clear hS2 hHeld KS HRV HK2
       refine HeT.rest2 (k := 7) rfl (by decide) (by kernel_rfl) ?_
       simp only [List.drop_succ_cons,List.drop_zero]
       go_wp2_with fail
       refine NoPanic.normal ?_
       go_wp2_with fail
       exact ⟨⟨j + 1,_,_,hlt,by go_num,HR2⟩,by simp [intOf]; omega⟩
     · have hjs: j = l.length := by omega
       subst hjs
       have hv := Rw.owns_slice HR.out.1.n
       rw [HR.out.2.2.1] at hv
       obtain ⟨lv,dv,rfl⟩ := hv
       have HE := Rw.dh (fun (W3: World) hs h3 hb => copied_end (W3 := W3) (k := ⟨ta,tc,ts,la,lc,l⟩) HR.out.1 HR.out.2.2.1 HR.out.2.2.2 HT.out HLn.out hs h3 hb)
       have q0: wr.cell? ⟨w.heap.size + 2,0,none⟩ = some (.slice av ts.length cv) := by rw [cell_of_row _ _ _ _ _ _ HR.out.1.box]; rfl
       have q1: wr.cell? ⟨w.heap.size + 2,1,none⟩ = some (.slice lv l.length dv) := by rw [cell_of_row _ _ _ _ _ _ HR.out.1.box]; rfl
       have r0: wr.cell? ⟨w.heap.size + 1,0,none⟩ = some (.slice none 0 0) := by rw [cell_of_row _ _ _ _ _ _ HR.out.2.1.2]; rfl
       have r1: wr.cell? ⟨w.heap.size + 1,1,none⟩ = some (.slice none 0 0) := by rw [cell_of_row _ _ _ _ _ _ HR.out.2.1.2]; rfl
       have rf := fun o => frozen_of_row _ _ o _ _ HR.out.2.1.2
       have hrl := (Array.getElem?_eq_some_iff.1 HR.out.2.1.2).1
       clear HR z1
       go_wp2_with fail
       refine bodyPost_ret (v := .agg #[.slice av ts.length cv, .slice lv l.length dv]) (by simp [results,Tryz.results80,go_sem,r0,r1]) rfl (HE.out _ (by simp) (fun q hq => by rw [heap_setCell_other _ _ _ _ hq,heap_setCell_other _ _ _ _ hq]) (((Below.refl _ wr).setCell (p := ⟨w.heap.size + 1,0,none⟩) (Nat.le_refl _) _).setCell (p := ⟨w.heap.size + 1,1,none⟩) (Nat.le_refl _) _))
end Go.Proofs.YteibhbnlcpejpaaGreat
