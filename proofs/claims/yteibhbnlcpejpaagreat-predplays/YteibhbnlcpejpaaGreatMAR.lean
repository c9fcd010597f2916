import Derived.Test.YteibhbnlcpejpaaGreatMAJ
import Derived.Test.YteibhbnlcpejpaaGreatMAK
namespace Go.Proofs.YteibhbnlcpejpaaGreat
open Go.RowKit
structure Bd where
 has: Bool
 incl: Bool
 v: Vv
structure Tl where
 col: Int
 lo: Bd
 hi: Bd
def bdV (b: Bd): Value := .agg #[.bool b.has, .bool b.incl, .int .i64 b.v.k, .int .i64 b.v.n, .string b.v.s]
def tlC (t: Tl): List Value := [.int .i64 t.col, .bool t.lo.has, .bool t.lo.incl, .int .i64 t.lo.v.k, .int .i64 t.lo.v.n, .string t.lo.v.s, .bool t.hi.has, .bool t.hi.incl, .int .i64 t.hi.v.k, .int .i64 t.hi.v.n, .string t.hi.v.s]
def tlV (t: Tl): Value := .agg #[.int .i64 t.col, .bool t.lo.has, .bool t.lo.incl, .int .i64 t.lo.v.k, .int .i64 t.lo.v.n, .string t.lo.v.s, .bool t.hi.has, .bool t.hi.incl, .int .i64 t.hi.v.k, .int .i64 t.hi.v.n, .string t.hi.v.s]
theorem tlC_len (t: Tl): (tlC t).length = 11 := rfl
theorem tlC_one (x: Tl): ∀ u ∈ tlC x,u.oneCell' = true := by
 intro u hu
 simp only [tlC,List.mem_cons,List.not_mem_nil,or_false] at hu
 rcases hu with rfl | rfl | rfl | rfl | rfl | rfl | rfl | rfl | rfl | rfl | rfl <;> rfl
def bdz: Bd := ⟨false,false,vz⟩
def tlz: Tl := ⟨0,bdz,bdz⟩
structure TOk (t: Tl): Prop where
 col: fits t.col = true
 lo: VFit t.lo.v
 hi: VFit t.hi.v
def TsOk (l: List Tl): Prop := l.length <= maxLen /\ ∀ t ∈ l,TOk t
structure CondL where
 a: Option Addr
 c: Nat
 ts: List Tl
 b: Option Addr
 d: Nat
 l: List NL
def cdV (x: CondL): Value := .agg #[.slice x.a x.ts.length x.c, .slice x.b x.l.length x.d]
structure CdIn (w: World) (x: CondL): Prop where
 ts: Rw.SlG tlC 11 w x.a x.ts
 ok: TsOk x.ts
 ns: Rw.SlG nC 7 w x.b x.l
 len: x.l.length <= 1599289640401
 ins: ∀ k ∈ x.l,∀ n,InN n w k
theorem CdIn.on {w W: World} {x: CondL} (h: CdIn w x) (hb: Below w.heap.size w W): CdIn W x := ⟨h.ts.below hb,h.ok,h.ns.below hb,h.len,fun k hk n => (h.ins k hk n).on hb⟩
theorem offN_any: ∀ (n: Nat) (x: NL),OffN (fun _ => True) n x
 | 0,_ => trivial
 | n + 1,_ => ⟨Or.inr fun _ _ _ => trivial,fun k _ => offN_any n k⟩
theorem InN.old {n: Nat} {w: World} {x: NL} (h: InN n w x): OffN (fun b => b < w.heap.size) n x := (h.off (offN_any n x)).mono fun _ h => h.2
structure Two (P: Nat -> Prop) (w: World) (p: Nat) (W: World) (v0 v1: Value) (ts: List Tl) (l: List NL): Prop where
 old: w.heap.size <= p
 box: W.heap[p]? = some (.cells #[v0,v1] 78 (0,0))
 t: W.ownsRow (p + 1) 175 11 v0 ts.length (Rw.flat tlC ts)
 n: W.ownsRow (p + 1) 44 7 v1 l.length (Rw.flat nC l)
 ins: ∀ k ∈ l,∀ m,InN m W k /\ OffN (fun b => P b /\ v0.ownBlock ≠ some b /\ v1.ownBlock ≠ some b) m k
 bel: Below w.heap.size w W
 pne: ∀ b,P b -> b ≠ p
namespace Two
variable {P: Nat -> Prop} {w W U W2: World} {p: Nat} {v0 v1 v2: Value} {ts: List Tl} {l: List NL}
theorem lt (h: Two P w p W v0 v1 ts l): p < W.heap.size := (Array.getElem?_eq_some_iff.1 h.box).1
theorem ne0 (h: Two P w p W v0 v1 ts l): v0.ownBlock ≠ some p := fun e => by have := (h.t.lt p e).1; omega
theorem ne1 (h: Two P w p W v0 v1 ts l): v1.ownBlock ≠ some p := fun e => by have := (h.n.lt p e).1; omega
theorem ne (h: Two P w p W v0 v1 ts l) {q: Nat} (h0: v0.ownBlock = some q): v1.ownBlock ≠ some q := fun h1 => Rw.owns_ne h.t h.n (by decide) h0 h1
theorem on (h: Two P w p W v0 v1 ts l) (hb: Below W.heap.size W U): Two P w p U v0 v1 ts l :=
 ⟨h.old,(hb.block _ h.lt).trans h.box,Rw.owns_on h.t hb,Rw.owns_on h.n hb,fun k hk m => ⟨((h.ins k hk m).1).on hb,(h.ins k hk m).2⟩,below_on h.bel hb,h.pne⟩
theorem cells (h: Two P w p W v0 v1 ts l): W.cell? ⟨p,0,none⟩ = some v0 /\ W.cell? ⟨p,1,none⟩ = some v1 /\ W.frozen? ⟨p,0,none⟩ = false /\ W.frozen? ⟨p,1,none⟩ = false := by
 refine ⟨?_, ?_,frozen_of_row _ _ _ _ _ h.box,frozen_of_row _ _ _ _ _ h.box⟩ <;> (rw [cell_of_row _ _ _ _ _ _ h.box]; rfl)
theorem key {P: Nat -> Prop} {U W2: World} {p: Nat} {v0 v1 v2: Value} (hP: ∀ b,P b -> b ≠ p) (z: NL) (m: Nat) (i1: InN m U z) (o1: OffN (fun b => P b /\ v0.ownBlock ≠ some b /\ v1.ownBlock ≠ some b) m z) (hs: U.heap.size <= W2.heap.size) (hb: ∀ b,b < U.heap.size -> b ≠ p -> v0.ownBlock ≠ some b -> W2.heap[b]? = U.heap[b]?) (hv: v2.ownBlock = v0.ownBlock \/ v2.ownBlock = some U.heap.size) :
 InN m W2 z /\ OffN (fun b => P b /\ v2.ownBlock ≠ some b /\ v1.ownBlock ≠ some b) m z := by
 refine ⟨i1.turn o1 hs fun b hb' h => hb b hb' (hP b h.1) h.2.1,(i1.off o1).mono fun b h => ⟨h.1.1, ?_,h.1.2.2⟩⟩
 rcases hv with e | e
 · rw [e]; exact h.1.2.1
 · rw [e]; intro e'; cases e'; exact absurd h.2 (Nat.lt_irrefl _)
theorem addT {t: Tl} (h: Two P w p U v0 v1 ts l) (O2: W2.ownsRow (p + 1) 175 11 v2 (ts.length + 1) (Rw.flat tlC (ts ++ [t]))) (G2: U.grownBy W2 v0.ownBlock) (hv: v2.ownBlock = v0.ownBlock \/ v2.ownBlock = some U.heap.size) :
 Two P w p (W2.setCell ⟨p,0,none⟩ v2) v2 v1 (ts ++ [t]) l := by
 have hp := h.lt
 have hn0 := h.ne0
 have hB2: W2.heap[p]? = some (.cells #[v0,v1] 78 (0,0)) := (G2.block p hp hn0.symm).trans h.box
 have ho: ∀ q,q ≠ p -> (W2.setCell ⟨p,0,none⟩ v2).heap[q]? = W2.heap[q]? := fun q hq => heap_setCell_other _ _ _ _ hq
 refine ⟨h.old, ?_, ?_, ?_, ?_, ?_,h.pne⟩
 · have := heap_setCell_same W2 p 0 #[v0,v1] 78 v2 hB2
   simpa using this
 · rw [List.length_append]
   exact Rw.owns_below O2 fun q hq => ho q (by have := (O2.lt q hq).1; omega)
 · refine Rw.owns_below h.n fun q hq => (ho q (by have := (h.n.lt q hq).1; omega)).trans (G2.block q (h.n.lt q hq).2 fun e => h.ne e.symm hq)
 · intro k hk m
   refine key h.pne k m (h.ins k hk m).1 (h.ins k hk m).2 (by simpa using G2.size) (fun b hb h1 h2 => (ho b h1).trans (G2.block b hb h2.symm)) hv
 · exact (h.bel.grown G2 h.bel.size fun q hq => by have := (h.t.lt q hq).1; have := h.old; omega).setCell h.old v2
theorem addN {y: NL} (h: Two P w p U v0 v1 ts l) (hI: ∀ m,InN m U y /\ OffN (fun b => P b /\ v0.ownBlock ≠ some b /\ v1.ownBlock ≠ some b) m y) (O2: W2.ownsRow (p + 1) 44 7 v2 (l.length + 1) (Rw.flat nC (l ++ [y]))) (G2: U.grownBy W2 v1.ownBlock) (hv: v2.ownBlock = v1.ownBlock \/ v2.ownBlock = some U.heap.size) :
 Two P w p (W2.setCell ⟨p,1,none⟩ v2) v0 v2 ts (l ++ [y]) := by
 have hp := h.lt
 have hn1 := h.ne1
 have hB2: W2.heap[p]? = some (.cells #[v0,v1] 78 (0,0)) := (G2.block p hp hn1.symm).trans h.box
 have ho: ∀ q,q ≠ p -> (W2.setCell ⟨p,1,none⟩ v2).heap[q]? = W2.heap[q]? := fun q hq => heap_setCell_other _ _ _ _ hq
 have hk: ∀ z m,InN m U z -> OffN (fun b => P b /\ v0.ownBlock ≠ some b /\ v1.ownBlock ≠ some b) m z -> InN m (W2.setCell ⟨p,1,none⟩ v2) z /\ OffN (fun b => P b /\ v0.ownBlock ≠ some b /\ v2.ownBlock ≠ some b) m z := fun z m i o => by
  have := key (v0 := v1) (v1 := v0) (v2 := v2) h.pne z m i (o.mono fun b hb => ⟨hb.1,hb.2.2,hb.2.1⟩) (W2 := W2.setCell ⟨p,1,none⟩ v2) (by simpa using G2.size) (fun b hb h1 h2 => (ho b h1).trans (G2.block b hb h2.symm)) hv
  exact ⟨this.1,this.2.mono fun b hb => ⟨hb.1,hb.2.2,hb.2.1⟩⟩
 refine ⟨h.old, ?_, ?_, ?_, ?_, ?_,h.pne⟩
 · have := heap_setCell_same W2 p 1 #[v0,v1] 78 v2 hB2
   simpa using this
 · refine Rw.owns_below h.t fun q hq => (ho q (by have := (h.t.lt q hq).1; omega)).trans (G2.block q (h.t.lt q hq).2 fun e => h.ne hq e.symm)
 · rw [List.length_append]
   exact Rw.owns_below O2 fun q hq => ho q (by have := (O2.lt q hq).1; omega)
 · intro k hk' m
   rcases List.mem_append.1 hk' with h1 | h1
   · exact hk k m (h.ins k h1 m).1 (h.ins k h1 m).2
   · simp at h1
     subst h1
     exact hk _ m (hI m).1 (hI m).2
 · exact (h.bel.grown G2 h.bel.size fun q hq => by have := (h.n.lt q hq).1; have := h.old; omega).setCell h.old v2
theorem done (h: Two P w p W v0 v1 ts l) (hT: TsOk ts) (hl: l.length <= 1599289640401): ∃ a c b d,v0 = .slice a ts.length c /\ v1 = .slice b l.length d /\ CdIn W ⟨a,c,ts,b,d,l⟩ := by
 obtain ⟨a,c,rfl⟩ := Rw.owns_slice h.t
 obtain ⟨b,d,rfl⟩ := Rw.owns_slice h.n
 exact ⟨a,c,b,d,rfl,rfl,(Rw.owns_slg tlC_len (by decide) h.t).2.1,hT,(Rw.owns_slg nC_len (by decide) h.n).2.1,hl,fun k hk m => (h.ins k hk m).1⟩
end Two
def nullBd: Bd := ⟨true,true,vz⟩
def NL.val (x: NL): Vv := ⟨x.vk,x.vn,x.vs⟩
def isColN (x: NL): Bool := x.op.toList == nCOLUMN && x.var == 0 && x.kids.length == 0
def isKnownN (x: NL): Bool := x.op.toList == nVALUE && !isZ x.val && x.kids.length == 0
def oLT: ByteArray := ⟨#[60]⟩
def oLE: ByteArray := ⟨#[60,61]⟩
def oGT: ByteArray := ⟨#[62]⟩
def oGE: ByteArray := ⟨#[62,61]⟩
def turnN (s: ByteArray): ByteArray :=
 if s.toList == [60] then oGT else if s.toList == [60,61] then oGE else if s.toList == [62] then oLT else if s.toList == [62,61] then oLE else s
def boundsN (s: List UInt8) (v: Vv): Bd × Bd × Bool :=
 if s == [61] then (⟨true,true,v⟩,⟨true,true,v⟩,true)
 else if s == [60] then (⟨true,false,vz⟩,⟨true,false,v⟩,true)
 else if s == [60,61] then (⟨true,false,vz⟩,⟨true,true,v⟩,true)
 else if s == [62] then (⟨true,false,v⟩,bdz,true)
 else if s == [62,61] then (⟨true,true,v⟩,bdz,true)
 else (bdz,bdz,false)
def cmpN (op: ByteArray) (a b: NL): Tl × Bool := (⟨a.col,(boundsN op.toList b.val).1,(boundsN op.toList b.val).2.1⟩,(boundsN op.toList b.val).2.2 && isColN a && isKnownN b)
def comparedN (op: ByteArray) (a b: NL): Tl × Bool := if isColN b then cmpN (turnN op) b a else cmpN op a b
def testN (x: NL): Tl × Bool := match x.kids with
 | [k] => (⟨k.col,nullBd,nullBd⟩,x.op.toList == nNULL && isColN k)
 | [a,b] => comparedN x.op a b
 | _ => (tlz,false)
def testsN: List NL -> List Tl
 | [] => []
 | x :: l => if (testN x).2 then (testN x).1 :: testsN l else testsN l
def restN: List NL -> List NL
 | [] => []
 | x :: l => if (testN x).2 then restN l else x :: restN l
theorem testsN_snoc (x: NL): ∀ l,testsN (l ++ [x]) = testsN l ++ if (testN x).2 then [(testN x).1] else []
 | [] => by simp only [List.nil_append,testsN]
 | y :: l => by
  rw [List.cons_append,testsN,testsN,testsN_snoc x l]
  split <;> simp
theorem restN_snoc (x: NL): ∀ l,restN (l ++ [x]) = restN l ++ if (testN x).2 then [] else [x]
 | [] => by simp only [List.nil_append,restN]
 | y :: l => by
  rw [List.cons_append,restN,restN,restN_snoc x l]
  split <;> simp
theorem restN_mem {x: NL}: ∀ {l},x ∈ restN l -> x ∈ l
 | [],h => by cases h
 | y :: l,h => by
  rw [restN] at h
  split at h
  · exact List.mem_cons_of_mem _ (restN_mem h)
  · rcases List.mem_cons.1 h with rfl | h
    · exact List.mem_cons_self
    · exact List.mem_cons_of_mem _ (restN_mem h)
theorem restN_len: ∀ l,(restN l).length <= l.length
 | [] => Nat.le_refl _
 | y :: l => by
  rw [restN]
  have := restN_len l
  split <;> simp <;> omega
theorem testsN_len: ∀ l,(testsN l).length <= l.length
 | [] => Nat.le_refl _
 | y :: l => by
  rw [testsN]
  have := testsN_len l
  split <;> simp <;> omega
theorem boundsN_fit {s: List UInt8} {v: Vv} (h: VFit v): VFit (boundsN s v).1.v /\ VFit (boundsN s v).2.1.v := by
 unfold boundsN
 repeat' split
 all_goals exact ⟨by first | exact h | exact vz_fit,by first | exact h | exact vz_fit⟩
end Go.Proofs.YteibhbnlcpejpaaGreat
