import Derived.Deep.Slices
import Derived.Deep.Strs
import Derived.ProofKit
import Derived.OpenShut
import Derived.Test.YteibhbnlcpejpaaGreatRows
import Derived.ShutString
import Derived.ChangeOld
import Derived.Test.YteibhbnlcpejpaaGreatMBA
set_option maxRecDepth 100000
set_option maxHeartbeats 4000000
namespace Go.Proofs.YteibhbnlcpejpaaGreat.Rw
open Go.RowKit Go.Deep
section
variable {H: Type} {enc: TypeId × Value -> H} {w: World}
end
end Go.Proofs.YteibhbnlcpejpaaGreat.Rw
namespace Go.Proofs.YteibhbnlcpejpaaGreat
open Go.RowKit Go.Deep
theorem nfits {n: Int} (h: (Lit.int .i64 n).wf = true): fits n = true := by
 simpa [Lit.wf,IntKind.min,IntKind.max,IntKind.signed,IntKind.bits,fits] using h
theorem nweights_mem {H: Type} {P: Program} {e: TypeId} {q: Nat -> Bool}: ∀ {l: List (DataW H)},(DataW.weightsAll P e l).all q = true -> ∀ d ∈ l,(d.weights P e).all q = true
 | [],_,d,hd => by cases hd
 | x :: l,h,d,hd => by
  rw [DataW.weightsAll,List.all_append,Bool.and_eq_true] at h
  rcases List.mem_cons.1 hd with rfl | hd
  · exact h.1
  · exact nweights_mem h.2 d hd
def ReachN {H: Type} (t: TypeId) (d: DataW H): Prop := (d.weights Tryz.prog t).all (fun x => decide (x <= reachBytes)) = true
section
variable {H: Type} {enc: TypeId × Value -> H} {w: World}
theorem nthree_of {cs: List Value} {a b c: Value} (hl: cs.length = 3) (h0: (cs.drop 0).take 1 = [a]) (h1: (cs.drop 1).take 1 = [b]) (h2: (cs.drop 2).take 1 = [c]): cs = [a,b,c] := by
 match cs,hl with
 | [c0,c1,c2],_ =>
  simp at h0 h1 h2
  rw [h0,h1,h2]
theorem read_rowW {α: Type} [Inhabited α] {t e: TypeId} {size: Nat} (ht: Tryz.prog.underlying t = some (.slice e)) (hsz: Tryz.prog.cellsOf e = size) (hpos: 0 < size) (R: α -> List Value) (Ok: α -> Prop)
 (helem: ∀ fuel cs x,DataW.trod enc Tryz.prog w 0 (fun _ => true) true fuel e cs = some x -> ReachN e x.1 -> cs.length = size -> ∃ v,cs = R v /\ Ok v)
 {fuel: Nat} {cs: List Value} {x: DataW H × List MemPlace} (h: DataW.trod enc Tryz.prog w 0 (fun _ => true) true fuel t cs = some x) (hW: ReachN t x.1) :
 ∃ a cap,∃ l: List α,cs = [.slice a l.length cap] /\ l.length <= maxLen /\ (∀ x ∈ l,Ok x) /\ Rw.SlG R size w a l := by
 rcases open_slice ht h with ⟨rfl,hx⟩ | ⟨a,len,cap,m,n,D,Pl,rfl,hb,hl,hm,hmm,hx,hel⟩
 · exact ⟨none,0,[],rfl,by simp,fun _ h => (by cases h),Or.inl rfl⟩
 · simp only [if_true] at hmm
   subst hmm
   have hx1 := congrArg Prod.fst hx
   simp only at hx1
   rw [hx1] at hW
   unfold ReachN at hW
   rw [DataW.weights,ht] at hW
   simp only [List.all_cons,List.all_append,Bool.and_eq_true] at hW
   have key: ∀ i,i < len -> ∃ v: α,Ok v /\ ∀ b o,a = ⟨b,o,none⟩ -> ∀ j u,(R v)[j]? = some u -> w.cell? ⟨b,o + i * size + j,none⟩ = some u := by
    intro i hi
    obtain ⟨cs',hc,ht'⟩ := hel i (by omega)
    rw [hsz] at hc
    obtain ⟨-, hlen,hcell⟩ := World.cells?_some hc
    obtain ⟨v,rfl,hok⟩ := helem _ _ _ ht' (nweights_mem hW.2.1 (D i) (List.mem_map.2 ⟨i,List.mem_range.2 hi,rfl⟩)) hlen
    refine ⟨v,hok, ?_⟩
    rintro b o rfl j u hu
    have hj: j < size := by rw [<- hlen]; exact (List.getElem?_eq_some_iff.1 hu).1
    have := hcell j hj
    rw [Rw.add_none,Rw.add_none] at this
    rw [this,hu]
   obtain ⟨S,hS⟩ := choose_lt key
   refine ⟨some a,m,(List.range len).map S,by simp,by simp; omega, ?_, ?_⟩
   · intro x hx
     obtain ⟨i,hi,rfl⟩ := List.mem_map.1 hx
     exact (hS i (List.mem_range.1 hi)).1
   cases len with
   | zero => exact Or.inl rfl
   | succ len =>
    right
    obtain ⟨cs',hc, -⟩ := hel 0 (by omega)
    rw [hsz] at hc
    obtain ⟨-, hlen,hcell⟩ := World.cells?_some hc
    have h0 := hcell 0 hpos
    rw [List.getElem?_eq_getElem (by omega)] at h0
    have hsp: a.spot = none := by
     have := World.cell?_spot h0
     simpa [Addr.add] using this
    obtain ⟨b,o,sp⟩ := a
    simp only at hsp
    subst hsp
    refine ⟨b,o,rfl, ?_, ?_⟩
    · have := World.block_lt_of_cell? _ _ h0
      simpa [Addr.add] using this
    · intro j v hv
      rw [List.getElem?_map] at hv
      obtain ⟨i,hi,rfl⟩ := Option.map_eq_some_iff.1 hv
      have hj: j < len + 1 := by
       have := (List.getElem?_eq_some_iff.1 hi).1
       simpa using this
      have: i = j := by
       rw [List.getElem?_range hj] at hi
       exact (Option.some.inj hi).symm
      subst this
      exact (hS i hj).2 b o rfl
theorem vcells: Tryz.prog.cellsOf 27 = 3 := by kernel_rfl
theorem read_vv {fuel: Nat} {cs: List Value} {x: DataW H × List MemPlace} (h: DataW.trod enc Tryz.prog w 0 (fun _ => true) true fuel 27 cs = some x) (hW: ReachN 27 x.1): ∃ v: Vv,cs = vvC v /\ VFit v := by
 obtain ⟨zs,n2, -, hzs,hzl,hzlen,hzf⟩ := DataW.trod_struct Tryz.underlying27 h
 match zs,hzlen with
 | [v0,v1,v2],_ =>
  have e0 := hzf 0 _ rfl
  have e1 := hzf 1 _ rfl
  have e2 := hzf 2 _ rfl
  simp only [List.getElem?_cons_zero,List.getElem?_cons_succ] at e0 e1 e2
  obtain ⟨k0,j0, -, hk0⟩ := DataW.trod_int Tryz.underlying3 e0
  obtain ⟨k1,j1, -, hk1⟩ := DataW.trod_int Tryz.underlying3 e1
  obtain ⟨s1,j2,hj2,hs1⟩ := DataW.trod_string Tryz.underlying9 e2
  refine ⟨⟨k0,k1,s1⟩,nthree_of hzl j0 j1 j2,nfits hk0,nfits hk1, ?_⟩
  have hv2: v2.1 = .lit (.string s1.data.toList) := by rw [hj2]
  have hy1: x.1 = .agg [v0.1,v1.1,v2.1] := congrArg Prod.fst hzs
  have h1 := hW
  unfold ReachN at h1
  rw [hy1,DataW.weights,Tryz.underlying27] at h1
  simp only [DataW.weightsEach,List.map_cons,List.map_nil,List.all_append,Bool.and_eq_true] at h1
  have h2 := h1.2.2.1
  rw [hv2,DataW.weights] at h2
  have h3: s1.data.toList.length <= reachBytes := of_decide_eq_true (List.all_eq_true.1 h2 _ (List.mem_singleton.2 rfl))
  have h4: s1.data.toList.length = s1.size := Array.length_toList
  unfold reachBytes at h3
  show s1.size <= _
  omega
end
end Go.Proofs.YteibhbnlcpejpaaGreat
namespace Go.Proofs.YteibhbnlcpejpaaGreat
open Go.RowKit Go.ChangeShapes Go.WideShapes Go.ChangeAt
theorem returns_sized {H: Type} {enc: TypeId × Value -> H} {a: Assume} {C: Checked} {os: Os} {f: FuncId} {fn: Func} {s: ChangeSpec} {conds: List PathCond} {apart fresh handsOn again: Bool}
 (own: ownKnob C.prog.godebug = none) (started: os.Started) (noInit: C.prog.inits.idxOf? f = none) (hfn: C.prog.funcs[f]? = some fn)
 (witness: ∃ (w: World) (tape: Tape) (i: Input),w.os = os /\ (w.forCall tape i).Shaped C.prog /\ i.vars = [] /\ Input.okWide C.prog (w.forCall tape i) .any w.heap.size f i /\
   s.pre6 enc C.prog fn conds apart (w.forCall tape i).memory i.args /\ a.holds C.prog (lone (Frame.enter C.prog f i.args .normal) [] (w.forCall tape i)))
 (contract: ∀ (W: World) (base: Nat) (args: Array Value) (ds gs: List (DataW H)) (before: List MemPlace),
   (∀ (j: Nat) t v,fn.params[j]? = some t -> args[j]? = some v -> Value.okWide C.prog W .any base t v) ->
   DataW.Whole enc C.prog fn.params.toList s.vars apart W args.toList ds gs before ->
   (DataW.weightsEach C.prog (fn.params.toList ++ s.plain.varTypes C.prog) (ds ++ gs)).all (· <= reachBytes) = true ->
   Calls C.prog f args W fun e W' => ∃ v,e = .returned v /\ s.post enc C.prog fn apart fresh handsOn again W args v W') :
 ReturnsInHanded a C os f .any (s.pre6 enc C.prog fn conds apart) (s.post enc C.prog fn apart fresh handsOn again) := by
 refine returnsInHanded_of_calls own started noInit witness ?_
 intro w tape i _ _ _ hok hpre _
 obtain ⟨_,_,_,fn',hfn',_,_,_,_,hval⟩ := hok
 obtain rfl: fn' = fn := Option.some.inj (hfn'.symm.trans hfn)
 obtain ⟨_,⟨_,ds,gs,before,hw,hwt⟩⟩ := hpre
 refine (contract (w.forCall tape i) w.heap.size i.args ds gs before hval (DataW.Whole.of_heap (w' := w.forCall tape i) (by rfl) hw) hwt).mono fun e W' ⟨v,he,hp⟩ => ?_
 subst he
 exact ChangeSpec.post_blind hp
theorem nweights_at {H: Type} {P: Program}: ∀ {ts us: List TypeId} {ds: List (DataW H)},(DataW.weightsEach P (ts ++ us) ds).all (· <= reachBytes) = true -> ∀ (j: Nat) t d,ts[j]? = some t -> ds[j]? = some d -> (DataW.weights P t d).all (fun x => decide (x <= reachBytes)) = true
 | [],_,_,_,j,t,d,h1,_ => by simp at h1
 | t0 :: ts,us,[],_,j,t,d,_,h2 => by simp at h2
 | t0 :: ts,us,d0 :: ds,h,j,t,d,h1,h2 => by
  rw [List.cons_append,DataW.weightsEach,List.all_append,Bool.and_eq_true] at h
  cases j with
  | zero =>
   simp at h1 h2
   subst h1 h2
   exact h.1
  | succ j => exact nweights_at h.2 j t d (by simpa using h1) (by simpa using h2)
end Go.Proofs.YteibhbnlcpejpaaGreat
namespace Go.Proofs.YteibhbnlcpejpaaGreat
open Go.RowKit
structure Bd where
 has: Bool
 incl: Bool
 v: Vv
structure Tl where
 col: Int
 lo: Bd
 hi: Bd
def bdV (b: Bd): Value := .agg #[.bool b.has, .bool b.incl, .int .i64 b.v.k, .int .i64 b.v.n, .string b.v.s]
def tlC (t: Tl): List Value := [.int .i64 t.col, .bool t.lo.has, .bool t.lo.incl, .int .i64 t.lo.v.k, .int .i64 t.lo.v.n, .string t.lo.v.s, .bool t.hi.has, .bool t.hi.incl, .int .i64 t.hi.v.k, .int .i64 t.hi.v.n, .string t.hi.v.s]
def tlV (t: Tl): Value := .agg #[.int .i64 t.col, .bool t.lo.has, .bool t.lo.incl, .int .i64 t.lo.v.k, .int .i64 t.lo.v.n, .string t.lo.v.s, .bool t.hi.has, .bool t.hi.incl, .int .i64 t.hi.v.k, .int .i64 t.hi.v.n, .string t.hi.v.s]
theorem tlC_len (t: Tl): (tlC t).length = 11 := rfl
theorem tlC_one (x: Tl): ∀ u ∈ tlC x,u.oneCell' = true := by
 intro u hu
 simp only [tlC,List.mem_cons,List.not_mem_nil,or_false] at hu
 rcases hu with rfl | rfl | rfl | rfl | rfl | rfl | rfl | rfl | rfl | rfl | rfl <;> rfl
def bdz: Bd := ⟨false,false,vz⟩
def tlz: Tl := ⟨0,bdz,bdz⟩
structure TOk (t: Tl): Prop where
 col: fits t.col = true
 lo: VFit t.lo.v
 hi: VFit t.hi.v
def TsOk (l: List Tl): Prop := l.length <= maxLen /\ ∀ t ∈ l,TOk t
structure CondL where
 a: Option Addr
 c: Nat
 ts: List Tl
 b: Option Addr
 d: Nat
 l: List NL
def cdV (x: CondL): Value := .agg #[.slice x.a x.ts.length x.c, .slice x.b x.l.length x.d]
structure CdIn (w: World) (x: CondL): Prop where
 ts: Rw.SlG tlC 11 w x.a x.ts
 ok: TsOk x.ts
 ns: Rw.SlG nC 7 w x.b x.l
 len: x.l.length <= 1599289640401
 ins: ∀ k ∈ x.l,∀ n,InN n w k
theorem CdIn.on {w W: World} {x: CondL} (h: CdIn w x) (hb: Below w.heap.size w W): CdIn W x := ⟨h.ts.below hb,h.ok,h.ns.below hb,h.len,fun k hk n => (h.ins k hk n).on hb⟩
end Go.Proofs.YteibhbnlcpejpaaGreat
namespace Go.Proofs.YteibhbnlcpejpaaGreat
open Go.RowKit Go.Deep
section
variable {H: Type} {enc: TypeId × Value -> H} {w: World}
theorem read_vs {fuel: Nat} {cs: List Value} {x: DataW H × List MemPlace} (h: DataW.trod enc Tryz.prog w 0 (fun _ => true) true fuel 79 cs = some x) (hW: ReachN 79 x.1): ∃ a c l,cs = [.slice a (l: List Vv).length c] /\ (l.length <= maxLen /\ ∀ v ∈ l,VFit v) /\ Rw.SlG vvC 3 w a l := by
 have hinv: Inhabited Vv := ⟨vz⟩
 obtain ⟨a,c,l,hcs,hl,hok,hS⟩ := read_rowW (enc := enc) (w := w) Tryz.underlying79 vcells (by decide) vvC VFit (fun fuel cs x h hW _ => read_vv h hW) h hW
 exact ⟨a,c,l,hcs,⟨hl,hok⟩,hS⟩
end
theorem open_vs {H: Type} {enc: TypeId × Value -> H} {w: World} {base: Nat} {v: Value} {d: DataW H} {p: List MemPlace} (hv: Value.okWide Tryz.prog w .any base 79 v) (h: DataW.Trod enc Tryz.prog w 0 (fun _ => true) true 79 v d p) (hW: ReachN 79 d): ∃ a c l,v = .slice a (l: List Vv).length c /\ (l.length <= maxLen /\ ∀ v ∈ l,VFit v) /\ Rw.SlG vvC 3 w a l := by
 obtain ⟨a0,n0,cap0,rfl⟩ := Go.WideShapes.okWide_slice Tryz.underlying79 hv
 obtain ⟨fuel,hf⟩ := h
 obtain ⟨a,c,l,hcs,h1,h2⟩ := read_vs hf hW
 simp [Value.cells] at hcs
 obtain ⟨rfl,rfl,rfl⟩ := hcs
 exact ⟨a0,cap0,l,rfl,h1,h2⟩
end Go.Proofs.YteibhbnlcpejpaaGreat
namespace Go.Proofs.YteibhbnlcpejpaaGreat
open Go.RowKit
def nullBd: Bd := ⟨true,true,vz⟩
def NL.val (x: NL): Vv := ⟨x.vk,x.vn,x.vs⟩
def isColN (x: NL): Bool := x.op.toList == nCOLUMN && x.var == 0 && x.kids.length == 0
def isKnownN (x: NL): Bool := x.op.toList == nVALUE && !isZ x.val && x.kids.length == 0
def oLT: ByteArray := ⟨#[60]⟩
def oLE: ByteArray := ⟨#[60,61]⟩
def oGT: ByteArray := ⟨#[62]⟩
def oGE: ByteArray := ⟨#[62,61]⟩
def turnN (s: ByteArray): ByteArray :=
 if s.toList == [60] then oGT else if s.toList == [60,61] then oGE else if s.toList == [62] then oLT else if s.toList == [62,61] then oLE else s
def boundsN (s: List UInt8) (v: Vv): Bd × Bd × Bool :=
 if s == [61] then (⟨true,true,v⟩,⟨true,true,v⟩,true)
 else if s == [60] then (⟨true,false,vz⟩,⟨true,false,v⟩,true)
 else if s == [60,61] then (⟨true,false,vz⟩,⟨true,true,v⟩,true)
 else if s == [62] then (⟨true,false,v⟩,bdz,true)
 else if s == [62,61] then (⟨true,true,v⟩,bdz,true)
 else (bdz,bdz,false)
def cmpN (op: ByteArray) (a b: NL): Tl × Bool := (⟨a.col,(boundsN op.toList b.val).1,(boundsN op.toList b.val).2.1⟩,(boundsN op.toList b.val).2.2 && isColN a && isKnownN b)
def comparedN (op: ByteArray) (a b: NL): Tl × Bool := if isColN b then cmpN (turnN op) b a else cmpN op a b
def testN (x: NL): Tl × Bool := match x.kids with
 | [k] => (⟨k.col,nullBd,nullBd⟩,x.op.toList == nNULL && isColN k)
 | [a,b] => comparedN x.op a b
 | _ => (tlz,false)
def testsN: List NL -> List Tl
 | [] => []
 | x :: l => if (testN x).2 then (testN x).1 :: testsN l else testsN l
def restN: List NL -> List NL
 | [] => []
 | x :: l => if (testN x).2 then restN l else x :: restN l
theorem testsN_snoc (x: NL): ∀ l,testsN (l ++ [x]) = testsN l ++ if (testN x).2 then [(testN x).1] else []
 | [] => by simp only [List.nil_append,testsN]
 | y :: l => by
  rw [List.cons_append,testsN,testsN,testsN_snoc x l]
  split <;> simp
theorem restN_snoc (x: NL): ∀ l,restN (l ++ [x]) = restN l ++ if (testN x).2 then [] else [x]
 | [] => by simp only [List.nil_append,restN]
 | y :: l => by
  rw [List.cons_append,restN,restN,restN_snoc x l]
  split <;> simp
theorem restN_mem {x: NL}: ∀ {l},x ∈ restN l -> x ∈ l
 | [],h => by cases h
 | y :: l,h => by
  rw [restN] at h
  split at h
  · exact List.mem_cons_of_mem _ (restN_mem h)
  · rcases List.mem_cons.1 h with rfl | h
    · exact List.mem_cons_self
    · exact List.mem_cons_of_mem _ (restN_mem h)
theorem restN_len: ∀ l,(restN l).length <= l.length
 | [] => Nat.le_refl _
 | y :: l => by
  rw [restN]
  have := restN_len l
  split <;> simp <;> omega
theorem testsN_len: ∀ l,(testsN l).length <= l.length
 | [] => Nat.le_refl _
 | y :: l => by
  rw [testsN]
  have := testsN_len l
  split <;> simp <;> omega
theorem boundsN_fit {s: List UInt8} {v: Vv} (h: VFit v): VFit (boundsN s v).1.v /\ VFit (boundsN s v).2.1.v := by
 unfold boundsN
 repeat' split
 all_goals exact ⟨by first | exact h | exact vz_fit,by first | exact h | exact vz_fit⟩
end Go.Proofs.YteibhbnlcpejpaaGreat
namespace Go.Proofs.YteibhbnlcpejpaaGreat
open Go.RowKit Go.Deep
theorem xfits {n: Int} (h: (Lit.int .i64 n).wf = true): fits n = true := by
 simpa [Lit.wf,IntKind.min,IntKind.max,IntKind.signed,IntKind.bits,fits] using h
theorem xcells: Tryz.prog.cellsOf 30 = 7 := by kernel_rfl
theorem xbytes: Tryz.prog.bytesOf 30 = 104 := by kernel_rfl
theorem bulk_at {H: Type} (D: Nat -> DataW H): ∀ n i,i < n -> Rows.uptoBulk (D i) <= Rows.uptoBulkAll ((List.range n).map D) := by
 intro n
 induction n with
 | zero => intro i hi; omega
 | succ n ih =>
  intro i hi
  have happ: ∀ a b: List (DataW H),Rows.uptoBulkAll (a ++ b) = Rows.uptoBulkAll a + Rows.uptoBulkAll b := by
   intro a b
   induction a with
   | nil => simp [Rows.uptoBulkAll]
   | cons x a ih => simp [Rows.uptoBulkAll,ih]; omega
  rw [List.range_succ,List.map_append,happ]
  by_cases e: i = n
  · subst e; simp [Rows.uptoBulkAll]
  · have := ih i (by omega); omega
theorem weights_mem {H: Type} {P: Program} {e: TypeId} {q: Nat -> Bool}: ∀ {l: List (DataW H)},(DataW.weightsAll P e l).all q = true -> ∀ d ∈ l,(d.weights P e).all q = true
 | [],_,d,hd => by cases hd
 | x :: l,h,d,hd => by
  rw [DataW.weightsAll,List.all_append,Bool.and_eq_true] at h
  rcases List.mem_cons.1 hd with rfl | hd
  · exact h.1
  · exact weights_mem h.2 d hd
def Reach {H: Type} (t: TypeId) (d: DataW H): Prop := (d.weights Tryz.prog t).all (fun x => decide (x <= reachBytes)) = true
section
variable {H: Type} {enc: TypeId × Value -> H} {w: World}
def KidsR (w: World) (cs: List Value): Prop := ∃ a c,∃ l: List XL,cs = [.slice a l.length c] /\ l.length <= 1353245080300 /\ Rw.SlG xC 7 w a l /\ ∀ k ∈ l,∀ n,In n w k
theorem seven_of {cs: List Value} {a b c d e f g: Value} (hl: cs.length = 7) (h0: (cs.drop 0).take 1 = [a]) (h1: (cs.drop 1).take 3 = [b,c,d]) (h2: (cs.drop 4).take 1 = [e]) (h3: (cs.drop 5).take 1 = [f]) (h4: (cs.drop 6).take 1 = [g]): cs = [a,b,c,d,e,f,g] := by
 match cs,hl with
 | [c0,c1,c2,c3,c4,c5,c6],_ =>
  simp at h0 h1 h2 h3 h4
  rw [h0,h1.1,h1.2.1,h1.2.2,h2,h3,h4]
theorem three_of {cs: List Value} {a b c: Value} (hl: cs.length = 3) (h0: (cs.drop 0).take 1 = [a]) (h1: (cs.drop 1).take 1 = [b]) (h2: (cs.drop 2).take 1 = [c]): cs = [a,b,c] := by
 match cs,hl with
 | [c0,c1,c2],_ =>
  simp at h0 h1 h2
  rw [h0,h1,h2]
theorem read_x1 {fuel: Nat} {cs: List Value} {d: DataW H} {p: List MemPlace} (h: DataW.trod enc Tryz.prog w 0 (fun _ => true) true fuel 30 cs = some (d,p)) (hW: Reach 30 d)
 (hk: ∀ fuel' cs' d' p',DataW.trod enc Tryz.prog w 0 (fun _ => true) true fuel' 28 cs' = some (d',p') -> Rows.uptoBulk d' < Rows.uptoBulk d -> Reach 28 d' -> KidsR w cs'): ∃ x,cs = xC x /\ ∀ n,In n w x := by
 obtain ⟨xs,n',hd,hxs,hl,hlen,hf⟩ := DataW.trod_struct Tryz.underlying30 h
 simp only [Prod.mk.injEq] at hxs
 match xs,hlen with
 | [y0,y1,y2,y3,y4],_ =>
  have f0 := hf 0 _ rfl
  have f1 := hf 1 _ rfl
  have f2 := hf 2 _ rfl
  have f3 := hf 3 _ rfl
  have f4 := hf 4 _ rfl
  simp only [List.getElem?_cons_zero,List.getElem?_cons_succ] at f0 f1 f2 f3 f4
  obtain ⟨s0,g0, -, hs0⟩ := DataW.trod_string Tryz.underlying9 f0
  obtain ⟨s2,g2, -, hs2⟩ := DataW.trod_string Tryz.underlying9 f2
  obtain ⟨s3,g3, -, hs3⟩ := DataW.trod_string Tryz.underlying9 f3
  obtain ⟨zs,n2, -, hzs,hzl,hzlen,hzf⟩ := DataW.trod_struct Tryz.underlying27 f1
  match zs,hzlen with
  | [v0,v1,v2],_ =>
   have e0 := hzf 0 _ rfl
   have e1 := hzf 1 _ rfl
   have e2 := hzf 2 _ rfl
   simp only [List.getElem?_cons_zero,List.getElem?_cons_succ] at e0 e1 e2
   obtain ⟨k0,j0, -, hk0⟩ := DataW.trod_int Tryz.underlying3 e0
   obtain ⟨k1,j1, -, hk1⟩ := DataW.trod_int Tryz.underlying3 e1
   obtain ⟨s1,j2, -, hs1⟩ := DataW.trod_string Tryz.underlying9 e2
   have hd': d = .agg [y0.1,y1.1,y2.1,y3.1,y4.1] := hxs.1
   have hW4: Reach 28 y4.1 := by
    have := hW
    unfold Reach at this ⊢
    rw [hd',DataW.weights,Tryz.underlying30] at this
    simp only [DataW.weightsEach,List.map_cons,List.map_nil,List.all_append,Bool.and_eq_true] at this
    exact this.2.2.2.2.1
   have hB4: Rows.uptoBulk y4.1 < Rows.uptoBulk d := by
    rw [hd']
    simp only [Rows.uptoBulk,Rows.uptoBulkAll]
    omega
   obtain ⟨a,c,l,hcs,hll,hS,hIn⟩ := hk n' _ y4.1 y4.2 f4 hB4 hW4
   have t1: ((cs.drop 1).take 3) = [.int .i64 k0, .int .i64 k1, .string s1] := three_of hzl j0 j1 j2
   refine ⟨.mk s0 k0 k1 s1 s2 s3 a c l,seven_of hl g0 t1 g2 g3 hcs,fun n => ?_⟩
   cases n with
   | zero => trivial
   | succ n => exact ⟨⟨xfits hk0,xfits hk1,hs0,hs1,hs2,hs3,hll⟩,hS,fun k hk => hIn k hk n⟩
theorem read_xs: ∀ (B: Nat) (d: DataW H),Rows.uptoBulk d <= B -> ∀ (fuel: Nat) (cs: List Value) (p: List MemPlace),DataW.trod enc Tryz.prog w 0 (fun _ => true) true fuel 28 cs = some (d,p) -> Reach 28 d -> KidsR w cs := by
 intro B
 induction B with
 | zero =>
  intro d hd fuel cs p h _
  rcases open_slice Tryz.underlying28 h with ⟨rfl,hx⟩ | ⟨a,len,cap,m,n,D,Pl,rfl,hb,hl,hm,hmm,hx,hel⟩
  · exact ⟨none,0,[],rfl,by simp,Or.inl rfl,fun k hk => by cases hk⟩
  · simp only [Prod.mk.injEq] at hx
    rw [hx.1] at hd
    simp [Rows.uptoBulk] at hd
 | succ B ih =>
  intro d hd fuel cs p h hW
  rcases open_slice Tryz.underlying28 h with ⟨rfl,hx⟩ | ⟨a,len,cap,m,n,D,Pl,rfl,hb,hl,hm,hmm,hx,hel⟩
  · exact ⟨none,0,[],rfl,by simp,Or.inl rfl,fun k hk => by cases hk⟩
  · simp only [Prod.mk.injEq] at hx
    obtain ⟨rfl, -⟩ := hx
    simp only [if_true] at hmm
    subst hmm
    simp only [Rows.uptoBulk] at hd
    unfold Reach at hW
    rw [DataW.weights,Tryz.underlying28] at hW
    simp only [List.all_cons,List.all_append,Bool.and_eq_true,decide_eq_true_eq,xbytes] at hW
    have hlen: len <= 1353245080300 := by
     have := hW.1
     simp only [List.length_map,List.length_range,reachBytes] at this
     omega
    have key: ∀ i,i < len -> ∃ x: XL,(∀ n,In n w x) /\ ∀ b o,a = ⟨b,o,none⟩ -> ∀ j u,(xC x)[j]? = some u -> w.cell? ⟨b,o + i * 7 + j,none⟩ = some u := by
     intro i hi
     obtain ⟨cs',hc,ht⟩ := hel i (by omega)
     rw [xcells] at hc
     obtain ⟨-, hlc,hcell⟩ := World.cells?_some hc
     have hbi := bulk_at D len i hi
     obtain ⟨x,rfl,hIn⟩ := read_x1 ht (weights_mem hW.2.1 (D i) (List.mem_map.2 ⟨i,List.mem_range.2 hi,rfl⟩)) (fun fuel' cs' d' p' h' hb' hW' => ih d' (by omega) fuel' cs' p' h' hW')
     refine ⟨x,hIn, ?_⟩
     rintro b o rfl j u hu
     have hj: j < 7 := by rw [<- hlc]; exact (List.getElem?_eq_some_iff.1 hu).1
     have := hcell j hj
     rw [Rw.add_none,Rw.add_none] at this
     rw [this,hu]
    have hinh: Inhabited XL := ⟨zXL⟩
    obtain ⟨S,hS⟩ := choose_lt key
    refine ⟨some a,m,(List.range len).map S,by simp,by simpa using hlen, ?_, ?_⟩
    · cases len with
      | zero => exact Or.inl rfl
      | succ len =>
       right
       obtain ⟨cs',hc, -⟩ := hel 0 (by omega)
       rw [xcells] at hc
       obtain ⟨-, hlc,hcell⟩ := World.cells?_some hc
       have h0 := hcell 0 (by decide)
       rw [List.getElem?_eq_getElem (by omega)] at h0
       have hsp: a.spot = none := by
        have := World.cell?_spot h0
        simpa [Addr.add] using this
       obtain ⟨b,o,sp⟩ := a
       simp only at hsp
       subst hsp
       refine ⟨b,o,rfl, ?_, ?_⟩
       · have := World.block_lt_of_cell? _ _ h0
         simpa [Addr.add] using this
       · intro j x hx
         rw [List.getElem?_map] at hx
         obtain ⟨i,hi,rfl⟩ := Option.map_eq_some_iff.1 hx
         have hj: j < len + 1 := by
          have := (List.getElem?_eq_some_iff.1 hi).1
          simpa using this
         have: i = j := by
          rw [List.getElem?_range hj] at hi
          exact (Option.some.inj hi).symm
         subst this
         exact (hS i hj).2 b o rfl
    · intro k hk n
      obtain ⟨i,hi,rfl⟩ := List.mem_map.1 hk
      exact (hS i (List.mem_range.1 hi)).1 n
end
section
variable {H: Type} {enc: TypeId × Value -> H} {w: World}
theorem read_rowC {α: Type} [Inhabited α] {t e: TypeId} {size: Nat} (ht: Tryz.prog.underlying t = some (.slice e)) (hsz: Tryz.prog.cellsOf e = size) (hpos: 0 < size) (R: α -> List Value) (Ok: α -> Prop)
 (helem: ∀ fuel cs x,DataW.trod enc Tryz.prog w 0 (fun _ => true) true fuel e cs = some x -> ReachN e x.1 -> cs.length = size -> ∃ v,cs = R v /\ Ok v)
 {fuel: Nat} {cs: List Value} {x: DataW H × List MemPlace} (h: DataW.trod enc Tryz.prog w 0 (fun _ => true) true fuel t cs = some x) (hW: ReachN t x.1) :
 ∃ a cap,∃ l: List α,cs = [.slice a l.length cap] /\ l.length <= maxLen /\ (a = none -> cap = 0) /\ (∀ x ∈ l,Ok x) /\ Rw.SlG R size w a l := by
 rcases open_slice ht h with ⟨rfl,hx⟩ | ⟨a,len,cap,m,n,D,Pl,rfl,hb,hl,hm,hmm,hx,hel⟩
 · exact ⟨none,0,[],rfl,by simp,fun _ => rfl,fun _ h => (by cases h),Or.inl rfl⟩
 · simp only [if_true] at hmm
   subst hmm
   have hx1 := congrArg Prod.fst hx
   simp only at hx1
   rw [hx1] at hW
   unfold ReachN at hW
   rw [DataW.weights,ht] at hW
   simp only [List.all_cons,List.all_append,Bool.and_eq_true] at hW
   have key: ∀ i,i < len -> ∃ v: α,Ok v /\ ∀ b o,a = ⟨b,o,none⟩ -> ∀ j u,(R v)[j]? = some u -> w.cell? ⟨b,o + i * size + j,none⟩ = some u := by
    intro i hi
    obtain ⟨cs',hc,ht'⟩ := hel i (by omega)
    rw [hsz] at hc
    obtain ⟨-, hlen,hcell⟩ := World.cells?_some hc
    obtain ⟨v,rfl,hok⟩ := helem _ _ _ ht' (nweights_mem hW.2.1 (D i) (List.mem_map.2 ⟨i,List.mem_range.2 hi,rfl⟩)) hlen
    refine ⟨v,hok, ?_⟩
    rintro b o rfl j u hu
    have hj: j < size := by rw [<- hlen]; exact (List.getElem?_eq_some_iff.1 hu).1
    have := hcell j hj
    rw [Rw.add_none,Rw.add_none] at this
    rw [this,hu]
   obtain ⟨S,hS⟩ := choose_lt key
   refine ⟨some a,m,(List.range len).map S,by simp,by simp; omega,fun h => (by cases h), ?_, ?_⟩
   · intro x hx
     obtain ⟨i,hi,rfl⟩ := List.mem_map.1 hx
     exact (hS i (List.mem_range.1 hi)).1
   cases len with
   | zero => exact Or.inl rfl
   | succ len =>
    right
    obtain ⟨cs',hc, -⟩ := hel 0 (by omega)
    rw [hsz] at hc
    obtain ⟨-, hlen,hcell⟩ := World.cells?_some hc
    have h0 := hcell 0 hpos
    rw [List.getElem?_eq_getElem (by omega)] at h0
    have hsp: a.spot = none := by
     have := World.cell?_spot h0
     simpa [Addr.add] using this
    obtain ⟨b,o,sp⟩ := a
    simp only at hsp
    subst hsp
    refine ⟨b,o,rfl, ?_, ?_⟩
    · have := World.block_lt_of_cell? _ _ h0
      simpa [Addr.add] using this
    · intro j v hv
      rw [List.getElem?_map] at hv
      obtain ⟨i,hi,rfl⟩ := Option.map_eq_some_iff.1 hv
      have hj: j < len + 1 := by
       have := (List.getElem?_eq_some_iff.1 hi).1
       simpa using this
      have: i = j := by
       rw [List.getElem?_range hj] at hi
       exact (Option.some.inj hi).symm
      subst this
      exact (hS i hj).2 b o rfl
theorem one_takeW {cs: List Value} {j: Nat} {v: Value} (h: (cs.drop j).take 1 = [v]): cs[j]? = some v := by
 have := congrArg (fun l => l[0]?) h
 simpa using this
theorem colCells: Tryz.prog.cellsOf 138 = 4 := by kernel_rfl
theorem tabCells: Tryz.prog.cellsOf 96 = 2 := by kernel_rfl
theorem str_reach {s: ByteArray} (h: (DataW.weights (H := H) Tryz.prog 9 (.lit (.string s.data.toList))).all (fun x => decide (x <= reachBytes)) = true): s.size <= 140737488355328 := by
 rw [DataW.weights] at h
 have h3: s.data.toList.length <= reachBytes := of_decide_eq_true (List.all_eq_true.1 h _ (List.mem_singleton.2 rfl))
 have h4: s.data.toList.length = s.size := Array.length_toList
 unfold reachBytes at h3
 omega
theorem read_colW {fuel: Nat} {cs: List Value} {x: DataW H × List MemPlace} (h: DataW.trod enc Tryz.prog w 0 (fun _ => true) true fuel 138 cs = some x) (hW: ReachN 138 x.1) (hl: cs.length = 4): ∃ c: Col,cs = colC c /\ c.s.size <= 140737488355328 := by
 obtain ⟨zs,n2, -, hzs,hzl,hzlen,hzf⟩ := DataW.trod_struct Tryz.underlying138 h
 match zs,hzlen with
 | [v0,v1,v2,v3],_ =>
  have e0 := hzf 0 _ rfl
  have e1 := hzf 1 _ rfl
  have e2 := hzf 2 _ rfl
  have e3 := hzf 3 _ rfl
  simp only [List.getElem?_cons_zero,List.getElem?_cons_succ] at e0 e1 e2 e3
  obtain ⟨s0,j0,hj0, -⟩ := DataW.trod_string Tryz.underlying9 e0
  obtain ⟨k1,j1, -, -⟩ := DataW.trod_int Tryz.underlying3 e1
  obtain ⟨b2,j2, -⟩ := DataW.trod_bool Tryz.underlying4 e2
  obtain ⟨b3,j3, -⟩ := DataW.trod_bool Tryz.underlying4 e3
  have hs: s0.size <= 140737488355328 := by
   have hv0: v0.1 = .lit (.string s0.data.toList) := by rw [hj0]
   have hy1: x.1 = .agg [v0.1,v1.1,v2.1,v3.1] := congrArg Prod.fst hzs
   have h1 := hW
   unfold ReachN at h1
   rw [hy1,DataW.weights,Tryz.underlying138] at h1
   simp only [DataW.weightsEach,List.map_cons,List.map_nil,List.all_append,Bool.and_eq_true] at h1
   have h2 := h1.1
   rw [hv0] at h2
   exact str_reach (H := H) h2
  refine ⟨⟨s0,k1,b2,b3⟩, ?_,hs⟩
  have i0 := one_takeW j0
  have i1 := one_takeW j1
  have i2 := one_takeW j2
  have i3 := one_takeW j3
  match cs,hl with
  | [a0,a1,a2,a3],_ =>
   simp at i0 i1 i2 i3
   subst i0 i1 i2 i3
   rfl
theorem read_tabW {fuel: Nat} {cs: List Value} {x: DataW H × List MemPlace} (h: DataW.trod enc Tryz.prog w 0 (fun _ => true) true fuel 96 cs = some x) (hW: ReachN 96 x.1) (hl: cs.length = 2): ∃ t: TabL,cs = tabC t /\ t.name.size <= 140737488355328 /\ (∀ c ∈ t.cols,c.s.size <= 140737488355328) /\ (t.a = none -> t.c = 0) /\ Rw.SlG colC 4 w t.a t.cols := by
 obtain ⟨zs,n2, -, hzs,hzl,hzlen,hzf⟩ := DataW.trod_struct Tryz.underlying96 h
 match zs,hzlen with
 | [v0,v1],_ =>
  have e0 := hzf 0 _ rfl
  have e1 := hzf 1 _ rfl
  simp only [List.getElem?_cons_zero,List.getElem?_cons_succ] at e0 e1
  obtain ⟨s0,j0,hj0, -⟩ := DataW.trod_string Tryz.underlying9 e0
  have hw: s0.size <= 140737488355328 /\ ReachN 37 v1.1 := by
   have hv0: v0.1 = .lit (.string s0.data.toList) := by rw [hj0]
   have hy1: x.1 = .agg [v0.1,v1.1] := congrArg Prod.fst hzs
   have h1 := hW
   unfold ReachN at h1 ⊢
   rw [hy1,DataW.weights,Tryz.underlying96] at h1
   simp only [DataW.weightsEach,List.map_cons,List.map_nil,List.all_append,Bool.and_eq_true] at h1
   have h2 := h1.1
   rw [hv0] at h2
   exact ⟨str_reach (H := H) h2,h1.2.1⟩
  have hinh: Inhabited Col := ⟨⟨⟨#[]⟩,0,false,false⟩⟩
  obtain ⟨a,c,l,hcs,_,hn,hok,hS⟩ := read_rowC (enc := enc) (w := w) Tryz.underlying37 colCells (by decide) colC (fun c => c.s.size <= 140737488355328) (fun fuel cs x h hW hl => read_colW h hW hl) e1 hw.2
  refine ⟨⟨s0,a,c,l⟩, ?_,hw.1,hok,hn,hS⟩
  have i0 := one_takeW j0
  have i1 := one_takeW hcs
  match cs,hl with
  | [a0,a1],_ =>
   simp at i0 i1
   subst i0 i1
   rfl
end
theorem open_tab {H: Type} {enc: TypeId × Value -> H} {w: World} {base: Nat} {v: Value} {d: DataW H} {p: List MemPlace} (hv: Value.okWide Tryz.prog w .any base 96 v) (h: DataW.Trod enc Tryz.prog w 0 (fun _ => true) true 96 v d p) (hW: ReachN 96 d): ∃ t: TabL,v = .agg #[.string t.name, .slice t.a t.cols.length t.c] /\ t.name.size <= 140737488355328 /\ (∀ c ∈ t.cols,c.s.size <= 140737488355328) /\ (t.a = none -> t.c = 0) /\ Rw.SlG colC 4 w t.a t.cols := by
 obtain ⟨cs,rfl,hsz⟩ := Go.WideShapes.okWide_struct Tryz.underlying96 hv
 obtain ⟨fuel,hf⟩ := h
 obtain ⟨t,hc,h1⟩ := read_tabW hf hW (by simpa [Value.cells,tabCells] using hsz)
 refine ⟨t, ?_,h1⟩
 have e: cs = #[.string t.name, .slice t.a t.cols.length t.c] := by
  have := congrArg List.toArray hc
  simpa [Value.cells,tabC] using this
 rw [e]
theorem open_xs {H: Type} {enc: TypeId × Value -> H} {w: World} {base: Nat} {v: Value} {d: DataW H} {p: List MemPlace} (hv: Value.okWide Tryz.prog w .any base 28 v) (h: DataW.Trod enc Tryz.prog w 0 (fun _ => true) true 28 v d p) (hW: Reach 28 d): ∃ a c,∃ l: List XL,v = .slice a l.length c /\ Rw.SlG xC 7 w a l /\ ∀ k ∈ l,∀ n,In n w k := by
 obtain ⟨a0,n0,cap0,rfl⟩ := Go.WideShapes.okWide_slice Tryz.underlying28 hv
 obtain ⟨fuel,hf⟩ := h
 obtain ⟨a,c,l,hcs,_,h2,h3⟩ := read_xs (Rows.uptoBulk d) d (Nat.le_refl _) fuel _ _ hf hW
 simp [Value.cells] at hcs
 obtain ⟨rfl,rfl,rfl⟩ := hcs
 exact ⟨a0,cap0,l,rfl,h2,h3⟩
end Go.Proofs.YteibhbnlcpejpaaGreat
