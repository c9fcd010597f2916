import Derived.Test.YteibhbnlcpejpaaGreatMAI
import Derived.ShutString
import Derived.ChangeOld
import Derived.Test.YteibhbnlcpejpaaGreatMBO
set_option maxRecDepth 100000
set_option maxHeartbeats 4000000
namespace Go.Proofs.YteibhbnlcpejpaaGreat
open Go.RowKit Go.ChangeShapes Go.WideShapes Go.ChangeAt
theorem returns_sized {H: Type} {enc: TypeId × Value -> H} {a: Assume} {C: Checked} {os: Os} {f: FuncId} {fn: Func} {s: ChangeSpec} {conds: List PathCond} {apart fresh handsOn again: Bool}
 (own: ownKnob C.prog.godebug = none) (started: os.Started) (noInit: C.prog.inits.idxOf? f = none) (hfn: C.prog.funcs[f]? = some fn)
 (witness: ∃ (w: World) (tape: Tape) (i: Input),w.os = os /\ (w.forCall tape i).Shaped C.prog /\ i.vars = [] /\ Input.okWide C.prog (w.forCall tape i) .any w.heap.size f i /\
   s.pre6 enc C.prog fn conds apart (w.forCall tape i).memory i.args /\ a.holds C.prog (lone (Frame.enter C.prog f i.args .normal) [] (w.forCall tape i)))
 (contract: ∀ (W: World) (base: Nat) (args: Array Value) (ds gs: List (DataW H)) (before: List MemPlace),
   (∀ (j: Nat) t v,fn.params[j]? = some t -> args[j]? = some v -> Value.okWide C.prog W .any base t v) ->
   DataW.Whole enc C.prog fn.params.toList s.vars apart W args.toList ds gs before ->
   (DataW.weightsEach C.prog (fn.params.toList ++ s.plain.varTypes C.prog) (ds ++ gs)).all (· <= reachBytes) = true ->
   Calls C.prog f args W fun e W' => ∃ v,e = .returned v /\ s.post enc C.prog fn apart fresh handsOn again W args v W') :
 ReturnsInHanded a C os f .any (s.pre6 enc C.prog fn conds apart) (s.post enc C.prog fn apart fresh handsOn again) := by
 refine returnsInHanded_of_calls own started noInit witness ?_
 intro w tape i _ _ _ hok hpre _
 obtain ⟨_,_,_,fn',hfn',_,_,_,_,hval⟩ := hok
 obtain rfl: fn' = fn := Option.some.inj (hfn'.symm.trans hfn)
 obtain ⟨_,⟨_,ds,gs,before,hw,hwt⟩⟩ := hpre
 refine (contract (w.forCall tape i) w.heap.size i.args ds gs before hval (DataW.Whole.of_heap (w' := w.forCall tape i) (by rfl) hw) hwt).mono fun e W' ⟨v,he,hp⟩ => ?_
 subst he
 exact ChangeSpec.post_blind hp
theorem nweights_at {H: Type} {P: Program}: ∀ {ts us: List TypeId} {ds: List (DataW H)},(DataW.weightsEach P (ts ++ us) ds).all (· <= reachBytes) = true -> ∀ (j: Nat) t d,ts[j]? = some t -> ds[j]? = some d -> (DataW.weights P t d).all (fun x => decide (x <= reachBytes)) = true
 | [],_,_,_,j,t,d,h1,_ => by simp at h1
 | t0 :: ts,us,[],_,j,t,d,_,h2 => by simp at h2
 | t0 :: ts,us,d0 :: ds,h,j,t,d,h1,h2 => by
  rw [List.cons_append,DataW.weightsEach,List.all_append,Bool.and_eq_true] at h
  cases j with
  | zero =>
   simp at h1 h2
   subst h1 h2
   exact h.1
  | succ j => exact nweights_at h.2 j t d (by simpa using h1) (by simpa using h2)
end Go.Proofs.YteibhbnlcpejpaaGreat
namespace Go.Proofs.YteibhbnlcpejpaaGreat
open Go.RowKit Go.Deep
section
variable {H: Type} {enc: TypeId × Value -> H} {w: World}
theorem bdcells: Tryz.prog.cellsOf 173 = 5 := by kernel_rfl
theorem tlcells: Tryz.prog.cellsOf 175 = 11 := by kernel_rfl
theorem cdcells: Tryz.prog.cellsOf 78 = 2 := by kernel_rfl
def bdC (b: Bd): List Value := [.bool b.has, .bool b.incl, .int .i64 b.v.k, .int .i64 b.v.n, .string b.v.s]
theorem read_bd {fuel: Nat} {cs: List Value} {x: DataW H × List MemPlace} (h: DataW.trod enc Tryz.prog w 0 (fun _ => true) true fuel 173 cs = some x) (hW: ReachN 173 x.1): ∃ b: Bd,cs = bdC b /\ VFit b.v := by
 obtain ⟨zs,n2, -, hzs,hzl,hzlen,hzf⟩ := DataW.trod_struct Tryz.underlying173 h
 match zs,hzlen with
 | [v0,v1,v2],_ =>
  have e0 := hzf 0 _ rfl
  have e1 := hzf 1 _ rfl
  have e2 := hzf 2 _ rfl
  simp only [List.getElem?_cons_zero,List.getElem?_cons_succ] at e0 e1 e2
  obtain ⟨b0,j0, -⟩ := DataW.trod_bool Tryz.underlying4 e0
  obtain ⟨b1,j1, -⟩ := DataW.trod_bool Tryz.underlying4 e1
  have hW2: ReachN 27 v2.1 := by
   have hy1: x.1 = .agg [v0.1,v1.1,v2.1] := congrArg Prod.fst hzs
   have h1 := hW
   unfold ReachN at h1 ⊢
   rw [hy1,DataW.weights,Tryz.underlying173] at h1
   simp only [DataW.weightsEach,List.map_cons,List.map_nil,List.all_append,Bool.and_eq_true] at h1
   exact h1.2.2.1
  obtain ⟨v,hv,hf⟩ := read_vv e2 hW2
  refine ⟨⟨b0,b1,v⟩, ?_,hf⟩
  have hl: cs.length = 5 := hzl.trans bdcells
  have hv': (cs.drop 2).take 3 = vvC v := hv
  have j0': (cs.drop 0).take 1 = [.bool b0] := j0
  have j1': (cs.drop 1).take 1 = [.bool b1] := j1
  clear j0 j1 hv e0 e1 e2
  match cs,hl with
  | [c0,c1,c2,c3,c4],_ =>
   simp [vvC] at j0' j1' hv'
   obtain ⟨h2,h3,h4⟩ := hv'
   rw [j0',j1',h2,h3,h4]
   rfl
theorem read_tl {fuel: Nat} {cs: List Value} {x: DataW H × List MemPlace} (h: DataW.trod enc Tryz.prog w 0 (fun _ => true) true fuel 175 cs = some x) (hW: ReachN 175 x.1): ∃ t: Tl,cs = tlC t /\ TOk t := by
 obtain ⟨zs,n2, -, hzs,hzl,hzlen,hzf⟩ := DataW.trod_struct Tryz.underlying175 h
 match zs,hzlen with
 | [v0,v1,v2],_ =>
  have e0 := hzf 0 _ rfl
  have e1 := hzf 1 _ rfl
  have e2 := hzf 2 _ rfl
  simp only [List.getElem?_cons_zero,List.getElem?_cons_succ] at e0 e1 e2
  obtain ⟨k0,j0, -, hk0⟩ := DataW.trod_int Tryz.underlying3 e0
  have hW12: ReachN 173 v1.1 /\ ReachN 173 v2.1 := by
   have hy1: x.1 = .agg [v0.1,v1.1,v2.1] := congrArg Prod.fst hzs
   have h1 := hW
   unfold ReachN at h1 ⊢
   rw [hy1,DataW.weights,Tryz.underlying175] at h1
   simp only [DataW.weightsEach,List.map_cons,List.map_nil,List.all_append,Bool.and_eq_true] at h1
   exact ⟨h1.2.1,h1.2.2.1⟩
  obtain ⟨b1,hb1,hf1⟩ := read_bd e1 hW12.1
  obtain ⟨b2,hb2,hf2⟩ := read_bd e2 hW12.2
  refine ⟨⟨k0,b1,b2⟩, ?_,nfits hk0,hf1,hf2⟩
  have hl: cs.length = 11 := hzl.trans tlcells
  have hb1': (cs.drop 1).take 5 = bdC b1 := hb1
  have hb2': (cs.drop 6).take 5 = bdC b2 := hb2
  have j0': (cs.drop 0).take 1 = [.int .i64 k0] := j0
  clear j0 hb1 hb2 e0 e1 e2
  match cs,hl with
  | [c0,c1,c2,c3,c4,c5,c6,c7,c8,c9,c10],_ =>
   simp [bdC] at j0' hb1' hb2'
   obtain ⟨h1,h2,h3,h4,h5⟩ := hb1'
   obtain ⟨h6,h7,h8,h9,h10⟩ := hb2'
   rw [j0',h1,h2,h3,h4,h5,h6,h7,h8,h9,h10]
   rfl
theorem read_tls {fuel: Nat} {cs: List Value} {x: DataW H × List MemPlace} (h: DataW.trod enc Tryz.prog w 0 (fun _ => true) true fuel 76 cs = some x) (hW: ReachN 76 x.1): ∃ a c ts,cs = [.slice a (ts: List Tl).length c] /\ TsOk ts /\ Rw.SlG tlC 11 w a ts := by
 have hinh: Inhabited Tl := ⟨tlz⟩
 obtain ⟨a,c,ts,hcs,hl,hok,hS⟩ := read_rowW (enc := enc) (w := w) Tryz.underlying76 tlcells (by decide) tlC TOk (fun fuel cs x h hW _ => read_tl h hW) h hW
 exact ⟨a,c,ts,hcs,⟨hl,hok⟩,hS⟩
theorem read_cd {fuel: Nat} {cs: List Value} {x: DataW H × List MemPlace} (h: DataW.trod enc Tryz.prog w 0 (fun _ => true) true fuel 78 cs = some x) (hW: ReachN 78 x.1): ∃ k: CondL,cs = [.slice k.a k.ts.length k.c, .slice k.b k.l.length k.d] /\ CdIn w k := by
 obtain ⟨zs,n2, -, hzs,hzl,hzlen,hzf⟩ := DataW.trod_struct Tryz.underlying78 h
 match zs,hzlen with
 | [v0,v1],_ =>
  have e0 := hzf 0 _ rfl
  have e1 := hzf 1 _ rfl
  simp only [List.getElem?_cons_zero,List.getElem?_cons_succ] at e0 e1
  have hW12: ReachN 76 v0.1 /\ ReachN 42 v1.1 := by
   have hy1: x.1 = .agg [v0.1,v1.1] := congrArg Prod.fst hzs
   have h1 := hW
   unfold ReachN at h1 ⊢
   rw [hy1,DataW.weights,Tryz.underlying78] at h1
   simp only [DataW.weightsEach,List.map_cons,List.map_nil,List.all_append,Bool.and_eq_true] at h1
   exact ⟨h1.1,h1.2.1⟩
  obtain ⟨a,c,ts,h0,hok,hS⟩ := read_tls e0 hW12.1
  obtain ⟨b,d,l,h1,hl1,hS1,hI1⟩ := read_ns (Rows.uptoBulk v1.1) v1.1 (Nat.le_refl _) _ _ _ e1 hW12.2
  refine ⟨⟨a,c,ts,b,d,l⟩, ?_,hS,hok,hS1,hl1,hI1⟩
  have hl: cs.length = 2 := hzl.trans cdcells
  have h0': (cs.drop 0).take 1 = [.slice a ts.length c] := h0
  have h1': (cs.drop 1).take 1 = [.slice b l.length d] := h1
  match cs,hl with
  | [c0,c1],_ =>
   simp at h0' h1'
   rw [h0',h1']
theorem read_vs {fuel: Nat} {cs: List Value} {x: DataW H × List MemPlace} (h: DataW.trod enc Tryz.prog w 0 (fun _ => true) true fuel 79 cs = some x) (hW: ReachN 79 x.1): ∃ a c l,cs = [.slice a (l: List Vv).length c] /\ (l.length <= maxLen /\ ∀ v ∈ l,VFit v) /\ Rw.SlG vvC 3 w a l := by
 have hinv: Inhabited Vv := ⟨vz⟩
 obtain ⟨a,c,l,hcs,hl,hok,hS⟩ := read_rowW (enc := enc) (w := w) Tryz.underlying79 vcells (by decide) vvC VFit (fun fuel cs x h hW _ => read_vv h hW) h hW
 exact ⟨a,c,l,hcs,⟨hl,hok⟩,hS⟩
end
section
variable {H: Type} {enc: TypeId × Value -> H} {w: World}
theorem opcells: Tryz.prog.cellsOf 81 = 5 := by kernel_rfl
theorem read_op {fuel: Nat} {cs: List Value} {x: DataW H × List MemPlace} (h: DataW.trod enc Tryz.prog w 0 (fun _ => true) true fuel 81 cs = some x) (hW: ReachN 81 x.1): ∃ o: OpL,cs = opC o /\ OpIn w o := by
 obtain ⟨zs,n2, -, hzs,hzl,hzlen,hzf⟩ := DataW.trod_struct Tryz.underlying81 h
 match zs,hzlen with
 | [v0,v1,v2,v3],_ =>
  have e0 := hzf 0 _ rfl
  have e1 := hzf 1 _ rfl
  have e2 := hzf 2 _ rfl
  have e3 := hzf 3 _ rfl
  simp only [List.getElem?_cons_zero,List.getElem?_cons_succ] at e0 e1 e2 e3
  obtain ⟨k0,j0, -, hk0⟩ := DataW.trod_int Tryz.underlying3 e0
  obtain ⟨k1,j1, -, hk1⟩ := DataW.trod_int Tryz.underlying3 e1
  have hW23: ReachN 78 v2.1 /\ ReachN 79 v3.1 := by
   have hy1: x.1 = .agg [v0.1,v1.1,v2.1,v3.1] := congrArg Prod.fst hzs
   have h1 := hW
   unfold ReachN at h1 ⊢
   rw [hy1,DataW.weights,Tryz.underlying81] at h1
   simp only [DataW.weightsEach,List.map_cons,List.map_nil,List.all_append,Bool.and_eq_true] at h1
   exact ⟨h1.2.2.1,h1.2.2.2.1⟩
  obtain ⟨k,h2,hI⟩ := read_cd e2 hW23.1
  obtain ⟨a,c,l,h3,hF,hR⟩ := read_vs e3 hW23.2
  refine ⟨⟨k0,k1,k,⟨a,c,l⟩⟩, ?_,hk0,hk1,hI,hR,hF⟩
  have hl: cs.length = 5 := hzl.trans opcells
  have j0': (cs.drop 0).take 1 = [.int .i64 k0] := j0
  have j1': (cs.drop 1).take 1 = [.int .i64 k1] := j1
  have h2': (cs.drop 2).take 2 = [.slice k.a k.ts.length k.c, .slice k.b k.l.length k.d] := h2
  have h3': (cs.drop 4).take 1 = [.slice a l.length c] := h3
  clear j0 j1 h2 h3 e0 e1 e2 e3
  match cs,hl with
  | [c0,c1,c2,c3,c4],_ =>
   simp at j0' j1' h2' h3'
   rw [j0',j1',h2'.1,h2'.2,h3']
   rfl
end
theorem open_ops {H: Type} {enc: TypeId × Value -> H} {w: World} {base: Nat} {v: Value} {d: DataW H} {p: List MemPlace} (hv: Value.okWide Tryz.prog w .any base 72 v) (h: DataW.Trod enc Tryz.prog w 0 (fun _ => true) true 72 v d p) (hW: ReachN 72 d): ∃ a c l,v = .slice a (l: List OpL).length c /\ l.length <= maxLen /\ (∀ o ∈ l,OpIn w o) /\ Rw.SlG opC 5 w a l := by
 have hinv: Inhabited OpL := ⟨⟨0,0,⟨none,0,[],none,0,[]⟩,⟨none,0,[]⟩⟩⟩
 obtain ⟨a0,n0,cap0,rfl⟩ := Go.WideShapes.okWide_slice Tryz.underlying72 hv
 obtain ⟨fuel,hf⟩ := h
 obtain ⟨a,c,l,hcs,h1,h2,h3⟩ := read_rowW (enc := enc) (w := w) Tryz.underlying72 opcells (by decide) opC (OpIn w) (fun fuel cs x h hW _ => read_op h hW) hf hW
 simp [Value.cells] at hcs
 obtain ⟨rfl,rfl,rfl⟩ := hcs
 exact ⟨a0,cap0,l,rfl,h1,h2,h3⟩
end Go.Proofs.YteibhbnlcpejpaaGreat
