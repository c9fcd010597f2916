import Derived.Laws.IdiomRangeMap
import Derived.Test.YteibhbnlcpejpaaGreatMBS
import Derived.Test.YteibhbnlcpejpaaGreatMBO
import Derived.Test.YteibhbnlcpejpaaGreatMBT
set_option maxRecDepth 100000
set_option maxHeartbeats 4000000
namespace Go.Proofs.YteibhbnlcpejpaaGreat
open Go.RowKit
open Go.ChangeMaps (setBlock)
theorem pmatchN_walk (r: RowL) {w: World} {bx: Nat} (hx: w.heap[bx]? = some (.cells #[.map none] 170 (0,0))) :
 Calls Tryz.prog 29 #[.pointer (some ⟨bx,0,none⟩), .slice r.a r.l.length r.c] w fun e w' => e = .returned (.slice none 0 0) /\ Below w.heap.size w w' := by
 have c0: w.cell? ⟨bx,0,none⟩ = some (.map none) := by rw [cell_of_row _ _ _ _ _ _ hx]; rfl
 have hl := (Array.getElem?_eq_some_iff.1 hx).1
 have hrg := run_range_nilMap (P := Tryz.prog) w 168 3 78 Tryz.underlying168
 have hnx: ∀ ty,(Instr.next (.pointer (some ⟨w.heap.size,0,none⟩)) false ty).run Tryz.prog (w.alloc (.mapIter none 0 #[] 0)) = _ := fun ty => run_next_nilMap w ty 0 0 #[]
 clear hx
 go_enter Tryz.func29,Tryz.ntmps29
 go_wp2
 refine wp_loop_rounds 1 ?_
 rw [rounds_succ]
 go_wp2_with fail
 refine (sortNil_walk _).mono ?_
 rintro e w' ⟨rfl,rfl⟩
 go_wp2
 go_ret
 exact ⟨rfl,Rw.below_alloc _ _⟩
structure IxS (B bx: Nat) (L: List EntL) (W: World): Prop where
 lo: B <= bx
 ix: (L = [] /\ W.heap[bx]? = some (.cells #[.map none] 170 (0,0))) \/ ∃ m clock,B <= m /\ W.heap[bx]? = some (.cells #[.map (some m)] 170 (0,0)) /\ MapAt Tryz.prog 3 W m (L.map entM) clock
 ids: (L.map fun x => x.1).Nodup
 few: ∀ x ∈ L,CdIn W x.2.1 /\ Few x.2.1
theorem IxS.lt {B bx: Nat} {L: List EntL} {W: World} (h: IxS B bx L W): bx < W.heap.size := by
 rcases h.ix with ⟨_,h⟩ | ⟨m,c,_,h,_⟩ <;> exact (Array.getElem?_eq_some_iff.1 h).1
theorem IxS.on {B bx: Nat} {L: List EntL} {W W': World} (h: IxS B bx L W) (hb: Below W.heap.size W W'): IxS B bx L W' := by
 refine ⟨h.lo, ?_,h.ids,fun x hx => ⟨(h.few x hx).1.on hb,(h.few x hx).2⟩⟩
 rcases h.ix with ⟨h1,h2⟩ | ⟨m,c,h1,h2,h3⟩
 · exact Or.inl ⟨h1,(hb.block _ (Array.getElem?_eq_some_iff.1 h2).1).trans h2⟩
 · exact Or.inr ⟨m,c,h1,(hb.block _ (Array.getElem?_eq_some_iff.1 h2).1).trans h2,h3.turn (hb.block _ h3.lt)⟩
theorem IxS.new (w: World): IxS w.heap.size w.heap.size [] (w.alloc (.cells #[.map none] 170)) :=
 ⟨Nat.le_refl _,Or.inl ⟨rfl,Rw.heap_new _ _⟩, .nil,fun x hx => by cases hx⟩
theorem IxS.down {B C bx: Nat} {L: List EntL} {W: World} (h: IxS B bx L W) (hc: C <= B): IxS C bx L W := by
 refine ⟨Nat.le_trans hc h.lo, ?_,h.ids,h.few⟩
 rcases h.ix with h1 | ⟨m,c,h1,h2⟩
 · exact Or.inl h1
 · exact Or.inr ⟨m,c,Nat.le_trans hc h1,h2⟩
def MapCells (S: Nat -> Prop) (W: World): Prop := ∀ b,S b -> ∀ o u,W.cell? ⟨b,o,none⟩ = some u -> ∃ z,u = .map z
theorem slg_mc {α: Type} {f: α -> List Value} {k: Nat} {S: Nat -> Prop} {W W': World} {a: Option Addr} {l: List α} (hf: ∀ x,∃ u,(f x)[0]? = some u /\ ∀ z,u ≠ .map z) (h: Rw.SlG f k W a l) (hS: MapCells S W) (ho: Only S W W'): Rw.SlG f k W' a l := by
 cases l with
 | nil => exact Or.inl rfl
 | cons x l =>
  refine h.turn ho.size fun b o e hlt => ho.block b hlt fun hb => ?_
  rcases h with h | ⟨b',o',e',hlt',hc⟩
  · cases h
  · have e2 := e.symm.trans e'
    cases e2
    obtain ⟨u,hu,hz⟩ := hf x
    have := hc 0 x rfl 0 u hu
    obtain ⟨z,hz'⟩ := hS b hb _ _ this
    exact hz z hz'
theorem inN_mc {S: Nat -> Prop} {W W': World} (hS: MapCells S W) (ho: Only S W W'): ∀ {n: Nat} {x: NL},InN n W x -> InN n W' x
 | 0,_,_ => trivial
 | _ + 1,_,h => ⟨h.1,slg_mc (fun x => ⟨_,rfl,fun z => by simp⟩) h.2.1 hS ho,fun k hk => inN_mc hS ho (h.2.2 k hk)⟩
theorem cdIn_mc {S: Nat -> Prop} {W W': World} {k: CondL} (h: CdIn W k) (hS: MapCells S W) (ho: Only S W W'): CdIn W' k :=
 ⟨slg_mc (fun x => ⟨_,rfl,fun z => by simp⟩) h.ts hS ho,h.ok,slg_mc (fun x => ⟨_,rfl,fun z => by simp⟩) h.ns hS ho,h.len,fun x hx m => inN_mc hS ho (h.ins x hx m)⟩
structure Ixt (B: Nat) (S: Nat -> Prop) (w W: World): Prop where
 far: ∀ b,S b -> B <= b
 mc: MapCells S w
 ty: ∀ b,S b -> b < w.heap.size -> (∃ es c,w.heap[b]? = some (.map es c)) \/ ∃ z,w.heap[b]? = some (.cells #[.map z] 170 (0,0))
 only: Only S w W
theorem mc_map {S: Nat -> Prop} {w: World} (h: ∀ b,S b -> (∃ es c,w.heap[b]? = some (.map es c)) \/ ∃ z,w.heap[b]? = some (.cells #[.map z] 170 (0,0))): MapCells S w := by
 intro b hb o u hu
 rcases h b hb with ⟨es,c,h1⟩ | ⟨z,h1⟩
 · rw [no_cell h1] at hu; cases hu
 · rw [cell_of_row _ _ _ _ _ _ h1] at hu
   cases o with
   | zero => exact ⟨z,by simpa using hu.symm⟩
   | succ o => simp at hu
theorem Ixt.mk' {B: Nat} {S: Nat -> Prop} {w W: World} (far: ∀ b,S b -> B <= b) (ty: ∀ b,S b -> (∃ es c,w.heap[b]? = some (.map es c)) \/ ∃ z,w.heap[b]? = some (.cells #[.map z] 170 (0,0))) (only: Only S w W): Ixt B S w W := ⟨far,mc_map ty,fun b hb _ => ty b hb,only⟩
theorem Ixt.below {B: Nat} {S: Nat -> Prop} {w W: World} (h: Ixt B S w W) (hB: B <= w.heap.size): Below B w W := h.only.below hB fun k hk hs => by have := h.far k hs; omega
theorem Ixt.cd {B: Nat} {S: Nat -> Prop} {w W: World} {k: CondL} (h: Ixt B S w W) (hk: CdIn w k): CdIn W k := cdIn_mc hk h.mc h.only
theorem Ixt.keep {B: Nat} {S: Nat -> Prop} {w W: World} (h: Ixt B S w W) {b: Nat} {cs: Array Value} {t: TypeId} {z: Nat × Nat} (hb: w.heap[b]? = some (.cells cs t z)) (ht: t ≠ 170): W.heap[b]? = some (.cells cs t z) := by
 refine (h.only.block b (Array.getElem?_eq_some_iff.1 hb).1 fun hs => ?_).trans hb
 rcases h.ty b hs (Array.getElem?_eq_some_iff.1 hb).1 with ⟨es,c,h1⟩ | ⟨y,h1⟩
 · rw [hb] at h1; cases h1
 · rw [hb] at h1
   simp only [Option.some.injEq,Obj.cells.injEq] at h1
   exact ht h1.2.1
theorem off_new {B: Nat} {k: CondL} (h: (∀ q,k.a = some q -> B <= q.block) /\ (∀ q,k.b = some q -> B <= q.block) /\ ∀ x ∈ k.l,∀ m,OffN (fun b => B <= b) m x): OffC (fun b => B <= b) k := ⟨Or.inr fun _ _ e => h.1 _ e,Or.inr fun _ _ e => h.2.1 _ e,h.2.2⟩
theorem cdIn_old {W: World} {k: CondL} (h: CdIn W k): OffC (fun b => b < W.heap.size) k := by
 refine ⟨?_, ?_,fun x hx m => (h.ins x hx m).old⟩
 · rcases h.ts with e | ⟨b,o,e,hlt,_⟩
   · exact Or.inl e
   · exact Or.inr fun b' o' e' => by rw [e] at e'; cases e'; exact hlt
 · rcases h.ns with e | ⟨b,o,e,hlt,_⟩
   · exact Or.inl e
   · exact Or.inr fun b' o' e' => by rw [e] at e'; cases e'; exact hlt
theorem cdIn_turn {p: Nat -> Prop} {w W: World} {k: CondL} (h: CdIn w k) (ho: OffC p k) (hs: w.heap.size <= W.heap.size) (hb: ∀ b,b < w.heap.size -> p b -> W.heap[b]? = w.heap[b]?): CdIn W k := by
 refine ⟨?_,h.ok, ?_,h.len,fun x hx m => (h.ins x hx m).turn (ho.2.2 x hx m) hs hb⟩
 · rcases ho.1 with e | e
   · exact Or.inl e
   · exact h.ts.turn hs fun b o ea hlt => hb b hlt (e b o ea)
 · rcases ho.2.1 with e | e
   · exact Or.inl e
   · exact h.ns.turn hs fun b o ea hlt => hb b hlt (e b o ea)
def AddA (B bx: Nat) (L: List EntL) (k: CondL) (id: Int) (w: World) (e: Ending) (W: World): Prop := e = .returned (.int .i64 0) /\ ∃ (k': CondL) (born: Nat) (S: Nat -> Prop),IxS B bx (L ++ [(id,k',born)]) W /\ (∀ r,meetsC 30 r k'.ts k'.l = meetsC 30 r k.ts k.l) /\ OffC (fun b => w.heap.size <= b) k' /\ Ixt B S w W
theorem padd_any {B bx: Nat} {L: List EntL} {w: World} (h: IxS B bx L w) (hB: B <= w.heap.size) (k: CondL) (id: Int) (hid: (Lit.int .i64 id).wf = true) (hin: hasL L id = false) (hI: CdIn w k) (hf: Few k) :
 Calls Tryz.prog 26 #[.pointer (some ⟨bx,0,none⟩), .int .i64 id,cdV k] w (AddA B bx L k id w) := by
 have hop: ∀ x ∈ k.l,OpN 30 x := fun x hx => (hI.ins x hx 30).opN
 rcases h.ix with ⟨rfl,hx⟩ | ⟨m,clock,hm,hx,hM⟩
 · have hS: MapCells (· = bx) w := mc_map fun b hb => Or.inr ⟨none,by rw [hb]; exact hx⟩
   refine (paddM_walk 30 (by decide) k bx hx id hid (fun W ho => cdIn_mc hI hS ho) (by have := hf.t; omega) hf.d hop).mono ?_
   rintro e W ⟨rfl,k',m,hx',hM',hm',hts,hle,hlk,hci,hoff,hon⟩
   refine ⟨rfl,k',0,_,⟨h.lo,Or.inr ⟨m,1,by omega,hx',hM'⟩,by simp,fun x hx => ?_⟩,fun r => met_like r hts hle hlk,off_new hoff,Ixt.mk' (fun b hb => by rw [hb]; exact h.lo) (fun b hb => Or.inr ⟨none,by rw [hb]; exact hx⟩) hon⟩
   simp only [List.nil_append,List.mem_cons,List.not_mem_nil,or_false] at hx
   subst hx
   exact ⟨hci,hf.like hts hle hlk⟩
 · refine (padd_walk 30 (by decide) k hx hM id hid hin hI (by have := hf.t; omega) hf.d hop).mono ?_
   rintro e W ⟨rfl,k',hx',hM',hts,hle,hlk,hci,hoff,hon⟩
   have ht: Ixt B (· = m) w W := Ixt.mk' (fun b hb => by rw [hb]; exact hm) (fun b hb => Or.inl ⟨(L.map entM).toArray,clock,by rw [hb]; exact hM.heap⟩) hon
   refine ⟨rfl,k',clock,_,⟨h.lo,Or.inr ⟨m,clock + 1,hm,hx',hM'⟩,ids_push h.ids hin _ _,fun x hx => ?_⟩,fun r => met_like r hts hle hlk,off_new hoff,ht⟩
   rcases List.mem_append.1 hx with hx | hx
   · exact ⟨ht.cd (h.few x hx).1,(h.few x hx).2⟩
   · simp only [List.mem_cons,List.not_mem_nil,or_false] at hx
     subst hx
     exact ⟨hci,hf.like hts hle hlk⟩
theorem paddT_any {B bx: Nat} {L: List EntL} {w: World} (h: IxS B bx L w) (k: CondL) (id: Int) (hid: (Lit.int .i64 id).wf = true) (hin: hasL L id = true) :
 Calls Tryz.prog 26 #[.pointer (some ⟨bx,0,none⟩), .int .i64 id,cdV k] w fun e w' => e = .returned thereV /\ Below w.heap.size w w' := by
 rcases h.ix with ⟨rfl,hx⟩ | ⟨m,clock,hm,hx,hM⟩
 · simp [hasL] at hin
 · exact paddT_walk hx hM id hid k hin
theorem pcutF_any {B bx: Nat} {L: List EntL} {w: World} (h: IxS B bx L w) (id: Int) (hid: (Lit.int .i64 id).wf = true) (hin: hasL L id = false) :
 Calls Tryz.prog 28 #[.pointer (some ⟨bx,0,none⟩), .int .i64 id] w fun e w' => e = .returned nameV /\ Below w.heap.size w w' := by
 rcases h.ix with ⟨rfl,hx⟩ | ⟨m,clock,hm,hx,hM⟩
 · exact pcutN_walk w bx hx id hid
 · exact pcutF_walk hx hM id hid hin
def CutA (B bx: Nat) (L: List EntL) (j: Nat) (w: World) (e: Ending) (W: World): Prop := e = .returned (.int .i64 0) /\ ∃ S: Nat -> Prop,IxS B bx (L.eraseIdx j) W /\ Ixt B S w W
theorem pcut_any {B bx: Nat} {L: List EntL} {w: World} (h: IxS B bx L w) (id: Int) (hid: (Lit.int .i64 id).wf = true) {j: Nat} {x: EntL} (hj: L[j]? = some x) (hx: x.1 = id) :
 Calls Tryz.prog 28 #[.pointer (some ⟨bx,0,none⟩), .int .i64 id] w (CutA B bx L j w) := by
 rcases h.ix with ⟨rfl,hb⟩ | ⟨m,clock,hm,hb,hM⟩
 · simp at hj
 · refine (pcut_walk hb hM id hid h.ids hj hx).mono ?_
   rintro e W ⟨rfl,hM',hon⟩
   have ht: Ixt B (· = m) w W := Ixt.mk' (fun b hb => by rw [hb]; exact hm) (fun b hb => Or.inl ⟨(L.map entM).toArray,clock,by rw [hb]; exact hM.heap⟩) hon
   have hne: bx ≠ m := fun e => by rw [e,hM.heap] at hb; cases hb
   exact ⟨rfl,_,⟨h.lo,Or.inr ⟨m,clock,hm,(hon.block bx h.lt hne).trans hb,hM'⟩,ids_cut h.ids j,fun y hy => ⟨ht.cd (h.few y ((List.eraseIdx_sublist _ _).subset hy)).1,(h.few y ((List.eraseIdx_sublist _ _).subset hy)).2⟩⟩,ht⟩
theorem pmatch_any {B bx: Nat} {L: List EntL} {w: World} (h: IxS B bx L w) (r: RowL) (hL: L.length <= 1000) (hR: Rw.SlG vvC 3 w r.a r.l) (hF: r.l.length <= maxLen /\ ∀ v ∈ r.l,VFit v) :
 Calls Tryz.prog 29 #[.pointer (some ⟨bx,0,none⟩), .slice r.a r.l.length r.c] w (MatchP r L w) := by
 rcases h.ix with ⟨rfl,hx⟩ | ⟨m,clock,hm,hx,hM⟩
 · refine (pmatchN_walk r hx).mono ?_
   rintro e W ⟨rfl,hb⟩
   exact ⟨none,0,rfl,Or.inl (by simp [metL]),fun q hq => (by cases hq),hb⟩
 · exact pmatch_walk r hx hM (fun x hx => ⟨(h.few x hx).1,by have := (h.few x hx).2.t; omega,by have := (h.few x hx).2.l; omega,(h.few x hx).2.d⟩) hL hR hF
theorem plen_any {B bx: Nat} {L: List EntL} {w: World} (h: IxS B bx L w) :
 Calls Tryz.prog 31 #[.pointer (some ⟨bx,0,none⟩)] w fun e w' => e = .returned (.int .i64 L.length) /\ Below w.heap.size w w' := by
 rcases h.ix with ⟨rfl,hx⟩ | ⟨m,clock,hm,hx,hM⟩
 · exact plenN_walk hx
 · exact plen_walk hx hM
end Go.Proofs.YteibhbnlcpejpaaGreat
namespace Go.Proofs.YteibhbnlcpejpaaGreat
open Go.RowKit
structure LsS (B: Nat) (E: List EnD) (v: Value) (W: World): Prop where
 own: W.ownsRow B 87 3 v E.length (Rw.flat enC E)
 few: ∀ e ∈ E,CdIn W e.c /\ Few e.c
theorem LsS.on {B: Nat} {E: List EnD} {v: Value} {W W': World} (h: LsS B E v W) (hb: Below W.heap.size W W'): LsS B E v W' :=
 ⟨Rw.owns_on h.own hb,fun e he => ⟨(h.few e he).1.on hb,(h.few e he).2⟩⟩
theorem LsS.ixt {B: Nat} {S: Nat -> Prop} {E: List EnD} {v: Value} {W W': World} (h: LsS B E v W) (ht: Ixt B S W W'): LsS B E v W' :=
 ⟨Rw.owns_below h.own fun q hq => by
  obtain ⟨cur,hc⟩ := Rw.owns_block h.own hq
  exact (ht.keep hc (by decide)).trans hc.symm,fun e he => ⟨ht.cd (h.few e he).1,(h.few e he).2⟩⟩
structure PlI (w: World) (bx: Nat) (L: List EntL) (E: List EnD) (v: Value) (W: World): Prop where
 bel: Below w.heap.size w W
 ix: IxS w.heap.size bx L W
 ls: LsS w.heap.size E v W
 offL: ∀ x ∈ L,OffC (fun b => v.ownBlock ≠ some b) x.2.1
 offE: ∀ e ∈ E,OffC (fun b => v.ownBlock ≠ some b) e.c
theorem PlI.on {w: World} {bx: Nat} {L: List EntL} {E: List EnD} {v: Value} {W W': World} (h: PlI w bx L E v W) (hb: Below W.heap.size W W'): PlI w bx L E v W' :=
 ⟨Rw.below_on h.bel hb h.bel.size,h.ix.on hb,h.ls.on hb,h.offL,h.offE⟩
structure StI (w: World) (bx: Nat) (L: List EntL) (E: List EnD) (v: Value) (ob: Nat) (op: OpL) (W: World): Prop where
 pl: PlI w bx L E v W
 box: W.heap[ob]? = some (.cells (opC op).toArray 81 (0,0))
namespace StI
variable {w W W': World} {bx: Nat} {L L1: List EntL} {E: List EnD} {v: Value} {ob: Nat} {op: OpL}
theorem on (h: StI w bx L E v ob op W) (hb: Below W.heap.size W W'): StI w bx L E v ob op W' := ⟨h.pl.on hb,(hb.block _ (Array.getElem?_eq_some_iff.1 h.box).1).trans h.box⟩
theorem c0 (h: StI w bx L E v ob op W): W.cell? ⟨ob,0,none⟩ = some (.int .i64 op.k) := by rw [cell_of_row _ _ _ _ _ _ h.box]; rfl
theorem c1 (h: StI w bx L E v ob op W): W.cell? ⟨ob,1,none⟩ = some (.int .i64 op.id) := by rw [cell_of_row _ _ _ _ _ _ h.box]; rfl
theorem c2 (h: StI w bx L E v ob op W): W.cell? ⟨ob,2,none⟩ = some (.slice op.c.a op.c.ts.length op.c.c) := by rw [cell_of_row _ _ _ _ _ _ h.box]; rfl
theorem c3 (h: StI w bx L E v ob op W): W.cell? ⟨ob,3,none⟩ = some (.slice op.c.b op.c.l.length op.c.d) := by rw [cell_of_row _ _ _ _ _ _ h.box]; rfl
theorem c4 (h: StI w bx L E v ob op W): W.cell? ⟨ob,4,none⟩ = some (.slice op.r.a op.r.l.length op.r.c) := by rw [cell_of_row _ _ _ _ _ _ h.box]; rfl
theorem turned (h: StI w bx L E v ob op W) {S: Nat -> Prop} (hx: IxS w.heap.size bx L1 W') (ht: Ixt w.heap.size S W W') (ho: ∀ x ∈ L1,OffC (fun b => v.ownBlock ≠ some b) x.2.1): StI w bx L1 E v ob op W' :=
 ⟨⟨h.pl.bel.trans (ht.below h.pl.bel.size),hx,h.pl.ls.ixt ht,ho,h.pl.offE⟩,ht.keep h.box (by decide)⟩
theorem added (h: StI w bx L E v ob op W) {S: Nat -> Prop} {k': CondL} {id: Int} {born: Nat} (hx: IxS w.heap.size bx (L ++ [(id,k',born)]) W') (hk: OffC (fun b => W.heap.size <= b) k') (ht: Ixt w.heap.size S W W'): StI w bx (L ++ [(id,k',born)]) E v ob op W' := by
 refine h.turned hx ht fun x hx => ?_
 rcases List.mem_append.1 hx with hx | hx
 · exact h.pl.offL x hx
 · simp only [List.mem_cons,List.not_mem_nil,or_false] at hx
   subst hx
   exact hk.mono fun b hb e => by have := (h.pl.ls.own.lt b e).2; omega
theorem cut (h: StI w bx L E v ob op W) {S: Nat -> Prop} {j: Nat} (hx: IxS w.heap.size bx (L.eraseIdx j) W') (ht: Ixt w.heap.size S W W'): StI w bx (L.eraseIdx j) E v ob op W' :=
 h.turned hx ht fun x hx => h.pl.offL x ((List.eraseIdx_sublist _ _).subset hx)
theorem push (h: StI w bx L E v ob op W) {e: EnD} (hc: CdIn W e.c) (hf: Few e.c) (ho: OffC (fun b => v.ownBlock ≠ some b) e.c) {v2: Value} {W2: World} (O2: W2.ownsRow w.heap.size 87 3 v2 (E.length + 1) (Rw.flat enC E ++ enC e)) (G2: W.grownBy W2 v.ownBlock) (hv: v2.ownBlock = v.ownBlock \/ v2.ownBlock = some W.heap.size) :
 StI w bx L (E ++ [e]) v2 ob op W2 := by
 have key: ∀ b,b < W.heap.size -> v.ownBlock ≠ some b -> W2.heap[b]? = W.heap[b]? := fun b hb hn => G2.block b hb fun e => hn e.symm
 have far: ∀ (b: Nat) (cs: Array Value) (t: TypeId) (z: Nat × Nat),W.heap[b]? = some (Obj.cells cs t z) -> t ≠ 87 -> W2.heap[b]? = some (Obj.cells cs t z) := fun b cs t z hb ht => by
  refine (key b (Array.getElem?_eq_some_iff.1 hb).1 fun e => ?_).trans hb
  obtain ⟨cur,hcur⟩ := Rw.owns_block h.pl.ls.own e
  rw [hb] at hcur
  simp only [Option.some.injEq,Obj.cells.injEq] at hcur
  exact ht hcur.2.1
 have turn: ∀ k,CdIn W k -> OffC (fun b => v.ownBlock ≠ some b) k -> CdIn W2 k /\ OffC (fun b => v2.ownBlock ≠ some b) k := fun k hk hok => by
  refine ⟨cdIn_turn hk hok G2.size key, ?_⟩
  rcases hv with hv | hv
  · rw [hv]; exact hok
  · exact (cdIn_old hk).mono fun b hb e => by rw [hv] at e; cases e; omega
 refine ⟨⟨h.pl.bel.grown G2 h.pl.bel.size fun q hq => (h.pl.ls.own.lt q hq).1,⟨h.pl.ix.lo, ?_,h.pl.ix.ids,fun x hx => ⟨(turn _ (h.pl.ix.few x hx).1 (h.pl.offL x hx)).1,(h.pl.ix.few x hx).2⟩⟩,⟨by rw [List.length_append,Rw.flat_append]; simpa [Rw.flat] using O2,fun y hy => ?_⟩,fun x hx => (turn _ (h.pl.ix.few x hx).1 (h.pl.offL x hx)).2,fun y hy => ?_⟩,far _ _ _ _ h.box (by decide)⟩
 · rcases h.pl.ix.ix with ⟨h1,h2⟩ | ⟨m,c,h1,h2,h3⟩
   · exact Or.inl ⟨h1,far _ _ _ _ h2 (by decide)⟩
   · refine Or.inr ⟨m,c,h1,far _ _ _ _ h2 (by decide),h3.turn (key m h3.lt fun e => ?_)⟩
     obtain ⟨cur,hcur⟩ := Rw.owns_block h.pl.ls.own e
     rw [h3.heap] at hcur
     cases hcur
 · rcases List.mem_append.1 hy with hy | hy
   · exact ⟨(turn _ (h.pl.ls.few y hy).1 (h.pl.offE y hy)).1,(h.pl.ls.few y hy).2⟩
   · simp only [List.mem_cons,List.not_mem_nil,or_false] at hy
     subst hy
     exact ⟨(turn _ hc ho).1,hf⟩
 · rcases List.mem_append.1 hy with hy | hy
   · exact (turn _ (h.pl.ls.few y hy).1 (h.pl.offE y hy)).2
   · simp only [List.mem_cons,List.not_mem_nil,or_false] at hy
     subst hy
     exact (turn _ hc ho).2
theorem swap (h: StI w bx L E v ob op W) {E2: List EnD} {v2: Value} {W2: World} (hb: Below W.heap.size W W2) (hs: ∀ e ∈ E2,e ∈ E) (O2: W2.ownsRow W.heap.size 87 3 v2 E2.length (Rw.flat enC E2)): StI w bx L E2 v2 ob op W2 := by
 have old: ∀ k,CdIn W k -> OffC (fun b => v2.ownBlock ≠ some b) k := fun k hk => (cdIn_old hk).mono fun b hb e => by have := (O2.lt b e).1; omega
 exact ⟨⟨Rw.below_on h.pl.bel hb h.pl.bel.size,h.pl.ix.on hb,⟨Rw.owns_mono O2 fun q hq => Nat.le_trans h.pl.bel.size (O2.lt q hq).1,fun e he => ⟨(h.pl.ls.few e (hs e he)).1.on hb,(h.pl.ls.few e (hs e he)).2⟩⟩,fun x hx => old _ (h.pl.ix.few x hx).1,fun e he => old _ (h.pl.ls.few e (hs e he)).1⟩,(hb.block _ (Array.getElem?_eq_some_iff.1 h.box).1).trans h.box⟩
end StI
theorem infoEn: (Tryz.prog.info? 87).map (fun i => (i.zero,i.size,i.bytes)) = some (some (.agg #[.int .i64 0, .slice none 0 0, .slice none 0 0]),3,56) := by kernel_rfl
theorem step_appV {ops: Array Oper} {o: Oper} {a: Act} {K: Act -> World -> Prop} {Q: Exit -> Act -> World -> Prop} {E: Prop} {W1: World} {t e: TypeId} {z: Value} {size bytes: Nat} (ht: Tryz.prog.underlying t = some (.slice e)) (hinfo: (Tryz.prog.info? e).map (fun i => (i.zero,i.size,i.bytes)) = some (some z,size,bytes)) (hzs: z.cells.size = size) (hsz: 0 < size) (hby: bytes <= 1000)
 (hgd: o.guard = none) (s x: Operand) (ho: o.op = .call { callee := .builtin .append,args := #[s,x],argTypes := #[t,t] })
 (base: Nat) (hbase: base <= W1.heap.size) (v: Value) (n: Nat) (xs: List Value) (hs: a.eval s = v) (h: W1.ownsRow base e size v n xs) (b: Option Addr) (m cap: Nat) (news: List Value) (hx: a.eval x = .slice b m cap) (hm: Rw.Src W1 b m cap news)
 (hl: news.length = m * size) (h1: ∀ u ∈ news,u.oneCell' = true) (hn: n + m <= 1000000)
 (hK: ∀ v' W',W'.ownsRow base e size v' (n + m) (xs ++ news) -> W1.grownBy W' v.ownBlock -> (v'.ownBlock = v.ownBlock \/ v'.ownBlock = some W1.heap.size) -> K (a.put o.dst v') W') :
 if Region.wanted o (yielded ops a.tmps) = true then Oper.wp Tryz.prog o a W1 K Q else E := by
 have hw: Region.wanted o (yielded ops a.tmps) = true := by simp [Region.wanted,hgd]
 rw [if_pos hw]
 obtain ⟨i,hi,hz⟩ := Option.map_eq_some_iff.1 hinfo
 simp only [Prod.mk.injEq] at hz
 obtain ⟨h3,h4,h5⟩ := hz
 rcases hm with ⟨rfl,rfl,rfl,rfl⟩ | ⟨ad,rfl,hc⟩
 · have hrun := run_append_owned_none (P := Tryz.prog) (w := W1) base t o.type e i size ht hi v n xs h
   unfold Oper.wp
   simp [execOp,ho,resolve,invoke,builtin,hs,hx,hrun,Result.andThen]
   exact hK v W1 (by simpa using h) ⟨rfl,rfl,rfl,Nat.le_refl _,fun _ _ _ => rfl⟩ (Or.inl rfl)
 · obtain ⟨v',w',hr,g2,g3,g4,g5⟩ := run_append_own_at (P := Tryz.prog) W1 base t o.type e i z size bytes ht hi h3 h4 h5 hzs hsz v n xs h ad m cap news hl hc h1 (by unfold maxLen; omega) (Nat.le_trans (Nat.mul_le_mul hn hby) (by omega)) hbase
   unfold Oper.wp execOp
   simp only [ho,resolve,invoke,builtin,Sem.run_bind,Sem.run_pure,Result.andThen_ok,List.map_toArray,List.map_cons,List.map_nil,hs,hx,hr]
   exact hK v' w' g2 g3 g5
end Go.Proofs.YteibhbnlcpejpaaGreat
