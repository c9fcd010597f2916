import Derived.Test.YtdnkbdjhccckhaaGreatMAN
import Derived.Test.YtdnkbdjhccckhaaGreatMAA
set_option maxRecDepth 100000
set_option maxHeartbeats 4000000
namespace Go.Proofs.YtdnkbdjhccckhaaGreat
open Go.RowKit
open L4 (Ar ArP Abs arV nv)
def zStep: Value := .agg #[.int .i64 0, .bool false, .slice none 0 0, .slice none 0 0, .int .i64 0]
theorem step_step {ops: Array Oper} {o: Oper} {a: Act} {K: Act -> World -> Prop} {Q: Exit -> Act -> World -> Prop} {E: Prop} {W1: World} (base: Nat) (hbase: base <= W1.heap.size) (hgd: o.guard = none) (s x: Operand) (ho: o.op = .call { callee := .builtin .append,args := #[s,x],argTypes := #[64,64] })
 (v: Value) (n: Nat) (ys xs: List Value) (hs: a.eval s = v) (h: W1.ownsRow base 104 5 v n ys) (hn: n <= 10000) (ad: Addr) (cap: Nat) (hx: a.eval x = .slice (some ad) 1 cap) (hl: xs.length = 5) (hc: ∀ j u,xs[j]? = some u -> W1.cell? (ad.add j) = some u) (h1: ∀ u ∈ xs,u.oneCell' = true)
 (hK: ∀ v' W',W'.ownsRow base 104 5 v' (n + 1) (ys ++ xs) -> W1.grownBy W' v.ownBlock -> (∀ k,v'.ownBlock = some k -> v.ownBlock = some k \/ W1.heap.size <= k) -> K (a.put o.dst v') W') :
 if Region.wanted o (yielded ops a.tmps) = true then Oper.wp Tryz.prog o a W1 K Q else E := by
 have hw: Region.wanted o (yielded ops a.tmps) = true := by simp [Region.wanted,hgd]
 rw [if_pos hw]
 have hinfo: (Tryz.prog.info? 104).map (fun i => (i.zero,i.size,i.bytes)) = some (some zStep,5,72) := by kernel_rfl
 obtain ⟨i,hi,hz⟩ := Option.map_eq_some_iff.1 hinfo
 simp only [Prod.mk.injEq] at hz
 obtain ⟨h3,h4,h5⟩ := hz
 obtain ⟨v',w',hr,h2,h6,_,h7⟩ := run_append_own_at (P := Tryz.prog) W1 base 64 o.type 104 i zStep 5 72 Tryz.underlying64 hi h3 h4 h5 rfl (by decide) v n ys h ad 1 cap xs (by omega) hc h1 (by unfold maxLen; omega) (by omega) hbase
 unfold Oper.wp execOp
 simp only [ho,resolve,invoke,builtin,Sem.run_bind,Sem.run_pure,Result.andThen_ok,List.map_toArray,List.map_cons,List.map_nil,hs,hx,hr]
 refine hK v' w' h2 h6 fun k hk => ?_
 rcases h7 with h7 | h7
 · rw [h7] at hk; exact Or.inl hk
 · rw [h7] at hk; cases hk; exact Or.inr (Nat.le_refl _)
theorem own_slice {W: World} {B: Nat} {e: TypeId} {m: Nat} {v: Value} {n: Nat} {xs: List Value} (h: W.ownsRow B e m v n xs): ∃ ad cap,v = .slice ad n cap := by
 rcases h.2 with ⟨rfl,rfl⟩ | ⟨g,cap,cur,rfl,_⟩
 · exact ⟨_,_,rfl⟩
 · exact ⟨_,_,rfl⟩
theorem Es.laid {B: Nat} {s: Ar} {t x r h l xr xh xl: Nat} {tk ld gn: Value} {T: List Nat} {Ld: List Lay} {G: List Nat} {w w1 w2: World} {v': Value} {y0: Lay} {m: Nat} (k: Es B s t x r h l xr xh xl tk ld gn T Ld G w) (hb: Below w.heap.size w w1) (hg: w1.grownBy w2 ld.ownBlock) (hm: m = Ld.length + 1) (ho: w2.ownsRow B 104 5 v' m (Ld.flatMap Lay.cells ++ y0.cells))
 (yr: w.ownsRow B 9 1 y0.vr y0.n.recs.length (L5.svs y0.n.recs)) (yk: w.ownsRow B 3 1 y0.vk y0.n.kids.length (L5.ivs y0.n.kids)) (b1: ∀ q,s.own q -> y0.vk.ownBlock ≠ some q) (b2: ∀ q,tk.ownBlock = some q -> y0.vk.ownBlock ≠ some q) (b3: ∀ q,gn.ownBlock = some q -> y0.vk.ownBlock ≠ some q) :
 Es B s t x r h l xr xh xl tk v' gn T (Ld ++ [y0]) G (w2.setCell ⟨x,5,none⟩ v') /\ Stp B s s t x w (w2.setCell ⟨x,5,none⟩ v') := by
 subst hm
 have hc := core (v' := v') (x := x) (i := 5) hb hg
 have hsz: (w2.setCell ⟨x,5,none⟩ v').heap.size = w2.heap.size := by simp [World.setCell]
 have hle: w.heap.size <= w2.heap.size := Nat.le_trans hb.size hg.size
 have xlt := (Array.getElem?_eq_some_iff.1 k.ed).1
 have hx2: w2.heap[x]? = some (.cells #[.pointer (some ⟨t,0,none⟩), .int .i64 (xr: Int), .int .i64 (xh: Int), .int .i64 (xl: Int),tk,ld,gn] 66 (0,0)) := by
  rw [hg.block x (Nat.lt_of_lt_of_le xlt hb.size) (fun e => row_ne k.ed k.rl (by decide) e.symm),hb.block x xlt]
  exact k.ed
 have row: ∀ {e: TypeId} {m: Nat} {v: Value} {n: Nat} {xs: List Value},w.ownsRow B e m v n xs -> e ≠ 66 -> e ≠ 104 -> (w2.setCell ⟨x,5,none⟩ v').ownsRow B e m v n xs := fun hr he he2 => L5.owns_of_block hr fun q hq => hc q (hr.lt q hq).2 (rows_ne hr k.rl he2 q hq) (fun e => row_ne k.ed hr (fun e => he e.symm) (e ▸ hq))
 have all: ∀ {P: Lay -> Prop},(∀ y ∈ Ld,P y) -> P y0 -> ∀ y ∈ Ld ++ [y0],P y := fun h1 h2 y hy => by
  rcases List.mem_append.1 hy with hy | hy
  · exact h1 y hy
  · simp at hy; subst hy; exact h2
 refine ⟨⟨core_ar k.ar k.rl k.ed hc (fun q hq e => row_not_own k.ar k.rl (by decide) (by decide) (by decide) e hq) (by decide),⟨?_⟩, ?_,by rw [hsz]; exact Nat.le_trans k.bs hle,row k.rt (by decide) (by decide), ?_,row k.rg (by decide) (by decide),all (fun y hy => row (k.rr y hy) (by decide) (by decide)) (row yr (by decide) (by decide)),all (fun y hy => row (k.rk y hy) (by decide) (by decide)) (row yk (by decide) (by decide)),fun q hq => ⟨(k.a1 q hq).1,(k.a1 q hq).2.1,all (k.a1 q hq).2.2 (b1 q hq)⟩,fun q hq => ⟨(k.a2 q hq).1,all (k.a2 q hq).2 (b2 q hq)⟩,fun q hq => all (k.a3 q hq) (b3 q hq)⟩,core_only hb hg (fun q hq => (k.rl.lt q hq).1)⟩
 · exact (hc t (Array.getElem?_eq_some_iff.1 k.tr.blk).1 (row_ne k.tr.blk k.rl (by decide)) (tag_ne k.tr.blk k.ed (by decide))).trans k.tr.blk
 · exact heap_setCell_same w2 x 5 _ _ v' hx2
 · have e1: (Ld ++ [y0]).flatMap Lay.cells = Ld.flatMap Lay.cells ++ y0.cells := by simp
   rw [e1,List.length_append]
   refine L5.owns_of_block ho fun q hq => heap_setCell_other _ _ _ _ fun e => ?_
   have e': q = x := e
   subst e'
   exact row_ne hx2 ho (by decide) hq
theorem put_ok2 {B: Nat} {s: Ar} {t x r h l xr xh xl: Nat} {tk ld gn: Value} {T: List Nat} {Ld: List Lay} {G: List Nat} {w: World} (k: Es B s t x r h l xr xh xl tk ld gn T Ld G w) (hL: Ld.length <= 10000) {n: L5.No} {at_: Nat} {ra ka: Option Addr} {rc kc: Nat}
 (yr: w.ownsRow B 9 1 (.slice ra n.recs.length rc) n.recs.length (L5.svs n.recs)) (yk: w.ownsRow B 3 1 (.slice ka n.kids.length kc) n.kids.length (L5.ivs n.kids)) (b1: ∀ q,s.own q -> (Value.slice ka n.kids.length kc).ownBlock ≠ some q) (b2: ∀ q,tk.ownBlock = some q -> (Value.slice ka n.kids.length kc).ownBlock ≠ some q) (b3: ∀ q,gn.ownBlock = some q -> (Value.slice ka n.kids.length kc).ownBlock ≠ some q) :
 Calls Tryz.prog 23 #[.pointer (some ⟨x,0,none⟩), .int .i64 (at_: Int), .agg #[.bool n.leaf, .slice ra n.recs.length rc, .slice ka n.kids.length kc]] w fun e w' => e = .returned (.tuple #[]) /\ ∃ ld',Es B s t x r h l xr xh xl tk ld' gn T (Ld ++ [⟨at_,n, .slice ra n.recs.length rc, .slice ka n.kids.length kc,0⟩]) G w' /\ Stp B s s t x w w' /\ Only (fun k => k = x \/ ld.ownBlock = some k) w w' /\ (∀ q,ld'.ownBlock = some q -> ld.ownBlock = some q \/ w.heap.size <= q) := by
 have HK := thid k
 have HR := thid yr
 have HKK := thid yk
 obtain ⟨d0,d1,d2,d3,d4,d5,d6,dl,df⟩ := k.ed.cells
 clear k yr yk
 have HB1 := thid (tbelow w (.cells #[.bool n.leaf, .slice ra n.recs.length rc, .slice ka n.kids.length kc] 69))
 have HB2 := thid (HB1.out.trans (((Below.refl _ _).drew.alloc (Nat.le_refl _) (.cells #[.int .i64 (at_: Int), .bool n.leaf, .slice ra n.recs.length rc, .slice ka n.kids.length kc, .int .i64 0] 104): Below _ (w.alloc (.cells #[.bool n.leaf, .slice ra n.recs.length rc, .slice ka n.kids.length kc] 69)) _).mono HB1.out.size))
 have HK2 := thid (HK.out.below HB2.out)
 have HK1 := thid (HK.out.below HB1.out)
 have n0 := (L5.box_cells w (.bool n.leaf) (.slice ra n.recs.length rc) (.slice ka n.kids.length kc) 69).1
 have n1 := (L5.box_cells w (.bool n.leaf) (.slice ra n.recs.length rc) (.slice ka n.kids.length kc) 69).2.1
 have n2 := (L5.box_cells w (.bool n.leaf) (.slice ra n.recs.length rc) (.slice ka n.kids.length kc) 69).2.2
 have nl: w.heap.size < (w.alloc (.cells #[.bool n.leaf, .slice ra n.recs.length rc, .slice ka n.kids.length kc] 69)).heap.size := by simp
 clear d0 d1 d2 d3 d4 d5 d6 dl df
 obtain ⟨d0,d1,d2,d3,d4,d5,d6,dl,df⟩ := HK1.out.ed.cells
 obtain ⟨f0,f1,f2,f3,f4,f5,f6,fl,ff⟩ := HK2.out.ed.cells
 go_enter Tryz.func23,Tryz.ntmps23
 go_wp2_with fail
 have HC := thid (fun (j: Nat) (u: Value) (hj: ([.int .i64 (at_: Int), .bool n.leaf, .slice ra n.recs.length rc, .slice ka n.kids.length kc, .int .i64 0]: List Value)[j]? = some u) => show ((w.alloc (.cells #[.bool n.leaf, .slice ra n.recs.length rc, .slice ka n.kids.length kc] 69)).drew.alloc (.cells #[.int .i64 (at_: Int), .bool n.leaf, .slice ra n.recs.length rc, .slice ka n.kids.length kc, .int .i64 0] 104)).cell? ((⟨w.heap.size + 1,0,none⟩: Addr).add j) = some u from by
  rw [Addr.add_lit,show w.heap.size + 1 = (w.alloc (.cells #[.bool n.leaf, .slice ra n.recs.length rc, .slice ka n.kids.length kc] 69)).drew.heap.size by simp,cell_of_row _ _ _ _ _ _ (heap_alloc_new _ _)]
  simpa using hj)
 have f5': ((w.alloc (.cells #[.bool n.leaf, .slice ra n.recs.length rc, .slice ka n.kids.length kc] 69)).alloc (.cells #[.int .i64 (at_: Int), .bool n.leaf, .slice ra n.recs.length rc, .slice ka n.kids.length kc, .int .i64 0] 104)).cell? ⟨x,5,none⟩ = some ld := f5
 go_region_law (first
  | (refine step_step B HK2.out.bs rfl (.tmp 10) (.tmp 14) rfl ld Ld.length _ [.int .i64 (at_: Int), .bool n.leaf, .slice ra n.recs.length rc, .slice ka n.kids.length kc, .int .i64 0] ?_ HK2.out.rl (by omega) ⟨w.heap.size + 1,0,none⟩ 1 ?_ rfl HC.out (by simp; exact ⟨rfl,rfl,rfl,rfl,rfl⟩) ?_
     · first | (simp [Act.eval]; done) | (simp [Act.eval,Act.put]; done)
     · first | (simp [Act.eval]; done) | (simp [Act.eval,Act.put]; done)
     intro v2 w2 hown hgr hnw
     obtain ⟨ad2,cp2,rfl⟩ := own_slice hown
     obtain ⟨HE,HS⟩ := HK.out.laid (y0 := ⟨at_,n, .slice ra n.recs.length rc, .slice ka n.kids.length kc,0⟩) HB2.out hgr rfl hown HR.out HKK.out b1 b2 b3
     have HE5 := thid HE
     have HS5 := thid HS
     have HF5: Hid (Only (fun k => k = x \/ ld.ownBlock = some k) w (w2.setCell ⟨x,5,none⟩ (.slice ad2 (Ld.length + 1) cp2))) := core_fine (x := x) (i := 5) HB2.out hgr
     have HN5: Hid (∀ q,(Value.slice ad2 (Ld.length + 1) cp2).ownBlock = some q -> ld.ownBlock = some q \/ w.heap.size <= q) := fun q hq => (hnw q hq).imp id fun y => Nat.le_trans HB2.out.size y
     have x2: w2.heap[x]? = some (.cells #[.pointer (some ⟨t,0,none⟩), .int .i64 (xr: Int), .int .i64 (xh: Int), .int .i64 (xl: Int),tk,ld,gn] 66 (0,0)) := by
      rw [hgr.block x fl (fun e => row_ne HK2.out.ed HK2.out.rl (by decide) e.symm)]
      exact HK2.out.ed
     have y5: w2.cell? ⟨x,5,none⟩ = some ld := (EdC.cells x2).2.2.2.2.2.1
     have yl := (EdC.cells x2).2.2.2.2.2.2.2.1
     have yf := (EdC.cells x2).2.2.2.2.2.2.2.2
     clear HE HS hown hgr hnw x2))
 all_goals
  clear f5' n0 n1 n2 nl d0 d1 d2 d3 d4 d5 d6 dl df f0 f1 f2 f3 f4 f5 f6 fl ff HB1 HB2 HK1 HK2 HK HC y5 yl yf
  go_wp2
  go_end0
  exact ⟨rfl,_,HE5.out,HS5.out,HF5.out,HN5.out⟩
theorem put_ok {B: Nat} {s: Ar} {t x r h l xr xh xl: Nat} {tk ld gn: Value} {T: List Nat} {Ld: List Lay} {G: List Nat} {w: World} (k: Es B s t x r h l xr xh xl tk ld gn T Ld G w) (hL: Ld.length <= 10000) {n: L5.No} {at_: Nat} {ra ka: Option Addr} {rc kc: Nat}
 (yr: w.ownsRow B 9 1 (.slice ra n.recs.length rc) n.recs.length (L5.svs n.recs)) (yk: w.ownsRow B 3 1 (.slice ka n.kids.length kc) n.kids.length (L5.ivs n.kids)) (b1: ∀ q,s.own q -> (Value.slice ka n.kids.length kc).ownBlock ≠ some q) (b2: ∀ q,tk.ownBlock = some q -> (Value.slice ka n.kids.length kc).ownBlock ≠ some q) (b3: ∀ q,gn.ownBlock = some q -> (Value.slice ka n.kids.length kc).ownBlock ≠ some q) :
 Calls Tryz.prog 23 #[.pointer (some ⟨x,0,none⟩), .int .i64 (at_: Int), .agg #[.bool n.leaf, .slice ra n.recs.length rc, .slice ka n.kids.length kc]] w fun e w' => e = .returned (.tuple #[]) /\ ∃ ld',Es B s t x r h l xr xh xl tk ld' gn T (Ld ++ [⟨at_,n, .slice ra n.recs.length rc, .slice ka n.kids.length kc,0⟩]) G w' /\ Stp B s s t x w w' :=
 (put_ok2 k hL yr yk b1 b2 b3).mono fun _ _ ⟨h1,ld',h2,h3,_⟩ => ⟨h1,ld',h2,h3⟩
theorem row5 {w: World} {B: Nat} {v: Value} {Ld: List Lay} (h: w.ownsRow B 104 5 v Ld.length (Ld.flatMap Lay.cells)) {j: Nat} (hj: j < Ld.length): ∃ g cap,v = .slice (some ⟨g,0,none⟩) Ld.length cap /\ g < w.heap.size /\ w.cell? ⟨g,j * 5,none⟩ = some (nv Ld[j].at_) /\ w.cell? ⟨g,j * 5 + 1,none⟩ = some (.bool Ld[j].n.leaf) /\ w.cell? ⟨g,j * 5 + 2,none⟩ = some Ld[j].vr /\ w.cell? ⟨g,j * 5 + 3,none⟩ = some Ld[j].vk /\ w.cell? ⟨g,j * 5 + 4,none⟩ = some (nv Ld[j].kid) := by
 have key: ∀ (l: List Lay) (j: Nat) (hj: j < l.length) (i: Nat),i < 5 -> (l.flatMap Lay.cells)[j * 5 + i]? = (l[j].cells)[i]? := by
  intro l
  induction l with
  | nil => intro j hj; simp at hj
  | cons y l ih =>
   intro j hj i hi
   rw [List.flatMap_cons]
   have hy: y.cells.length = 5 := rfl
   cases j with
   | zero =>
    rw [Nat.zero_mul,Nat.zero_add,List.getElem?_append_left (by omega)]
    rfl
   | succ j =>
    rw [List.getElem?_append_right (by omega),hy,show (j + 1) * 5 + i - 5 = j * 5 + i by omega]
    exact ih j (by simpa using hj) i hi
 rcases h.2 with ⟨_,h0⟩ | ⟨g,cap,cur,rfl,hbg,hg,hnc,hcm,hcs,htake⟩
 · omega
 have cc: ∀ i,i < 5 -> w.cell? ⟨g,j * 5 + i,none⟩ = (Ld[j].cells)[i]? := fun i hi => by
  rw [cell_of_row _ _ _ _ _ _ hg, <- key Ld j hj i hi, <- htake,List.getElem?_take,if_pos (by omega)]
  simp
 exact ⟨g,cap,rfl,(Array.getElem?_eq_some_iff.1 hg).1,cc 0 (by decide),cc 1 (by decide),cc 2 (by decide),cc 3 (by decide),cc 4 (by decide)⟩
theorem append_wide {ops: Array Oper} {rest: List Oper} {o: Oper} {a: Act} {Q: Exit -> Act -> World -> Prop} {W1: World} {t e: TypeId} {z: Value} {by_: Nat} (ht: Tryz.prog.underlying t = some (.slice e)) (hinfo: (Tryz.prog.info? e).map (fun i => (i.zero,i.size,i.bytes)) = some (some z,1,by_)) (hby: by_ <= 100) (hzs: z.cells.size = 1) (base: Nat) (hbase: base <= W1.heap.size) (hgd: o.guard = none) (s x: Operand) (ho: o.op = .call { callee := .builtin .append,args := #[s,x],argTypes := #[t,t] })
 (v: Value) (n: Nat) (ys: List Value) (xs: List Value) (hs: a.eval s = v) (h: W1.ownsRow base e 1 v n ys) (hn: n <= 1000000) (m: Nat) (hm: m <= 1000000) (ad: Addr) (cap: Nat) (hx: a.eval x = .slice (some ad) m cap) (hl: xs.length = m) (hc: ∀ j u,xs[j]? = some u -> W1.cell? (ad.add j) = some u) (h1: ∀ u ∈ xs,u.oneCell' = true)
 (hK: ∀ v' W',W'.ownsRow base e 1 v' (n + m) (ys ++ xs) -> W1.grownBy W' v.ownBlock -> (∀ k,v'.ownBlock = some k -> v.ownBlock = some k \/ W1.heap.size <= k) -> wpList Tryz.prog ops Q rest (a.put o.dst v') W'): wpList Tryz.prog ops Q (o :: rest) a W1 := by
 obtain ⟨i,hi,hz⟩ := Option.map_eq_some_iff.1 hinfo
 simp only [Prod.mk.injEq] at hz
 obtain ⟨h3,h4,h5⟩ := hz
 have hby2: (n + m) * by_ <= 140737488355328 := by
  have := Nat.mul_le_mul (show n + m <= 2000000 by omega) hby
  omega
 refine wpList_append_own_at (P := Tryz.prog) W1 hgd s x t ho base e i z 1 by_ ht hi h3 h4 h5 hzs (by decide) v n ys hs h ad m cap xs hx (by omega) hc h1 (by unfold maxLen; omega) hby2 hbase (fun v' W' hown hg _ hat => ?_)
 refine hK v' W' hown hg fun k hk => ?_
 rcases hat with hat | hat
 · rw [hat] at hk; exact Or.inl hk
 · rw [hat] at hk; cases hk; exact Or.inr (Nat.le_refl _)
def pgV (b: Nat): Value := .slice (some ⟨b,0,none⟩) 1024 1024
structure Wp (B: Nat) (s: Ar) (t x r h l xr xh xl: Nat) (tk ld gn: Value) (T: List Nat) (Ld: List Lay) (w: World) (pv: Value) (bl: List Nat) (wr: World): Prop where
 es: Es B s t x r h l xr xh xl tk ld gn T Ld [] wr
 row: wr.ownsRow B 81 1 pv bl.length (bl.map pgV)
 blk: ∀ (i b: Nat) (y: Lay),bl[i]? = some b -> Ld[i]? = some y -> L5.Blk wr b (L5.pageL y.n.toNd)
 stp: Stp B s s t x w wr
theorem Wp.on {B: Nat} {s: Ar} {t x r h l xr xh xl: Nat} {tk ld gn: Value} {T: List Nat} {Ld: List Lay} {w: World} {pv: Value} {bl: List Nat} {wr wr': World} (k: Wp B s t x r h l xr xh xl tk ld gn T Ld w pv bl wr) (hb: Below wr.heap.size wr wr'): Wp B s t x r h l xr xh xl tk ld gn T Ld w pv bl wr' :=
 ⟨k.es.below hb,L5.owns_of_block k.row fun q hq => hb.block q (k.row.lt q hq).2,fun i b y h1 h2 => (hb.block b (L5.Blk.lt (k.blk i b y h1 h2))).trans (k.blk i b y h1 h2),k.stp.trans (Stp.below hb)⟩
theorem Wp.more {B: Nat} {s: Ar} {t x r h l xr xh xl: Nat} {tk ld gn: Value} {T: List Nat} {Ld: List Lay} {w: World} {pv pv': Value} {bl: List Nat} {b: Nat} {wr wr': World} {m: Nat} (k: Wp B s t x r h l xr xh xl tk ld gn T Ld w pv bl wr) (hg: wr.grownBy wr' pv.ownBlock) (hm: m = bl.length + 1) (ho: wr'.ownsRow B 81 1 pv' m (bl.map pgV ++ [pgV b])) (hb: ∀ y: Lay,Ld[bl.length]? = some y -> L5.Blk wr b (L5.pageL y.n.toNd)) :
 Wp B s t x r h l xr xh xl tk ld gn T Ld w pv' (bl ++ [b]) wr' := by
 subst hm
 have keepB: ∀ (q: Nat) (cs: Array Value) (e: TypeId),wr.heap[q]? = some (.cells cs e (0,0)) -> e ≠ 81 -> wr'.heap[q]? = wr.heap[q]? := fun q cs e hq he => hg.block q (Array.getElem?_eq_some_iff.1 hq).1 (fun x => row_ne hq k.row he x.symm)
 have row: ∀ {e: TypeId} {m: Nat} {v: Value} {n: Nat} {xs: List Value},wr.ownsRow B e m v n xs -> e ≠ 81 -> wr'.ownsRow B e m v n xs := fun hr he => L5.owns_of_block hr fun q hq => by
  obtain ⟨cur,hc⟩ := L4.owns_tag hr hq
  exact keepB q _ _ hc he
 have e := k.es
 refine ⟨⟨L4.arSt.keep s wr wr' e.ar (fun q hq => by
  obtain ⟨cur,t',h1,h2⟩ := e.ar.tag hq
  exact keepB q _ _ h1 (by rcases h2 with h2 | h2 | h2 <;> rw [h2] <;> decide)) (fun q cs hq => keepB q cs _ hq (by decide)),⟨(keepB t _ _ e.tr.blk (by decide)).trans e.tr.blk⟩,(keepB x _ _ e.ed (by decide)).trans e.ed,Nat.le_trans e.bs hg.size,row e.rt (by decide),row e.rl (by decide),row e.rg (by decide),fun y hy => row (e.rr y hy) (by decide),fun y hy => row (e.rk y hy) (by decide),e.a1,e.a2,e.a3⟩,by rw [List.map_append,List.length_append]; exact ho,fun i c y h1 h2 => ?_,k.stp.trans ⟨⟨hg.os,hg.tape,hg.output,hg.size,fun q hq hn => hg.block q hq (fun x => hn (Or.inr (Or.inr (Or.inr (k.row.lt q x.symm).1))))⟩,fun _ x => Or.inl x⟩⟩
 have hK: L5.Blk wr c (L5.pageL y.n.toNd) := by
  by_cases hi: i < bl.length
  · rw [List.getElem?_append_left hi] at h1
    exact k.blk i c y h1 h2
  · have hl := (List.getElem?_eq_some_iff.1 h1).1
    have hi2: i = bl.length := by simp at hl; omega
    subst hi2
    simp at h1
    subst h1
    exact hb y h2
 exact (keepB c _ _ hK (by decide)).trans hK
theorem at_lay {a: Abs} {n: Int} {c: List UInt8} (h: a.at n = some c) (m: Nat) {d: List UInt8}: ∃ c',(a.lay m (some d)).at n = some c' := by
 obtain ⟨h1,h2,h3⟩ := L4.Abs.at_some h
 unfold L4.Abs.at L4.Abs.lay
 rw [if_pos h1]
 simp only [List.getElem?_set]
 split
 · rename_i hmn
   rw [if_pos (by omega)]
   exact ⟨d,rfl⟩
 · rw [h3]
   exact ⟨c,rfl⟩
theorem head_set {B: Nat} {s: Ar} {w: World} {t r h l: Nat} (x: Nat) (hA: ArP s w) (ht: TrC w t s.p r h l) (xr xh xl: Nat) :
 ArP s (((w.setCell ⟨t,1,none⟩ (.int .i64 (xr: Int))).setCell ⟨t,2,none⟩ (.int .i64 (xh: Int))).setCell ⟨t,3,none⟩ (.int .i64 (xl: Int))) /\ TrC (((w.setCell ⟨t,1,none⟩ (.int .i64 (xr: Int))).setCell ⟨t,2,none⟩ (.int .i64 (xh: Int))).setCell ⟨t,3,none⟩ (.int .i64 (xl: Int))) t s.p xr xh xl /\ Stp B s s t x w (((w.setCell ⟨t,1,none⟩ (.int .i64 (xr: Int))).setCell ⟨t,2,none⟩ (.int .i64 (xh: Int))).setCell ⟨t,3,none⟩ (.int .i64 (xl: Int))) := by
 have oth: ∀ q,q ≠ t -> (((w.setCell ⟨t,1,none⟩ (.int .i64 (xr: Int))).setCell ⟨t,2,none⟩ (.int .i64 (xh: Int))).setCell ⟨t,3,none⟩ (.int .i64 (xl: Int))).heap[q]? = w.heap[q]? := fun q hq => by
  rw [heap_setCell_other _ _ _ _ hq,heap_setCell_other _ _ _ _ hq,heap_setCell_other _ _ _ _ hq]
 have e1 := heap_setCell_same w t 1 _ _ (.int .i64 (xr: Int)) ht.blk
 have e2 := heap_setCell_same _ t 2 _ _ (.int .i64 (xh: Int)) e1
 have e3 := heap_setCell_same _ t 3 _ _ (.int .i64 (xl: Int)) e2
 refine ⟨L4.arSt.keep s w _ hA (fun q hq => oth q fun e => not_own hA ht.blk (by decide) (by decide) (by decide) (e ▸ hq)) (fun q cs hq => oth q (tag_ne hq ht.blk (by decide))),⟨e3⟩,⟨⟨rfl,rfl,rfl,by simp [World.setCell],fun q _ hn => oth q fun e => hn (Or.inr (Or.inl e))⟩,fun _ x => Or.inl x⟩⟩
structure Wq (B: Nat) (s s2: Ar) (t x r h l xr xh xl: Nat) (tk ld gn: Value) (T: List Nat) (Ld: List Lay) (w: World) (pv: Value) (bl: List Nat) (wr: World): Prop where
 es: Es B s2 t x r h l xr xh xl tk ld gn T Ld [] wr
 row: wr.ownsRow B 81 1 pv bl.length (bl.map pgV)
 blk: ∀ (i b: Nat) (y: Lay),bl[i]? = some b -> Ld[i]? = some y -> L5.Blk wr b (L5.pageL y.n.toNd)
 stp: Stp B s s2 t x w wr
theorem Wq.on {B: Nat} {s s2: Ar} {t x r h l xr xh xl: Nat} {tk ld gn: Value} {T: List Nat} {Ld: List Lay} {w: World} {pv: Value} {bl: List Nat} {wr wr': World} (k: Wq B s s2 t x r h l xr xh xl tk ld gn T Ld w pv bl wr) (hb: Below wr.heap.size wr wr'): Wq B s s2 t x r h l xr xh xl tk ld gn T Ld w pv bl wr' :=
 ⟨k.es.below hb,L5.owns_of_block k.row fun q hq => hb.block q (k.row.lt q hq).2,fun i b y h1 h2 => (hb.block b (L5.Blk.lt (k.blk i b y h1 h2))).trans (k.blk i b y h1 h2),k.stp.trans (Stp.below hb)⟩
theorem Wq.moves {B: Nat} {s s2 s3: Ar} {t x r h l xr xh xl: Nat} {tk ld gn: Value} {T: List Nat} {Ld: List Lay} {w: World} {pv: Value} {bl: List Nat} {wr wr': World} (k: Wq B s s2 t x r h l xr xh xl tk ld gn T Ld w pv bl wr) (hA: ArP s3 wr') (hp: s3.p = s2.p) (hm: L4.Moves L4.arSt s2 s3 wr wr'): Wq B s s3 t x r h l xr xh xl tk ld gn T Ld w pv bl wr' :=
 ⟨k.es.moves hA hp hm,L5.owns_of_block k.row fun q hq => hm.only.block q (k.row.lt q hq).2 (row_not_own k.es.ar k.row (by decide) (by decide) (by decide) hq),fun i b y h1 h2 => (hm.only.block b (L5.Blk.lt (k.blk i b y h1 h2)) (not_own k.es.ar (k.blk i b y h1 h2) (by decide) (by decide) (by decide))).trans (k.blk i b y h1 h2),k.stp.trans (Stp.moves k.es.bs hm)⟩
theorem Wq.page {B: Nat} {s s2: Ar} {t x r h l xr xh xl: Nat} {tk ld gn: Value} {T: List Nat} {Ld: List Lay} {w: World} {pa: Option Addr} {pc m: Nat} {bl: List Nat} {wr: World} (k: Wq B s s2 t x r h l xr xh xl tk ld gn T Ld w (.slice pa m pc) bl wr) {j: Nat} (hj: j < bl.length): ∃ q,(∃ qb,pa = some ⟨qb,0,none⟩ /\ qb < wr.heap.size /\ wr.cell? ⟨qb,j,none⟩ = some (pgV q)) /\ bl[j]? = some q := by
 refine ⟨bl[j], ?_,List.getElem?_eq_getElem hj⟩
 rcases k.row.2 with ⟨e,h0⟩ | ⟨g,cap,cur,e,hbg,hg,hnc,hcm,hcs,htake⟩
 · omega
 · cases e
   refine ⟨g,rfl,(Array.getElem?_eq_some_iff.1 hg).1, ?_⟩
   rw [cell_of_row _ _ _ _ _ _ hg]
   have e: (bl.map pgV)[j]? = some (pgV bl[j]) := by simp [hj]
   rw [<- htake,List.getElem?_take,if_pos (by omega)] at e
   simpa using e
theorem write_ok {B: Nat} {s: Ar} {t x r h l xr xh xl: Nat} {tk ld gn: Value} {T: List Nat} {Ld: List Lay} {w: World} (k: Es B s t x r h l xr xh xl tk ld gn T Ld [] w) (ho: s.abs.Ok) (hL: Ld.length <= 10000) (hn: ∀ y ∈ Ld,y.n.small /\ y.n.shaped = true /\ y.n.size <= 1024) (hat: ∀ y ∈ Ld,∃ c,s.abs.at (y.at_: Int) = some c) :
 Calls Tryz.prog 50 #[.pointer (some ⟨x,0,none⟩)] w fun e w' => e = .returned (.tuple #[]) /\ ∃ s',s'.p = s.p /\ s'.abs = Ld.foldl (fun a y => a.lay y.at_ (some (L5.pageL y.n.toNd))) s.abs /\ s'.abs.Ok /\ ArP s' w' /\ TrC w' t s.p xr xh xl /\ Stp B s s' t x w w' := by
 have HK := thid k
 obtain ⟨ad,cp,rfl⟩ := own_slice k.rl
 obtain ⟨d0,d1,d2,d3,d4,d5,d6,dl,df⟩ := k.ed.cells
 clear k
 go_enter Tryz.func50,Tryz.ntmps50
 go_wp2_with fail
 go_loopw [2,16] (fun pv i wr => ∃ j: Nat,j <= Ld.length /\ i = .int .i64 (j: Int) /\ ∃ bl: List Nat,Hid (bl.length = j) /\ Hid (Wp B s t x r h l xr xh xl tk (.slice ad Ld.length cp) gn T Ld w pv bl wr)) (fun _ i _ => Ld.length - (intOf i).toNat)
 case atStart => exact ⟨0,Nat.zero_le _,rfl,[],rfl,⟨HK.out,⟨rfl,Or.inl ⟨rfl,rfl⟩⟩,fun i b y h1 => by simp at h1,Stp.refl _ _ _ _ _⟩⟩
 case round =>
  clear HK d0 d1 d2 d3 d4 d5 d6 dl df
  obtain ⟨j,hj,rfl,bl,HBL,HW⟩ := hrel
  by_cases hlt: j < Ld.length
  · have hlt': (j: Int) < (Ld.length: Int) := by omega
    obtain ⟨g,cp',e,hgl,g0,g1,g2,g3,g4⟩ := row5 HW.out.es.rl hlt
    cases e
    have hmem := List.getElem_mem hlt
    obtain ⟨hsm,hshp,hsz⟩ := hn _ hmem
    have hrr := HW.out.es.rr _ hmem
    have hrk := HW.out.es.rk _ hmem
    have HY: Hid (Ld[j]? = some Ld[j]) := List.getElem?_eq_getElem hlt
    generalize Ld[j] = y at *
    obtain ⟨ra,rc,er⟩ := own_slice hrr
    obtain ⟨ka,kc,ek⟩ := own_slice hrk
    rw [er] at g2 hrr
    rw [ek] at g3 hrk
    have HRR := thid hrr
    have HRK := thid hrk
    unfold nv at g0 g4
    go_wp2_with fail
    have HB1 := thid (tbelow wr (.cells #[.int .i64 (y.at_: Int), .bool y.n.leaf, .slice ra y.n.recs.length rc, .slice ka y.n.kids.length kc, .int .i64 (y.kid: Int)] 104))
    have HW1 := thid (HW.out.on HB1.out)
    have HNR := thid (L5.NR.mk (L5.owns_rd_slice (L5.owns_below HRR.out HB1.out)) (L5.owns_rd_slice (L5.owns_below HRK.out HB1.out)))
    clear HW HB1 HRR HRK g0 g1 g2 g3 g4 hrr hrk er ek
    generalize wr.alloc (.cells #[.int .i64 (y.at_: Int), .bool y.n.leaf, .slice ra y.n.recs.length rc, .slice ka y.n.kids.length kc, .int .i64 (y.kid: Int)] 104) = W1 at HW1 HNR ⊢
    refine (L5.encode_ok (n := y.n) HNR.out hsm hshp hsz).mono ?_
    rintro e w2 ⟨b2,rfl,hb2,K2,B2⟩
    have HW2 := thid (HW1.out.on B2)
    have HK2 := thid K2
    clear HW1 HNR B2 K2
    go_wp2_with (first
     | (go_at_call 53; refine (L1.check_ok _).mono ?_; rintro e w3 ⟨rfl,rfl⟩)
     | (at_builtin
        revert HW2)
     | fail)
    intro HW2
    have HB3 := thid (tbelow w3 (.cells #[pgV b2] 81))
    have HW3 := thid (HW2.out.on HB3.out)
    have hbl := HBL.out
    refine append_wide (z := .slice none 0 0) (by_ := 24) Tryz.underlying126 (by kernel_rfl) (by decide) rfl B HW3.out.es.bs rfl _ _ rfl u2 bl.length (bl.map pgV) [pgV b2] rfl HW3.out.row (by omega) 1 (by omega) ⟨w3.heap.size,0,none⟩ 1 rfl rfl (fun i u hi => by
     match i with
     | 0 => cases hi; simp [go_sem,pgV]
     | i + 1 => cases hi) (fun u hu => by simp at hu; subst hu; rfl) ?_
    intro v4 w4 hown hg _
    have HW4 := thid (HW3.out.more hg rfl hown (fun y' hy' => by
     rw [hbl,HY.out] at hy'
     cases hy'
     exact (HB3.out.block _ (L5.Blk.lt HK2.out)).trans HK2.out))
    clear HW2 HB3 HW3 HK2 hown hg
    go_wp2
    exact ⟨⟨j + 1,by omega,by go_num,bl ++ [b2],by show _ = _; simp [hbl],HW4⟩,by simp [intOf]; omega⟩
  · have hlt': (Ld.length: Int) <= (j: Int) := by omega
    have hjl: j = Ld.length := by omega
    subst hjl
    obtain ⟨d0,d1,d2,d3,d4,d5,d6,dl,df⟩ := HW.out.es.ed.cells
    obtain ⟨pa,pc,rfl⟩ := own_slice HW.out.row
    go_wp2_with fail
    go_loopw [38] (fun i w2 => ∃ j: Nat,j <= Ld.length /\ i = .int .i64 (j: Int) /\ ∃ s2: Ar,Hid (s2.p = s.p) /\ Hid (s2.abs = (Ld.take j).foldl (fun a y => a.lay y.at_ (some (L5.pageL y.n.toNd))) s.abs) /\ Hid s2.abs.Ok /\ Hid (∀ y ∈ Ld,∃ c,s2.abs.at (y.at_: Int) = some c) /\ Hid (Wq B s s2 t x r h l xr xh xl tk (.slice ad Ld.length cp) gn T Ld w (.slice pa bl.length pc) bl w2)) (fun i _ => Ld.length - (intOf i).toNat)
    case atStart => exact ⟨0,Nat.zero_le _,rfl,s,rfl,rfl,ho,hat,⟨HW.out.es,HW.out.row,HW.out.blk,HW.out.stp⟩⟩
    case round =>
     clear d0 d1 d2 d3 d4 d5 d6 dl df HW
     obtain ⟨j,hj,rfl,s2,HP2,HA2,HO2,HT2,HQ⟩ := hrel
     by_cases hlt: j < Ld.length
     · have hlt': (j: Int) < (Ld.length: Int) := by omega
       obtain ⟨g,cp',e,hgl,g0,g1,g2,g3,g4⟩ := row5 HQ.out.es.rl hlt
       cases e
       have hmem := List.getElem_mem hlt
       obtain ⟨c1,hc1⟩ := HT2.out _ hmem
       have hrr := HQ.out.es.rr _ hmem
       have hrk := HQ.out.es.rk _ hmem
       have HY: Hid (Ld[j]? = some Ld[j]) := List.getElem?_eq_getElem hlt
       generalize Ld[j] = y at *
       obtain ⟨ra,rc,er⟩ := own_slice hrr
       obtain ⟨ka,kc,ek⟩ := own_slice hrk
       rw [er] at g2
       rw [ek] at g3
       unfold nv at g0 g4
       obtain ⟨q,⟨qb,rfl,hql,hqc⟩,hqb⟩ := HQ.out.page (j := j) (by rw [HBL.out]; exact hlt)
       have HB1 := thid (tbelow wr (.cells #[.int .i64 (y.at_: Int), .bool y.n.leaf, .slice ra y.n.recs.length rc, .slice ka y.n.kids.length kc, .int .i64 (y.kid: Int)] 104))
       have hjb: (j: Int) < (bl.length: Int) := by rw [HBL.out]; exact hlt'
       go_wp2_with fail
       have HQ1 := thid (HQ.out.on HB1.out)
       have hqc1 := (HB1.out.cell (p := ⟨qb,j,none⟩) hql).trans hqc
       have p0: (wr.alloc (.cells #[.int .i64 (y.at_: Int), .bool y.n.leaf, .slice ra y.n.recs.length rc, .slice ka y.n.kids.length kc, .int .i64 (y.kid: Int)] 104)).cell? ⟨wr.heap.size,0,none⟩ = some (.int .i64 (y.at_: Int)) := by simp [go_sem]
       have pl: wr.heap.size < (wr.alloc (.cells #[.int .i64 (y.at_: Int), .bool y.n.leaf, .slice ra y.n.recs.length rc, .slice ka y.n.kids.length kc, .int .i64 (y.kid: Int)] 104)).heap.size := by simp
       have hql1: qb < (wr.alloc (.cells #[.int .i64 (y.at_: Int), .bool y.n.leaf, .slice ra y.n.recs.length rc, .slice ka y.n.kids.length kc, .int .i64 (y.kid: Int)] 104)).heap.size := by simp; omega
       clear HQ HB1 g0 g1 g2 g3 g4 hrr hrk er ek hqc hgl hql
       generalize wr.alloc (.cells #[.int .i64 (y.at_: Int), .bool y.n.leaf, .slice ra y.n.recs.length rc, .slice ka y.n.kids.length kc, .int .i64 (y.kid: Int)] 104) = W1 at *
       generalize wr.heap.size = pq at *
       obtain ⟨e0,e1,e2,e3,e4,e5,e6,el,ef⟩ := HQ1.out.es.ed.cells
       obtain ⟨t0,t1,t2,t3,tl,tf⟩ := HQ1.out.es.tr.cells
       unfold pgV at hqc1
       refine wp_region_quiet_tail (fun w' => ∃ n,w' = World.drewN W1 n) 13 (by kernel_rfl) (by kernel_rfl) ⟨1,rfl⟩ ?_
       simp only [List.take_succ_cons,List.take_zero,List.drop_succ_cons,List.drop_zero]
       repeat (go_big_quiet_step (fail))
       refine wpQuiet_nil ?_
       rintro _ ⟨nq,rfl⟩
       have HQ2 := thid (HQ1.out.on (below_drewN (Below.refl _ _) nq))
       clear HQ1 e0 e1 e2 e3 e4 e5 e6 el ef t0 t1 t2 t3 tl tf p0 pl hqc1 hql1
       generalize W1.drewN nq = W2 at HQ2 ⊢
       go_wp2_with fail
       have hKq := HQ2.out.blk j q y hqb HY.out
       have hpl: (L5.pageL y.n.toNd).length = 1024 := L5.pageL_length (by rw [L5.toNd_size]; exact (hn y hmem).2.2)
       have hBS: L4.BS W2 q (.slice (some ⟨q,0,none⟩) 1024 1024) (L5.pageL y.n.toNd) := ⟨by rw [hpl],_,hKq⟩
       refine (L4.store_ok (s := s2) HQ2.out.es.ar HO2.out hc1 hBS hpl).mono ?_
       rintro e w4 ⟨rfl,s4,hA4,hp4,hab4,hm4⟩
       have HQ4 := thid (HQ2.out.moves hA4 hp4 hm4)
       clear HQ2 hBS hKq hA4 hm4
       go_wp2
       have hlay: s4.abs.Ok := by rw [hab4]; exact HO2.out.lay hc1 hpl
       refine ⟨⟨j + 1,by omega,by go_num,s4,hp4.trans HP2.out, ?_,hlay, ?_,HQ4⟩,by simp [intOf]; omega⟩
       · show _ = _
         obtain ⟨hj',hy'⟩ := List.getElem?_eq_some_iff.1 HY.out
         rw [hab4,HA2.out,List.take_succ_eq_append_getElem hj',List.foldl_append,hy']
         rfl
       · intro y' hy'
         obtain ⟨c',hc'⟩ := HT2.out y' hy'
         rw [hab4]
         exact at_lay hc' _
     · have hlt': (Ld.length: Int) <= (j: Int) := by omega
       have hjl: j = Ld.length := by omega
       subst hjl
       obtain ⟨d0,d1,d2,d3,d4,d5,d6,dl,df⟩ := HQ.out.es.ed.cells
       obtain ⟨ga,gc,rfl⟩ := own_slice HQ.out.es.rg
       go_wp2_with fail
       go_loopw [63] (fun i w2 => i = .int .i64 0 /\ w2 = wr) (fun _ _ => 0)
       case atStart => exact ⟨rfl,rfl⟩
       case round =>
        obtain ⟨rfl,rfl⟩ := hrel
        obtain ⟨t0,t1,t2,t3,tl,tf⟩ := HQ.out.es.tr.cells
        have txn := tag_ne HQ.out.es.tr.blk HQ.out.es.ed (by decide)
        go_wp2_with fail
        refine wp_region_quiet_tail (fun w' => ∃ n,w' = World.drewN wr n) 8 (by kernel_rfl) (by kernel_rfl) ⟨1,rfl⟩ ?_
        simp only [List.take_succ_cons,List.take_zero,List.drop_succ_cons,List.drop_zero]
        repeat (go_big_quiet_step (fail))
        refine wpQuiet_nil ?_
        rintro _ ⟨nq,rfl⟩
        have HQ2 := thid (HQ.out.on (below_drewN (Below.refl _ _) nq))
        obtain ⟨z1,z2,z3⟩ := head_set x HQ2.out.es.ar HQ2.out.es.tr (B := B) xr xh xl
        have Z1 := thid z1
        have Z2 := thid z2
        have Z3 := thid (HQ2.out.stp.trans z3)
        clear HQ HQ2 z1 z2 z3
        go_wp2
        go_end0
        rw [List.take_length] at HA2
        exact ⟨rfl,s2,HP2.out,HA2.out,HO2.out,Z1.out,by rw [<- HP2.out]; exact Z2.out,Z3.out⟩
end Go.Proofs.YtdnkbdjhccckhaaGreat
namespace Go.Proofs.YtdnkbdjhccckhaaGreat
open Go.RowKit
open L4 (Ar ArP Abs arV nv)
open L1 (caughtW caught_any undoW Came faultV stopped OnlyAt)
theorem undo_done (g: FuncId) (hg: ∀ args w,(callFunc g args).run Tryz.prog w = .ok (.enter g args) w) (cap: Array Value) (v2: Value) (w: World) (S: Nat -> Prop) (hS: ∀ k,w.heap.size <= k -> ¬ S k) (R: World -> Prop)
 (h: Calls Tryz.prog g cap (undoW w) fun e w1 => e = .returned (.tuple #[]) /\ R w1 /\ Only S (undoW w) w1) :
 Calls Tryz.prog 48 #[.func (.func g) #[] cap,v2] w fun e w' => e = .returned (faultV 0 0) /\ ∃ w1,R w1 /\ Only S (undoW w) w1 /\ OnlyAt w.heap.size 3 w1 w' := by
 have H := thid (caught_any g hg cap (w.alloc (.cells #[.int .i64 0, .int .i64 0] 98)) S (hS _ (by simp)) (hS _ (by simp; omega)) (fun e w1 => e = .returned (.tuple #[]) /\ R w1) (h.mono fun e w1 ⟨he,hR,ho⟩ => ⟨⟨he,hR⟩,ho,0,0,false,by rw [he]; exact .done⟩))
 clear hg h
 go_enter Tryz.func48,Tryz.ntmps48
 go_wp2_with fail
 refine H.out.mono ?_
 rintro e w2 ⟨e1,w1,c,a,t,⟨he1,hR⟩,hc,rfl,ho,hsz,ho2⟩
 clear H
 cases hc with
 | stop => cases he1
 | done =>
  have hz := ho.size
  simp at hz
  have q0: w2.cell? ⟨w.heap.size,0,none⟩ = some (.int .i64 0) := by
   rw [ho2.cell (by simp; omega) (by simp; omega),ho.cell (by simp; omega) (hS _ (by simp))]; simp [go_sem]
  have q1: w2.cell? ⟨w.heap.size,1,none⟩ = some (.int .i64 0) := by
   rw [ho2.cell (by simp; omega) (by simp; omega),ho.cell (by simp; omega) (hS _ (by simp))]; simp [go_sem]
  have f0: w2.frozen? ⟨w.heap.size,0,none⟩ = false := by
   rw [ho2.frozen (by simp; omega) (by simp; omega),ho.frozen (by simp; omega) (hS _ (by simp))]; simp [go_sem]
  have f1: w2.frozen? ⟨w.heap.size,1,none⟩ = false := by
   rw [ho2.frozen (by simp; omega) (by simp; omega),ho.frozen (by simp; omega) (hS _ (by simp))]; simp [go_sem]
  have hz2: w.heap.size < w2.heap.size := by omega
  clear hsz
  simp only [faultV]
  go_wp2
  refine bodyPost_ret (v := faultV 0 0) (by simp [results,Tryz.results48,go_sem,q0,q1,hz2,faultV]) rfl ⟨rfl,w1,hR,ho, ?_⟩
  exact (((ho2.weaken (fun k _ hk => by simp at hk; omega)).setCell (Or.inr (by simp)) _).setCell (Or.inr (by simp)) _).alloc _
theorem ffield (c a: Int) (w: World): (Instr.field 98 (.agg #[.int .i64 c, .int .i64 a]) 0).run Tryz.prog w = .ok (.int .i64 c) w := by
 simp [Instr.field,run_underlying Tryz.underlying98,go_sem,Tryz.isAgg26,asAgg]
theorem undoW_tags {w w1: World} {S: Nat -> Prop} (ho: Only S (undoW w) w1) (hS: ∀ k,w.heap.size <= k -> k < w.heap.size + 3 -> ¬ S k) (k: Nat) (hk: w.heap.size <= k /\ k < w.heap.size + 3): ∃ cs t,w1.heap[k]? = some (.cells cs t (0,0)) /\ (t = 98 \/ t = 4) := by
 have e0: (undoW w).heap[w.heap.size]? = some (.cells #[.int .i64 0, .int .i64 0] 98 (0,0)) := ((tbelow _ _).block _ (by simp; omega)).trans (((tbelow _ _).block _ (by simp)).trans (heap_alloc_new w (.cells #[.int .i64 0, .int .i64 0] 98)))
 have e1: (undoW w).heap[w.heap.size + 1]? = some (.cells #[.int .i64 0, .int .i64 0] 98 (0,0)) := by
  have h := heap_alloc_new (w.alloc (.cells #[.int .i64 0, .int .i64 0] 98)) (.cells #[.int .i64 0, .int .i64 0] 98)
  rw [show (w.alloc (.cells #[.int .i64 0, .int .i64 0] 98)).heap.size = w.heap.size + 1 by simp] at h
  exact ((tbelow _ _).block _ (by simp)).trans h
 have e2: (undoW w).heap[w.heap.size + 2]? = some (.cells #[.bool false] 4 (0,0)) := by
  have h := heap_alloc_new ((w.alloc (.cells #[.int .i64 0, .int .i64 0] 98)).alloc (.cells #[.int .i64 0, .int .i64 0] 98)) (.cells #[.bool false] 4)
  rw [show ((w.alloc (.cells #[.int .i64 0, .int .i64 0] 98)).alloc (.cells #[.int .i64 0, .int .i64 0] 98)).heap.size = w.heap.size + 2 by simp] at h
  exact h
 have hz: (undoW w).heap.size = w.heap.size + 3 := by simp
 have hk': k = w.heap.size \/ k = w.heap.size + 1 \/ k = w.heap.size + 2 := by omega
 rcases hk' with rfl | rfl | rfl
 · exact ⟨_,_,(ho.block _ (by omega) (hS _ hk.1 hk.2)).trans e0,Or.inl rfl⟩
 · exact ⟨_,_,(ho.block _ (by omega) (hS _ hk.1 hk.2)).trans e1,Or.inl rfl⟩
 · exact ⟨_,_,(ho.block _ (by omega) (hS _ hk.1 hk.2)).trans e2,Or.inr rfl⟩
def Done (N: Nat) (s: Ar) (t x r h l xr xh xl: Nat) (A: Abs) (W1 w1: World): Prop := ∃ (s': Ar) (tk ld gn: Value) (T: List Nat) (Ld: List Lay),s'.p = s.p /\ s'.abs.Ok /\ Es N s' t x r h l xr xh xl tk ld gn T Ld [] w1 /\ Ld.length <= 10000 /\ (∀ y ∈ Ld,y.n.small /\ y.n.shaped = true /\ y.n.size <= 1024) /\ (∀ y ∈ Ld,∃ c,s'.abs.at (y.at_: Int) = some c) /\ Ld.foldl (fun a y => a.lay y.at_ (some (L5.pageL y.n.toNd))) s'.abs = A /\ Stp N s s' t x W1 w1
def Fin (N: Nat) (s: Ar) (t x xr xh xl: Nat) (A: Abs) (W1 w1: World): Prop := ∃ s': Ar,s'.p = s.p /\ s'.abs = A /\ s'.abs.Ok /\ ArP s' w1 /\ TrC w1 t s.p xr xh xl /\ Stp N s s' t x W1 w1
theorem change1_ok {N: Nat} {s: Ar} {t x r h l xr xh xl: Nat} {A: Abs} {w: World} {b0 b2: Nat} {g: FuncId} {cap: Array Value} (hg: ∀ args w,(callFunc g args).run Tryz.prog w = .ok (.enter g args) w) (h0: w.cell? ⟨b0,0,none⟩ = some (.func (.func g) #[] cap)) (h2: w.cell? ⟨b2,0,none⟩ = some (.pointer (some ⟨x,0,none⟩)))
 (hb2: ∀ (s': Ar) (w1: World),Stp N s s' t x w w1 -> w1.cell? ⟨b2,0,none⟩ = some (.pointer (some ⟨x,0,none⟩)) /\ b2 < w1.heap.size)
 (H: Calls Tryz.prog g (#[.pointer (some ⟨x,0,none⟩)] ++ cap) w fun e w1 => e = .returned (.tuple #[]) /\ Done N s t x r h l xr xh xl A w w1) :
 Calls Tryz.prog 49 #[.pointer (some ⟨b0,0,none⟩), .pointer (some ⟨b2,0,none⟩)] w fun e w' => e = .returned (.tuple #[]) /\ Fin N s t x xr xh xl A w w' := by
 have HH := thid H
 clear H
 go_enter Tryz.func49,Tryz.ntmps49
 go_wp2_with fail
 refine HH.out.mono ?_
 rintro e w1 ⟨rfl,s',tk,ld,gn,T,Ld,hp,hok,hE,hL,hn,hat,hf,hst⟩
 obtain ⟨d2,dl2⟩ := hb2 s' w1 hst
 have HW := thid (write_ok hE hok hL hn hat)
 have HST := thid hst
 clear h0 h2 hb2 HH hE hst hn hat
 go_wp2_with fail
 refine HW.out.mono ?_
 rintro e w2 ⟨rfl,s2,hp2,hab2,hok2,hA2,hT2,hst2⟩
 have HF: Hid (Fin N s t x xr xh xl A w w2) := ⟨s2,hp2.trans hp,hab2.trans hf,hok2,hA2,by rw [<- hp]; exact hT2,HST.out.trans hst2⟩
 clear HW HST hA2 hT2 hst2 d2 dl2
 go_wp2
 go_end0
 exact ⟨rfl,HF.out⟩
theorem change_ok {s: Ar} {t r h l xr xh xl: Nat} {A: Abs} {w: World} (hA: ArP s w) (ht: TrC w t s.p r h l) (g: FuncId) (hg: ∀ args w,(callFunc g args).run Tryz.prog w = .ok (.enter g args) w) (cap: Array Value)
 (H: ∀ (N x: Nat) (W: World),w.heap.size <= x -> Below w.heap.size w W -> Es N s t x r h l r h l (.slice none 0 0) (.slice none 0 0) (.slice none 0 0) [] [] [] W -> Calls Tryz.prog g (#[.pointer (some ⟨x,0,none⟩)] ++ cap) W fun e w1 => e = .returned (.tuple #[]) /\ Done N s t x r h l xr xh xl A W w1) :
 Calls Tryz.prog 20 #[.pointer (some ⟨t,0,none⟩), .func (.func g) #[] cap] w fun e w' => e = .returned (.int .i64 0) /\ ∃ s': Ar,s'.p = s.p /\ s'.abs = A /\ s'.abs.Ok /\ ArP s' w' /\ TrC w' t s.p xr xh xl /\ Only (fun k => s.own k \/ k = t) w w' /\ (∀ k,s'.own k -> s.own k \/ w.heap.size <= k) := by
 obtain ⟨c0,c1,c2,c3,ct,cf⟩ := ht.cells
 have HA := thid hA
 have HT := thid ht
 have HH := thid H
 clear hA ht H
 have hmf: ∀ (fn: Fn) (first cap: Array Value) (w: World),(Instr.makeFunc fn first cap).run Tryz.prog w = .ok (.func fn first cap) w := fun _ _ _ _ => rfl
 go_enter Tryz.func20,Tryz.ntmps20
 go_wp2_with fail
 have B3: Below w.heap.size w (((w.alloc (.cells #[.func (.func g) #[] cap] 70)).alloc (.cells #[.pointer (some ⟨t,0,none⟩), .int .i64 (r: Int), .int .i64 (h: Int), .int .i64 (l: Int), .slice none 0 0, .slice none 0 0, .slice none 0 0] 66)).alloc (.cells #[.pointer (some ⟨w.heap.size + 1,0,none⟩)] 63)) := ((tbelow w _).alloc (by simp) _).alloc (by simp; omega) _
 have z3: (((w.alloc (.cells #[.func (.func g) #[] cap] 70)).alloc (.cells #[.pointer (some ⟨t,0,none⟩), .int .i64 (r: Int), .int .i64 (h: Int), .int .i64 (l: Int), .slice none 0 0, .slice none 0 0, .slice none 0 0] 66)).alloc (.cells #[.pointer (some ⟨w.heap.size + 1,0,none⟩)] 63)).heap.size = w.heap.size + 3 := by simp
 have k0: (((w.alloc (.cells #[.func (.func g) #[] cap] 70)).alloc (.cells #[.pointer (some ⟨t,0,none⟩), .int .i64 (r: Int), .int .i64 (h: Int), .int .i64 (l: Int), .slice none 0 0, .slice none 0 0, .slice none 0 0] 66)).alloc (.cells #[.pointer (some ⟨w.heap.size + 1,0,none⟩)] 63)).cell? ⟨w.heap.size,0,none⟩ = some (.func (.func g) #[] cap) := by simp [go_sem]
 have k1: EdC (((w.alloc (.cells #[.func (.func g) #[] cap] 70)).alloc (.cells #[.pointer (some ⟨t,0,none⟩), .int .i64 (r: Int), .int .i64 (h: Int), .int .i64 (l: Int), .slice none 0 0, .slice none 0 0, .slice none 0 0] 66)).alloc (.cells #[.pointer (some ⟨w.heap.size + 1,0,none⟩)] 63)) (w.heap.size + 1) t r h l (.slice none 0 0) (.slice none 0 0) (.slice none 0 0) := by
  have h1 := heap_alloc_new (w.alloc (.cells #[.func (.func g) #[] cap] 70)) (.cells #[.pointer (some ⟨t,0,none⟩), .int .i64 (r: Int), .int .i64 (h: Int), .int .i64 (l: Int), .slice none 0 0, .slice none 0 0, .slice none 0 0] 66)
  rw [show (w.alloc (.cells #[.func (.func g) #[] cap] 70)).heap.size = w.heap.size + 1 by simp] at h1
  exact ((tbelow _ _).block _ (by simp)).trans h1
 have k2: (((w.alloc (.cells #[.func (.func g) #[] cap] 70)).alloc (.cells #[.pointer (some ⟨t,0,none⟩), .int .i64 (r: Int), .int .i64 (h: Int), .int .i64 (l: Int), .slice none 0 0, .slice none 0 0, .slice none 0 0] 66)).alloc (.cells #[.pointer (some ⟨w.heap.size + 1,0,none⟩)] 63)).cell? ⟨w.heap.size + 1 + 1,0,none⟩ = some (.pointer (some ⟨w.heap.size + 1,0,none⟩)) := by simp [go_sem]
 have HB3 := thid B3
 have HK1 := thid k1
 clear B3 k1 c0 c1 c2 c3 ct cf hmf
 generalize ((w.alloc (.cells #[.func (.func g) #[] cap] 70)).alloc (.cells #[.pointer (some ⟨t,0,none⟩), .int .i64 (r: Int), .int .i64 (h: Int), .int .i64 (l: Int), .slice none 0 0, .slice none 0 0, .slice none 0 0] 66)).alloc (.cells #[.pointer (some ⟨w.heap.size + 1,0,none⟩)] 63) = W at *
 have HU := thid (L1.below_catchW W: Below W.heap.size W (undoW W))
 have zu: (undoW W).heap.size = w.heap.size + 6 := by simp [z3]
 have HBU := thid (HB3.out.trans (HU.out.mono HB3.out.size))
 have HE: Hid (Es (w.heap.size + 6) s t (w.heap.size + 1) r h l r h l (.slice none 0 0) (.slice none 0 0) (.slice none 0 0) [] [] [] (undoW W)) :=
  ⟨L4.arSt.below HA.out HBU.out,HT.out.on HBU.out,HK1.out.on HU.out,Nat.le_of_eq zu.symm,⟨rfl,Or.inl ⟨rfl,rfl⟩⟩,⟨rfl,Or.inl ⟨rfl,rfl⟩⟩,⟨rfl,Or.inl ⟨rfl,rfl⟩⟩,fun y hy => by simp at hy,fun y hy => by simp at hy,fun k _ => ⟨by simp [Value.ownBlock],by simp [Value.ownBlock],fun y hy => by simp at hy⟩,fun k hk => by simp [Value.ownBlock] at hk,fun k hk => by simp [Value.ownBlock] at hk⟩
 have HG := thid (HH.out (w.heap.size + 6) (w.heap.size + 1) (undoW W) (by omega) HBU.out HE.out)
 have own_lt: ∀ k,s.own k -> k < w.heap.size := fun k hk => L4.arSt.lt s w k HA.out hk
 have t_lt: t < w.heap.size := (Array.getElem?_eq_some_iff.1 HT.out.blk).1
 have HC := thid (change1_ok (N := w.heap.size + 6) (x := w.heap.size + 1) (w := undoW W) (b0 := w.heap.size) (b2 := w.heap.size + 1 + 1) hg ((HU.out.cell (p := ⟨w.heap.size,0,none⟩) (by show w.heap.size < W.heap.size; omega)).trans k0) ((HU.out.cell (p := ⟨w.heap.size + 1 + 1,0,none⟩) (by show w.heap.size + 1 + 1 < W.heap.size; omega)).trans k2) (fun s' w1 hst => ⟨(hst.only.cell (p := ⟨w.heap.size + 1 + 1,0,none⟩) (by show w.heap.size + 1 + 1 < _; omega) (fun hk => by
  rcases hk with hk | hk | hk | hk
  · have := own_lt (w.heap.size + 1 + 1) hk; omega
  · have hk': w.heap.size + 1 + 1 = t := hk; omega
  · have hk': w.heap.size + 1 + 1 = w.heap.size + 1 := hk; omega
  · have hk': w.heap.size + 6 <= w.heap.size + 1 + 1 := hk; omega)).trans ((HU.out.cell (p := ⟨w.heap.size + 1 + 1,0,none⟩) (by show w.heap.size + 1 + 1 < W.heap.size; omega)).trans k2),by have := hst.only.size; omega⟩) HG.out)
 refine (undo_done 49 (fun _ _ => rfl) _ _ W (fun k => s.own k \/ k = t \/ k = w.heap.size + 1) (fun k hk x => by
  rcases x with x | x | x
  · have := own_lt k x; omega
  · omega
  · omega) (fun w1 => Fin (w.heap.size + 6) s t (w.heap.size + 1) xr xh xl A (undoW W) w1) (HC.out.mono fun e w1 ⟨he,hF⟩ => ⟨he,hF, ?_⟩)).mono ?_
 · obtain ⟨s',_,_,_,_,_,hst⟩ := hF
   exact ⟨hst.only.os,hst.only.tape,hst.only.output,hst.only.size,fun k hk hs => hst.only.block k hk (fun x => by
    rcases x with x | x | x | x
    · exact hs (Or.inl x)
    · exact hs (Or.inr (Or.inl x))
    · exact hs (Or.inr (Or.inr x))
    · omega)⟩
 rintro e w2 ⟨rfl,w1,⟨s',hp,hab,hok,hA1,hT1,hst⟩,ho,hat⟩
 have hS: ∀ k,W.heap.size <= k -> k < W.heap.size + 3 -> ¬ (s.own k \/ k = t \/ k = w.heap.size + 1) := fun k hk _ x => by
  rcases x with x | x | x
  · have := own_lt k x; omega
  · omega
  · omega
 have HF: Hid (∃ s': Ar,s'.p = s.p /\ s'.abs = A /\ s'.abs.Ok /\ ArP s' w2 /\ TrC w2 t s.p xr xh xl /\ Only (fun k => s.own k \/ k = t) w w2 /\ (∀ k,s'.own k -> s.own k \/ w.heap.size <= k)) := by
  refine ⟨s',hp,hab,hok,L4.arSt.keep s' w1 w2 hA1 (fun k hk => hat.block k (L4.arSt.lt _ _ _ hA1 hk) fun x => ?_) (L4.pk_of_only hat fun k hk _ => ?_),⟨(hat.block t (Array.getElem?_eq_some_iff.1 hT1.blk).1 fun x => ?_).trans hT1.blk⟩,⟨?_, ?_, ?_, ?_,fun k hk hs => ?_⟩,fun k hk => ?_⟩
  · rcases hst.own k hk with y | y
    · have := own_lt k y; omega
    · omega
  · obtain ⟨cs,tg,h1,h2⟩ := undoW_tags ho hS k hk
    exact ⟨cs,tg,h1,by rcases h2 with rfl | rfl <;> decide⟩
  · omega
  · rw [hat.os,ho.os,HBU.out.os]
  · rw [hat.tape,ho.tape,HBU.out.tape]
  · rw [hat.output,ho.output,HBU.out.output]
  · have a := hat.size; have b := ho.size; omega
  · have a := ho.size
    rw [hat.block k (by omega) (fun x => by omega),ho.block k (by omega) (fun x => by
     rcases x with x | x | x
     · exact hs (Or.inl x)
     · exact hs (Or.inr x)
     · omega)]
    exact HBU.out.block k hk
  · rcases hst.own k hk with y | y
    · exact Or.inl y
    · exact Or.inr (by omega)
 clear hat ho hst hA1 hT1 HG HC HH HE HBU HU HB3 HK1 k0 k2
 simp only [faultV]
 have ff := fun w => ffield 0 0 w
 go_wp2
 refine bodyPost_ret (v := .int .i64 0) (by simp [results,Tryz.results20,go_sem]) rfl ⟨rfl,HF.out⟩
end Go.Proofs.YtdnkbdjhccckhaaGreat
namespace Go.Proofs.YtdnkbdjhccckhaaGreat
open Go.RowKit
open L4 (Ar ArP Abs arV nv)
def leaf0: L5.No := ⟨true,[],[]⟩
theorem leaf0_small: leaf0.small := ⟨by decide,by decide,fun s hs => by simp [leaf0] at hs⟩
theorem Es.edset {B: Nat} {s: Ar} {t x r h l xr xh xl xr' xh' xl': Nat} {tk ld gn: Value} {T: List Nat} {Ld: List Lay} {G: List Nat} {w W: World} (k: Es B s t x r h l xr xh xl tk ld gn T Ld G w) (hsz: W.heap.size = w.heap.size) (oth: ∀ q,q ≠ x -> W.heap[q]? = w.heap[q]?) (he: EdC W x t xr' xh' xl' tk ld gn): Es B s t x r h l xr' xh' xl' tk ld gn T Ld G W := by
 have row: ∀ {e: TypeId} {m: Nat} {v: Value} {n: Nat} {xs: List Value},w.ownsRow B e m v n xs -> e ≠ 66 -> W.ownsRow B e m v n xs := fun hr he => L5.owns_of_block hr fun q hq => oth q (fun e => row_ne k.ed hr (fun e => he e.symm) (e ▸ hq))
 exact ⟨L4.arSt.keep s w _ k.ar (fun q hq => oth q fun e => not_own k.ar k.ed (by decide) (by decide) (by decide) (e ▸ hq)) (fun q cs hq => oth q (tag_ne hq k.ed (by decide))),⟨(oth t (tag_ne k.tr.blk k.ed (by decide))).trans k.tr.blk⟩,he,by rw [hsz]; exact k.bs,row k.rt (by decide),row k.rl (by decide),row k.rg (by decide),fun y hy => row (k.rr y hy) (by decide),fun y hy => row (k.rk y hy) (by decide),k.a1,k.a2,k.a3⟩
theorem Es.headed {B: Nat} {s: Ar} {t x r h l xr xh xl: Nat} {tk ld gn: Value} {T: List Nat} {Ld: List Lay} {G: List Nat} {w: World} (k: Es B s t x r h l xr xh xl tk ld gn T Ld G w) (xr' xh' xl': Nat) :
 Es B s t x r h l xr' xh' xl' tk ld gn T Ld G (((w.setCell ⟨x,1,none⟩ (.int .i64 (xr': Int))).setCell ⟨x,2,none⟩ (.int .i64 (xh': Int))).setCell ⟨x,3,none⟩ (.int .i64 (xl': Int))) /\ Stp B s s t x w (((w.setCell ⟨x,1,none⟩ (.int .i64 (xr': Int))).setCell ⟨x,2,none⟩ (.int .i64 (xh': Int))).setCell ⟨x,3,none⟩ (.int .i64 (xl': Int))) := by
 have oth: ∀ q,q ≠ x -> (((w.setCell ⟨x,1,none⟩ (.int .i64 (xr': Int))).setCell ⟨x,2,none⟩ (.int .i64 (xh': Int))).setCell ⟨x,3,none⟩ (.int .i64 (xl': Int))).heap[q]? = w.heap[q]? := fun q hq => by
  rw [heap_setCell_other _ _ _ _ hq,heap_setCell_other _ _ _ _ hq,heap_setCell_other _ _ _ _ hq]
 have e1 := heap_setCell_same w x 1 _ _ (.int .i64 (xr': Int)) k.ed
 have e2 := heap_setCell_same _ x 2 _ _ (.int .i64 (xh': Int)) e1
 have e3 := heap_setCell_same _ x 3 _ _ (.int .i64 (xl': Int)) e2
 exact ⟨k.edset (by simp [World.setCell]) oth e3,⟨⟨rfl,rfl,rfl,by simp [World.setCell],fun q _ hn => oth q fun e => hn (Or.inr (Or.inr (Or.inl e)))⟩,fun _ x => Or.inl x⟩⟩
theorem Es.lened {B: Nat} {s: Ar} {t x r h l xr xh xl: Nat} {tk ld gn: Value} {T: List Nat} {Ld: List Lay} {G: List Nat} {w: World} (k: Es B s t x r h l xr xh xl tk ld gn T Ld G w) (xl': Nat) :
 Es B s t x r h l xr xh xl' tk ld gn T Ld G (w.setCell ⟨x,3,none⟩ (.int .i64 (xl': Int))) /\ Stp B s s t x w (w.setCell ⟨x,3,none⟩ (.int .i64 (xl': Int))) := by
 have oth: ∀ q,q ≠ x -> (w.setCell ⟨x,3,none⟩ (.int .i64 (xl': Int))).heap[q]? = w.heap[q]? := fun q hq => heap_setCell_other _ _ _ _ hq
 have e3 := heap_setCell_same _ x 3 _ _ (.int .i64 (xl': Int)) k.ed
 exact ⟨k.edset (by simp [World.setCell]) oth e3,⟨⟨rfl,rfl,rfl,by simp [World.setCell],fun q _ hn => oth q fun e => hn (Or.inr (Or.inr (Or.inl e)))⟩,fun _ x => Or.inl x⟩⟩
theorem new1_ok {N: Nat} {s: Ar} {t x: Nat} {w: World} (k: Es N s t x 0 0 0 0 0 0 (.slice none 0 0) (.slice none 0 0) (.slice none 0 0) [] [] [] w) (ho: s.abs.Ok) (hl: 0 < s.abs.left) :
 Calls Tryz.prog 21 #[.pointer (some ⟨x,0,none⟩)] w fun e w' => e = .returned (.tuple #[]) /\ Done N s t x 0 0 0 s.abs.next 1 0 (s.abs.alloc.lay s.abs.next (some (L5.pageL leaf0.toNd))) w w' := by
 have HT := thid (take_ok k ho hl (by simp))
 clear k
 go_enter Tryz.func21,Tryz.ntmps21
 go_wp2_with fail
 refine HT.out.mono ?_
 rintro e w1 ⟨rfl,s1,tk1,hp1,hab1,hE1,hS1⟩
 have HE1 := thid hE1
 have HS1 := thid hS1
 clear HT hE1 hS1
 obtain ⟨d0,d1,d2,d3,d4,d5,d6,dl,df⟩ := HE1.out.ed.cells
 have f1 := df 1
 have f2 := df 2
 have f3 := df 3
 unfold nv
 obtain ⟨nx,hnx⟩: ∃ nx,Hid (s.abs.next = nx) := ⟨_,rfl⟩
 rw [hnx.out]
 go_wp2_with fail
 obtain ⟨hE2,hS2⟩ := HE1.out.headed nx 1 0
 have HS2 := thid (HS1.out.trans hS2)
 have HP := thid (put_ok hE2 (by simp) (n := leaf0) (at_ := nx) (ra := none) (ka := none) (rc := 0) (kc := 0) ⟨rfl,Or.inl ⟨rfl,rfl⟩⟩ ⟨rfl,Or.inl ⟨rfl,rfl⟩⟩ (fun q _ => by simp [Value.ownBlock]) (fun q _ => by simp [Value.ownBlock]) (fun q _ => by simp [Value.ownBlock]))
 clear hE2 hS2 d0 d1 d2 d3 d4 d5 d6 dl df f1 f2 f3 HE1 HS1
 refine HP.out.mono ?_
 rintro e w3 ⟨rfl,ld3,hE3,hS3⟩
 have HD: Hid (Done N s t x 0 0 0 s.abs.next 1 0 (s.abs.alloc.lay s.abs.next (some (L5.pageL leaf0.toNd))) w w3) := by
  refine ⟨s1,tk1,ld3, .slice none 0 0,_,_,hp1, ?_,by rw [hnx.out]; exact hE3,by simp, ?_, ?_, ?_,HS2.out.trans hS3⟩
  · rw [hab1]; exact (ho.alloc hl).1
  · intro y hy
    have hy': y = ⟨nx,leaf0, .slice none 0 0, .slice none 0 0,0⟩ := by simpa [leaf0] using hy
    subst hy'
    exact ⟨leaf0_small,(by decide: leaf0.shaped = true),(by decide: leaf0.size <= 1024)⟩
  · intro y hy
    have hy': y = ⟨nx,leaf0, .slice none 0 0, .slice none 0 0,0⟩ := by simpa [leaf0] using hy
    subst hy'
    rw [hab1]
    show ∃ c,s.abs.alloc.at (nx: Int) = some c
    rw [<- hnx.out]
    exact ⟨_,(L4.Abs.alloc_used ho).2.2⟩
  · rw [hab1,hnx.out]; rfl
 clear HP HS2 hE3 hS3
 go_wp2
 go_end0
 exact ⟨rfl,HD.out⟩
def TrHas (s: Ar) (t: Nat) (A: Abs) (xr xh xl: Nat) (w w': World): Prop := ∃ s': Ar,s'.p = s.p /\ s'.abs = A /\ s'.abs.Ok /\ ArP s' w' /\ TrC w' t s.p xr xh xl /\ Only (fun k => s.own k \/ k = t) w w' /\ (∀ k,s'.own k -> s.own k \/ w.heap.size <= k)
theorem new_ok {s: Ar} {w: World} (hA: ArP s w) (ho: s.abs.Ok) (hl: 0 < s.abs.left) :
 Calls Tryz.prog 7 #[arV s.p] w fun e w' => e = .returned (.tuple #[.pointer (some ⟨w.heap.size,0,none⟩), .int .i64 0]) /\ TrHas s w.heap.size (s.abs.alloc.lay s.abs.next (some (L5.pageL leaf0.toNd))) s.abs.next 1 0 w w' := by
 have HB := thid (tbelow w (.cells #[.pointer (some ⟨s.p,0,none⟩), .int .i64 0, .int .i64 0, .int .i64 0] 61))
 have HT: Hid (TrC (w.alloc (.cells #[.pointer (some ⟨s.p,0,none⟩), .int .i64 0, .int .i64 0, .int .i64 0] 61)) w.heap.size s.p 0 0 0) := ⟨heap_alloc_new _ _⟩
 have HC := thid (change_ok (L4.arSt.below hA HB.out) HT.out 21 (fun _ _ => rfl) #[] (fun N x W _ _ hE => by simpa using new1_ok hE ho hl))
 have hmf: ∀ (fn: Fn) (first cap: Array Value) (w: World),(Instr.makeFunc fn first cap).run Tryz.prog w = .ok (.func fn first cap) w := fun _ _ _ _ => rfl
 have HA := thid hA
 clear hA
 unfold arV
 go_enter Tryz.func7,Tryz.ntmps7
 go_wp2_with fail
 refine HC.out.mono ?_
 rintro e w1 ⟨rfl,s',hp,hab,hok,hA1,hT1,hon,hown⟩
 have HF: Hid (TrHas s w.heap.size (s.abs.alloc.lay s.abs.next (some (L5.pageL leaf0.toNd))) s.abs.next 1 0 w w1) := by
  refine ⟨s',hp,hab,hok,hA1,hT1, ?_,fun k hk => (hown k hk).imp id fun y => by have := HB.out.size; omega⟩
  exact ⟨hon.os.trans HB.out.os,hon.tape.trans HB.out.tape,hon.output.trans HB.out.output,Nat.le_trans HB.out.size hon.size,fun k hk hs => by
   rw [hon.block k (by have := HB.out.size; omega) hs]
   exact HB.out.block k hk⟩
 clear hA1 hT1 hon hown HC HB HT HA hmf
 go_wp2
 refine bodyPost_ret (v := .tuple #[.pointer (some ⟨w.heap.size,0,none⟩), .int .i64 0]) (by simp [results,Tryz.results7,go_sem]) rfl ⟨rfl,HF.out⟩
theorem append_step {ops: Array Oper} {rest: List Oper} {o: Oper} {a: Act} {Q: Exit -> Act -> World -> Prop} {W1: World} (base: Nat) (hbase: base <= W1.heap.size) (hgd: o.guard = none) (s x: Operand) (ho: o.op = .call { callee := .builtin .append,args := #[s,x],argTypes := #[64,64] })
 (v: Value) (n: Nat) (ys xs: List Value) (hs: a.eval s = v) (h: W1.ownsRow base 104 5 v n ys) (hn: n <= 10000) (ad: Addr) (cap: Nat) (hx: a.eval x = .slice (some ad) 1 cap) (hl: xs.length = 5) (hc: ∀ j u,xs[j]? = some u -> W1.cell? (ad.add j) = some u) (h1: ∀ u ∈ xs,u.oneCell' = true)
 (hK: ∀ v' W',W'.ownsRow base 104 5 v' (n + 1) (ys ++ xs) -> W1.grownBy W' v.ownBlock -> wpList Tryz.prog ops Q rest (a.put o.dst v') W'): wpList Tryz.prog ops Q (o :: rest) a W1 := by
 have hinfo: (Tryz.prog.info? 104).map (fun i => (i.zero,i.size,i.bytes)) = some (some zStep,5,72) := by kernel_rfl
 obtain ⟨i,hi,hz⟩ := Option.map_eq_some_iff.1 hinfo
 simp only [Prod.mk.injEq] at hz
 obtain ⟨h3,h4,h5⟩ := hz
 exact wpList_append_own_at (P := Tryz.prog) W1 hgd s x 64 ho base 104 i zStep 5 72 Tryz.underlying64 hi h3 h4 h5 rfl (by decide) v n ys hs h ad 1 cap xs hx (by omega) hc h1 (by unfold maxLen; omega) (by omega) hbase (fun v' W' hown hg _ _ => hK v' W' hown hg)
end Go.Proofs.YtdnkbdjhccckhaaGreat
