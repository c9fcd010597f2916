import Derived.Test.YtdnkbdjhccckhaaGreatMAN
import Derived.LaidEqlPtr
set_option maxRecDepth 100000
set_option maxHeartbeats 4000000
namespace Go.Proofs.YtdnkbdjhccckhaaGreat.L4
open Go.RowKit
theorem append_row {ops: Array Oper} {rest: List Oper} {o: Oper} {a: Act} {Q: Exit -> Act -> World -> Prop} {W1: World} {t e: TypeId} {z: Value} (ht: Tryz.prog.underlying t = some (.slice e)) (hinfo: (Tryz.prog.info? e).map (fun i => (i.zero,i.size,i.bytes)) = some (some z,1,8)) (hzs: z.cells.size = 1) (base: Nat) (hbase: base <= W1.heap.size) (hgd: o.guard = none) (s x: Operand) (ho: o.op = .call { callee := .builtin .append,args := #[s,x],argTypes := #[t,t] })
 (v: Value) (xs: List Value) (hs: a.eval s = v) (h: W1.ownsRow base e 1 v 0 []) (m: Nat) (hm: m <= 1000000) (ad: Addr) (cap: Nat) (hx: a.eval x = .slice (some ad) m cap) (hl: xs.length = m) (hc: ∀ j u,xs[j]? = some u -> W1.cell? (ad.add j) = some u) (h1: ∀ u ∈ xs,u.oneCell' = true)
 (hK: ∀ v' W',W'.ownsRow base e 1 v' m xs -> W1.grownBy W' v.ownBlock -> wpList Tryz.prog ops Q rest (a.put o.dst v') W'): wpList Tryz.prog ops Q (o :: rest) a W1 := by
 obtain ⟨i,hi,hz⟩ := Option.map_eq_some_iff.1 hinfo
 simp only [Prod.mk.injEq] at hz
 obtain ⟨h3,h4,h5⟩ := hz
 refine wpList_append_own (P := Tryz.prog) W1 hgd s x t ho base e i z 1 8 ht hi h3 h4 h5 hzs (by decide) v 0 [] hs h ad m cap xs hx (by omega) hc h1 (by unfold maxLen; omega) (by omega) hbase (fun v' W' hown hg _ => ?_)
 refine hK v' W' ?_ hg
 simpa using hown
theorem clone_nil_p (w: World): Calls Tryz.prog 56 #[.slice none 0 0] w fun e w' => ∃ v,e = .returned v /\ w'.ownsRow w.heap.size 107 1 v 0 [] /\ Below w.heap.size w w' := by
 have heq: ∀ w: World,(binOp .eql 54 (.slice none 0 0) (.slice none 0 0)).run Tryz.prog w = .ok (.bool true) w := fun w => run_eql_slice_nil w 54 107 none 0 0 Tryz.underlying54
 go_enter Tryz.func56,Tryz.ntmps56
 go_wp2
 go_ret
 exact ⟨_,rfl,World.ownsRow_nil _ _ _ _,Below.refl _ _⟩
theorem clone_some_p {w: World} {b g n cap: Nat} {xs: List Value} (h: w.ownsRow b 107 1 (.slice (some ⟨g,0,none⟩) n cap) n xs) (hn: n <= 1000000) (h1: ∀ u ∈ xs,u.oneCell' = true): Calls Tryz.prog 56 #[.slice (some ⟨g,0,none⟩) n cap] w fun e w' => ∃ v,e = .returned v /\ w'.ownsRow w.heap.size 107 1 v n xs /\ Below w.heap.size w w' := by
 have hl: xs.length = n := by have := h.1; omega
 have HC: Hid (∀ j u,xs[j]? = some u -> (w.alloc (.cells #[] 107)).cell? ((⟨g,0,none⟩: Addr).add j) = some u) := fun j u hj => by
  have := (h.alloc (.cells #[] 107)).cells (g := g) rfl j u hj
  exact this
 have HO: Hid (World.ownsRow (w.alloc (.cells #[] 107)) w.heap.size 107 1 (.slice (some ⟨w.heap.size,0,none⟩) 0 0) 0 []) := by
  have := World.ownsRow_lit (base := w.heap.size) (e := 107) (size := 1) w #[] 0 (Nat.le_refl _) (by unfold maxLen; omega) (by simp)
  exact this
 have heq: ∀ w: World,(binOp .eql 54 (.slice (some ⟨g,0,none⟩) n cap) (.slice none 0 0)).run Tryz.prog w = .ok (.bool false) w := fun w => run_eql_slice_nil w 54 107 (some ⟨g,0,none⟩) n cap Tryz.underlying54
 go_enter Tryz.func56,Tryz.ntmps56
 go_wp2_with (first
  | (at_builtin
     refine append_row (z := .pointer none) Tryz.underlying54 (by kernel_rfl) rfl w.heap.size (by simp) rfl _ _ rfl (.slice (some ⟨w.heap.size,0,none⟩) 0 0) xs rfl HO.out n hn ⟨g,0,none⟩ cap rfl hl HC.out h1 ?_
     intro v' W' hown hg
     have HO2: Hid (W'.ownsRow w.heap.size 107 1 v' n xs) := hown
     have HB: Hid (Below w.heap.size w W') := (below_alloc w _).grown hg (by simp) (fun k hk => by simp [Value.ownBlock] at hk; omega)
     clear hown hg)
  | go_in)
 go_ret
 exact ⟨_,rfl,HO2.out,HB.out⟩
theorem clone_nil_i (w: World): Calls Tryz.prog 57 #[.slice none 0 0] w fun e w' => ∃ v,e = .returned v /\ w'.ownsRow w.heap.size 3 1 v 0 [] /\ Below w.heap.size w w' := by
 have heq: ∀ w: World,(binOp .eql 55 (.slice none 0 0) (.slice none 0 0)).run Tryz.prog w = .ok (.bool true) w := fun w => run_eql_slice_nil w 55 3 none 0 0 Tryz.underlying55
 go_enter Tryz.func57,Tryz.ntmps57
 go_wp2
 go_ret
 exact ⟨_,rfl,World.ownsRow_nil _ _ _ _,Below.refl _ _⟩
theorem clone_some_i {w: World} {b g n cap: Nat} {xs: List Value} (h: w.ownsRow b 3 1 (.slice (some ⟨g,0,none⟩) n cap) n xs) (hn: n <= 1000000) (h1: ∀ u ∈ xs,u.oneCell' = true): Calls Tryz.prog 57 #[.slice (some ⟨g,0,none⟩) n cap] w fun e w' => ∃ v,e = .returned v /\ w'.ownsRow w.heap.size 3 1 v n xs /\ Below w.heap.size w w' := by
 have hl: xs.length = n := by have := h.1; omega
 have HC: Hid (∀ j u,xs[j]? = some u -> (w.alloc (.cells #[] 3)).cell? ((⟨g,0,none⟩: Addr).add j) = some u) := fun j u hj => by
  have := (h.alloc (.cells #[] 3)).cells (g := g) rfl j u hj
  exact this
 have HO: Hid (World.ownsRow (w.alloc (.cells #[] 3)) w.heap.size 3 1 (.slice (some ⟨w.heap.size,0,none⟩) 0 0) 0 []) := by
  have := World.ownsRow_lit (base := w.heap.size) (e := 3) (size := 1) w #[] 0 (Nat.le_refl _) (by unfold maxLen; omega) (by simp)
  exact this
 have heq: ∀ w: World,(binOp .eql 55 (.slice (some ⟨g,0,none⟩) n cap) (.slice none 0 0)).run Tryz.prog w = .ok (.bool false) w := fun w => run_eql_slice_nil w 55 3 (some ⟨g,0,none⟩) n cap Tryz.underlying55
 go_enter Tryz.func57,Tryz.ntmps57
 go_wp2_with (first
  | (at_builtin
     refine append_row (z := .int .i64 0) Tryz.underlying55 (by kernel_rfl) rfl w.heap.size (by simp) rfl _ _ rfl (.slice (some ⟨w.heap.size,0,none⟩) 0 0) xs rfl HO.out n hn ⟨g,0,none⟩ cap rfl hl HC.out h1 ?_
     intro v' W' hown hg
     have HO2: Hid (W'.ownsRow w.heap.size 3 1 v' n xs) := hown
     have HB: Hid (Below w.heap.size w W') := (below_alloc w _).grown hg (by simp) (fun k hk => by simp [Value.ownBlock] at hk; omega)
     clear hown hg)
  | go_in)
 go_ret
 exact ⟨_,rfl,HO2.out,HB.out⟩
theorem clone_p {w: World} {v: Value} {n: Nat} {xs: List Value} (h: w.ownsRow 0 107 1 v n xs) (hn: n <= 1000000) (h1: ∀ u ∈ xs,u.oneCell' = true): Calls Tryz.prog 56 #[v] w fun e w' => ∃ v',e = .returned v' /\ w'.ownsRow w.heap.size 107 1 v' n xs /\ Below w.heap.size w w' := by
 rcases h.2 with ⟨rfl,rfl⟩ | ⟨g,cap,cur,rfl,_⟩
 · have hx: xs = [] := List.eq_nil_of_length_eq_zero (by simpa using h.1)
   subst hx
   exact clone_nil_p w
 · exact clone_some_p h hn h1
theorem clone_i {w: World} {v: Value} {n: Nat} {xs: List Value} (h: w.ownsRow 0 3 1 v n xs) (hn: n <= 1000000) (h1: ∀ u ∈ xs,u.oneCell' = true): Calls Tryz.prog 57 #[v] w fun e w' => ∃ v',e = .returned v' /\ w'.ownsRow w.heap.size 3 1 v' n xs /\ Below w.heap.size w w' := by
 rcases h.2 with ⟨rfl,rfl⟩ | ⟨g,cap,cur,rfl,_⟩
 · have hx: xs = [] := List.eq_nil_of_length_eq_zero (by simpa using h.1)
   subst hx
   exact clone_nil_i w
 · exact clone_some_i h hn h1
theorem one_pgv (l: List (Option (Nat × List UInt8))): ∀ u ∈ l.map pgv,u.oneCell' = true := by
 intro u hu
 obtain ⟨x,_,rfl⟩ := List.mem_map.1 hu
 cases x <;> rfl
theorem one_nv (l: List Nat): ∀ u ∈ l.map nv,u.oneCell' = true := by
 intro u hu
 obtain ⟨x,_,rfl⟩ := List.mem_map.1 hu
 rfl
def Copied (w: World) (pg: List (Option (Nat × List UInt8))) (fr: List Nat) (vp vf: Value) (w': World): Prop := w'.ownsRow w.heap.size 107 1 vp pg.length (pg.map pgv) /\ w'.ownsRow w.heap.size 3 1 vf fr.length (fr.map nv) /\ Below w.heap.size w w'
theorem owns_below {b: Nat} {W W': World} {e: TypeId} {v: Value} {n: Nat} {xs: List Value} (h: W.ownsRow b e 1 v n xs) (hb: Below W.heap.size W W'): W'.ownsRow b e 1 v n xs :=
 owns_of_block h fun k hk => hb.block k (h.lt k hk).2
theorem owns_base {b b': Nat} {W: World} {e: TypeId} {v: Value} {n: Nat} {xs: List Value} (h: W.ownsRow b e 1 v n xs) (hb: b' <= b): W.ownsRow b' e 1 v n xs := by
 refine ⟨h.1, ?_⟩
 rcases h.2 with hn | ⟨g,cap,cur,rfl,h1,rest⟩
 · exact .inl hn
 · exact .inr ⟨g,cap,cur,rfl,by omega,rest⟩
theorem bcell1 {W w1: World} {n: Nat} (hb: Below W.heap.size W w1) (hn: W.heap.size = n): (∀ b o,b < n -> w1.cell? ⟨b,o,none⟩ = W.cell? ⟨b,o,none⟩) /\ (∀ b o,b < n -> w1.frozen? ⟨b,o,none⟩ = W.frozen? ⟨b,o,none⟩) := by
 subst hn
 exact ⟨fun b o h => hb.cell (p := ⟨b,o,none⟩) h,fun b o h => hb.frozen (p := ⟨b,o,none⟩) h⟩
theorem copied_end {w w2: World} {pg: List (Option (Nat × List UInt8))} {fr: List Nat} {v1 v2 u1 u2: Value} (hb: w2.heap[w.heap.size]? = some (.cells #[u1,u2] 57 (0,0))) (h1: w2.ownsRow w.heap.size 107 1 v1 pg.length (pg.map pgv)) (h2: w2.ownsRow w.heap.size 3 1 v2 fr.length (fr.map nv)) (hB: Below w.heap.size w w2) :
 ((w2.setCell ⟨w.heap.size,0,none⟩ v1).setCell ⟨w.heap.size,1,none⟩ v2).cell? ⟨w.heap.size,0,none⟩ = some v1 /\ ((w2.setCell ⟨w.heap.size,0,none⟩ v1).setCell ⟨w.heap.size,1,none⟩ v2).cell? ⟨w.heap.size,1,none⟩ = some v2 /\ Copied w pg fr v1 v2 ((w2.setCell ⟨w.heap.size,0,none⟩ v1).setCell ⟨w.heap.size,1,none⟩ v2) := by
 have b1 := heap_setCell_same w2 w.heap.size 0 _ _ v1 hb
 have b2 := heap_setCell_same _ w.heap.size 1 _ _ v2 b1
 have hne: ∀ (k: Nat) (cur: Array Value) (t: TypeId),w2.heap[k]? = some (Obj.cells cur t (0,0)) -> t ≠ 57 -> ((w2.setCell ⟨w.heap.size,0,none⟩ v1).setCell ⟨w.heap.size,1,none⟩ v2).heap[k]? = w2.heap[k]? := fun k cur t hk ht => by
  have hk': k ≠ w.heap.size := fun e => by
   rw [e,hb] at hk
   simp only [Option.some.injEq,Obj.cells.injEq] at hk
   exact ht hk.2.1.symm
  rw [heap_setCell_other _ _ _ _ hk',heap_setCell_other _ _ _ _ hk']
 refine ⟨by rw [cell_of_row _ _ _ _ _ _ b2]; rfl,by rw [cell_of_row _ _ _ _ _ _ b2]; rfl,owns_of_block h1 fun k hk => ?_,owns_of_block h2 fun k hk => ?_,(hB.setCell (Nat.le_refl _) _).setCell (Nat.le_refl _) _⟩
 · obtain ⟨cur,h⟩ := owns_tag h1 hk
   exact hne k _ _ h (by decide)
 · obtain ⟨cur,h⟩ := owns_tag h2 hk
   exact hne k _ _ h (by decide)
theorem copied_walk {w: World} {q: Nat} {vp vf: Value} {pg: List (Option (Nat × List UInt8))} {fr: List Nat} (hq: q < w.heap.size) (c0: w.cell? ⟨q,0,none⟩ = some vp) (c1: w.cell? ⟨q,1,none⟩ = some vf) (rp: w.ownsRow 0 107 1 vp pg.length (pg.map pgv)) (rf: w.ownsRow 0 3 1 vf fr.length (fr.map nv)) (h1: pg.length <= 4096) (h2: fr.length <= 4096) :
 Calls Tryz.prog 30 #[.pointer (some ⟨q,0,none⟩)] w fun e w' => ∃ vp' vf',e = .returned (.agg #[vp',vf']) /\ Copied w pg fr vp' vf' w' := by
 have HP: Hid (∀ w': World,Below w.heap.size w w' -> Calls Tryz.prog 56 #[vp] w' fun e w'' => ∃ v',e = .returned v' /\ w''.ownsRow w.heap.size 107 1 v' pg.length (pg.map pgv) /\ Below w'.heap.size w' w'') := fun w' hb => (clone_p (owns_below rp hb) (by omega) (one_pgv pg)).mono fun _ _ ⟨v,he,h1,h2⟩ => ⟨v,he,owns_base h1 hb.size,h2⟩
 have HI: Hid (∀ w': World,Below w.heap.size w w' -> Calls Tryz.prog 57 #[vf] w' fun e w'' => ∃ v',e = .returned v' /\ w''.ownsRow w.heap.size 3 1 v' fr.length (fr.map nv) /\ Below w'.heap.size w' w'') := fun w' hb => (clone_i (owns_below rf hb) (by omega) (one_nv fr)).mono fun _ _ ⟨v,he,h1,h2⟩ => ⟨v,he,owns_base h1 hb.size,h2⟩
 clear rp rf h1 h2
 go_enter Tryz.func30,Tryz.ntmps30
 go_wp2_with fail
 have hB0: Below w.heap.size w (w.alloc (.cells #[.slice none 0 0, .slice none 0 0] 57)).drew := (below_alloc _ _).drew
 have hsz: (w.alloc (.cells #[.slice none 0 0, .slice none 0 0] 57)).drew.heap.size = w.heap.size + 1 := by simp
 have d0: (w.alloc (.cells #[.slice none 0 0, .slice none 0 0] 57)).drew.cell? ⟨q,0,none⟩ = some vp := by rw [hB0.cell hq]; exact c0
 have d1: (w.alloc (.cells #[.slice none 0 0, .slice none 0 0] 57)).drew.cell? ⟨q,1,none⟩ = some vf := by rw [hB0.cell hq]; exact c1
 have hq1: q < w.heap.size + 1 := by omega
 have hset: ∀ (W: World) (o: Nat) (u: Value) (o': Nat),(W.setCell ⟨w.heap.size,o,none⟩ u).cell? ⟨q,o',none⟩ = W.cell? ⟨q,o',none⟩ := fun W o u o' => World.cell?_of_block (heap_setCell_other _ _ _ _ (by show q ≠ w.heap.size; omega))
 go_region_held (fun w' => w'.cell? ⟨q,0,none⟩ = some vp /\ w'.cell? ⟨q,1,none⟩ = some vf) (simp [*]) (first
  | (go_at_call 56; refine (HP.out _ hB0).mono ?_; rintro e w1 ⟨v1,rfl,ho1,hb1⟩; obtain ⟨x1,k1,rfl,_⟩ := owns_slice ho1; have HO1: Hid (w1.ownsRow w.heap.size 107 1 (.slice x1 pg.length k1) pg.length (pg.map pgv)) := ho1; clear ho1; obtain ⟨hc1,hf1⟩ := bcell1 hb1 hsz)
  | (go_at_call 57; refine (HI.out _ (hB0.trans (hb1.mono hB0.size))).mono ?_; rintro e w2 ⟨v2,rfl,ho2,hb2⟩; obtain ⟨x2,k2,rfl,_⟩ := owns_slice ho2; have HO2: Hid (w2.ownsRow w.heap.size 3 1 (.slice x2 fr.length k2) fr.length (fr.map nv)) := ho2; clear ho2; obtain ⟨hc2,hf2⟩ := bcell1 hb2 rfl; have hq2: q < w1.heap.size := (by have := hb1.size; omega); have hr2: w.heap.size < w1.heap.size := (by have := hb1.size; omega)))
 have hblk: w2.heap[w.heap.size]? = some (.cells #[.slice none 0 0, .slice none 0 0] 57 (0,0)) := by
  rw [hb2.block _ hr2,hb1.block _ (by rw [hsz]; omega)]
  exact heap_alloc_new _ _
 obtain ⟨e0,e1,hcop⟩ := copied_end (w := w) (w2 := w2) hblk (owns_below HO1.out hb2) HO2.out (hB0.trans ((hb1.trans (hb2.mono hb1.size)).mono hB0.size))
 have HC: Hid _ := hcop
 clear hblk hcop hr2 hq2 hf2 hc2 HO2 hb2 hf1 hc1 HO1 hb1 hset hq1 d1 d0 hsz hB0 HP HI c0 c1 hq
 generalize (w2.setCell ⟨w.heap.size,0,none⟩ (.slice x1 pg.length k1)).setCell ⟨w.heap.size,1,none⟩ (.slice x2 fr.length k2) = W3 at *
 go_wp2
 refine bodyPost_ret (v := .agg #[.slice x1 pg.length k1, .slice x2 fr.length k2]) ?_ rfl ?_
 · simp [results,Tryz.results30,go_sem,e0,e1]
 · exact ⟨_,_,rfl,HC.out⟩
structure Sn where
 pb: Nat
 vp: Value
 vf: Value
 pg: List (Option (Nat × List UInt8))
 fr: List Nat
structure SnP (n: Sn) (W: World): Prop where
 blk: W.heap[n.pb]? = some (.cells #[n.vp,n.vf] 57 (0,0))
 rp: W.ownsRow 0 107 1 n.vp n.pg.length (n.pg.map pgv)
 rf: W.ownsRow 0 3 1 n.vf n.fr.length (n.fr.map nv)
 pgs: ∀ b c,some (b,c) ∈ n.pg -> W.heap[b]? = some (.cells (bcs c).toArray 109 (0,0))
def Sn.own (n: Sn) (k: Nat): Prop := k = n.pb \/ n.vp.ownBlock = some k \/ n.vf.ownBlock = some k
theorem SnP.keep {n: Sn} {w w': World} (h: SnP n w) (hk: ∀ k,n.own k -> w'.heap[k]? = w.heap[k]?) (hp: Pk w w'): SnP n w' :=
 ⟨(hk _ (Or.inl rfl)).trans h.blk,owns_of_block h.rp fun k x => hk k (Or.inr (Or.inl x)),owns_of_block h.rf fun k x => hk k (Or.inr (Or.inr x)),fun b c x => (hp b _ (h.pgs b c x)).trans (h.pgs b c x)⟩
theorem SnP.lt {n: Sn} {w: World} (h: SnP n w) {k: Nat} (hk: n.own k): k < w.heap.size := by
 rcases hk with rfl | hk | hk
 · exact (Array.getElem?_eq_some_iff.1 h.blk).1
 · exact (h.rp.lt k hk).2
 · exact (h.rf.lt k hk).2
theorem snap_end {s: Ar} {w w1: World} (h: ArP s w) {v1 v2 u x1 x2: Value} {o: Obj} (C1: w1.ownsRow (w.alloc o).heap.size 107 1 v1 s.pg.length (s.pg.map pgv)) (C2: w1.ownsRow (w.alloc o).heap.size 3 1 v2 s.fr.length (s.fr.map nv)) (C3: Below (w.alloc o).heap.size (w.alloc o) w1) (hb: w1.heap[w.heap.size]? = some (.cells #[x1,x2] 44 (0,0))) :
 (((w1.setCell ⟨w.heap.size,0,none⟩ u).setCell ⟨w.heap.size,1,none⟩ (.pointer (some ⟨w1.heap.size,0,none⟩))).alloc (.cells #[v1,v2] 57)).cell? ⟨w.heap.size,0,none⟩ = some u /\ (((w1.setCell ⟨w.heap.size,0,none⟩ u).setCell ⟨w.heap.size,1,none⟩ (.pointer (some ⟨w1.heap.size,0,none⟩))).alloc (.cells #[v1,v2] 57)).cell? ⟨w.heap.size,1,none⟩ = some (.pointer (some ⟨w1.heap.size,0,none⟩)) /\
 SnP ⟨w1.heap.size,v1,v2,s.pg,s.fr⟩ (((w1.setCell ⟨w.heap.size,0,none⟩ u).setCell ⟨w.heap.size,1,none⟩ (.pointer (some ⟨w1.heap.size,0,none⟩))).alloc (.cells #[v1,v2] 57)) /\ Below w.heap.size w (((w1.setCell ⟨w.heap.size,0,none⟩ u).setCell ⟨w.heap.size,1,none⟩ (.pointer (some ⟨w1.heap.size,0,none⟩))).alloc (.cells #[v1,v2] 57)) /\ ∀ k,Sn.own ⟨w1.heap.size,v1,v2,s.pg,s.fr⟩ k -> w.heap.size <= k := by
 have b1 := heap_setCell_same w1 w.heap.size 0 _ _ u hb
 have b2 := heap_setCell_same _ w.heap.size 1 _ _ (.pointer (some ⟨w1.heap.size,0,none⟩)) b1
 have hlt: w.heap.size < w1.heap.size := (Array.getElem?_eq_some_iff.1 hb).1
 have hsz: ((w1.setCell ⟨w.heap.size,0,none⟩ u).setCell ⟨w.heap.size,1,none⟩ (.pointer (some ⟨w1.heap.size,0,none⟩))).heap.size = w1.heap.size := by simp [World.setCell]
 have B: Below w.heap.size w ((w1.setCell ⟨w.heap.size,0,none⟩ u).setCell ⟨w.heap.size,1,none⟩ (.pointer (some ⟨w1.heap.size,0,none⟩))) := ((below_on (below_alloc w o) C3).setCell (Nat.le_refl _) _).setCell (Nat.le_refl _) _
 have hne: ∀ (k: Nat) (cur: Array Value) (t: TypeId),w1.heap[k]? = some (Obj.cells cur t (0,0)) -> t ≠ 44 -> ((w1.setCell ⟨w.heap.size,0,none⟩ u).setCell ⟨w.heap.size,1,none⟩ (.pointer (some ⟨w1.heap.size,0,none⟩))).heap[k]? = w1.heap[k]? := fun k cur t hk ht => by
  have hk': k ≠ w.heap.size := fun e => by
   rw [e,hb] at hk
   simp only [Option.some.injEq,Obj.cells.injEq] at hk
   exact ht hk.2.1.symm
  rw [heap_setCell_other _ _ _ _ hk',heap_setCell_other _ _ _ _ hk']
 generalize ((w1.setCell ⟨w.heap.size,0,none⟩ u).setCell ⟨w.heap.size,1,none⟩ (.pointer (some ⟨w1.heap.size,0,none⟩))) = W3 at *
 have b3: (W3.alloc (.cells #[v1,v2] 57)).heap[w.heap.size]? = some (.cells #[u, .pointer (some ⟨w1.heap.size,0,none⟩)] 44 (0,0)) := by
  rw [heap_alloc_old _ _ (by omega)]
  exact b2
 have hle: (w.alloc o).heap.size = w.heap.size + 1 := by simp
 refine ⟨by rw [cell_of_row _ _ _ _ _ _ b3]; rfl,by rw [cell_of_row _ _ _ _ _ _ b3]; rfl,⟨?_, ?_, ?_, ?_⟩,below_on B (below_alloc _ _), ?_⟩
 · show (W3.alloc _).heap[w1.heap.size]? = _
   rw [<- hsz]
   exact heap_alloc_new _ _
 · refine owns_base (owns_of_block C1 fun k hk => ?_) (Nat.zero_le _)
   obtain ⟨cur,h⟩ := owns_tag C1 hk
   rw [heap_alloc_old _ _ (by rw [hsz]; exact (C1.lt k hk).2)]
   exact hne k _ _ h (by decide)
 · refine owns_base (owns_of_block C2 fun k hk => ?_) (Nat.zero_le _)
   obtain ⟨cur,h⟩ := owns_tag C2 hk
   rw [heap_alloc_old _ _ (by rw [hsz]; exact (C2.lt k hk).2)]
   exact hne k _ _ h (by decide)
 · intro b c hbc
   have h1 := h.pgs b c hbc
   have h2 := (Array.getElem?_eq_some_iff.1 h1).1
   exact ((below_on B (below_alloc _ _)).block b h2).trans h1
 · rintro k (rfl | hk | hk)
   · exact Nat.le_of_lt hlt
   · have := (C1.lt k hk).1; omega
   · have := (C2.lt k hk).1; omega
theorem snap_walk {s: Ar} {w: World} (h: ArP s w) (ho: s.abs.Ok): Calls Tryz.prog 10 #[arV s.p] w fun e w' => ∃ n,e = .returned (.agg #[arV s.p, .pointer (some ⟨n.pb,0,none⟩)]) /\ SnP n w' /\ n.pg = s.pg /\ n.fr = s.fr /\ Below w.heap.size w w' /\ ∀ k,n.own k -> w.heap.size <= k := by
 have hs: s.pg.length <= 4096 := small_of ho
 have hle: s.fr.length <= s.pg.length := by simpa [Ar.abs] using ho.le
 have HH: Hid (ArP s w) := h
 clear h ho
 go_enter Tryz.func10,Tryz.ntmps10
 unfold arV
 go_wp2_with fail
 have H1: ArP s (w.alloc (.cells #[.pointer none, .pointer none] 44)) := arSt.below HH.out (below_alloc _ _)
 obtain ⟨c0,c1,_,hp,_⟩ := H1.cell
 refine (copied_walk hp c0 c1 H1.rp H1.rf (by omega) (by omega)).mono ?_
 rintro e w1 ⟨vp',vf',rfl,C1,C2,C3⟩
 obtain ⟨a1,k1,rfl,_⟩ := owns_slice C1
 obtain ⟨a2,k2,rfl,_⟩ := owns_slice C2
 have hblk: w1.heap[w.heap.size]? = some (.cells #[.pointer none, .pointer none] 44 (0,0)) := by
  rw [C3.block _ (by simp)]
  exact heap_alloc_new _ _
 have hlt: w.heap.size < w1.heap.size := (Array.getElem?_eq_some_iff.1 hblk).1
 have f0: w1.cell? ⟨w.heap.size,0,none⟩ = some (.pointer none) := by rw [cell_of_row _ _ _ _ _ _ hblk]; rfl
 have f1: w1.cell? ⟨w.heap.size,1,none⟩ = some (.pointer none) := by rw [cell_of_row _ _ _ _ _ _ hblk]; rfl
 have ff: ∀ j,w1.frozen? ⟨w.heap.size,j,none⟩ = false := fun j => frozen_of_row _ _ _ _ _ hblk
 have HC1: Hid _ := C1
 have HC2: Hid _ := C2
 have HC3: Hid _ := C3
 have HBK: Hid (w1.heap[w.heap.size]? = some (.cells #[.pointer none, .pointer none] 44 (0,0))) := hblk
 clear C1 C2 C3 c0 c1 hp H1 hblk
 go_wp2
 obtain ⟨e0,e1,E⟩ := snap_end (u := .pointer (some ⟨s.p,0,none⟩)) HH.out HC1.out HC2.out HC3.out HBK.out
 have HE: Hid _ := E
 clear E f0 f1 ff HC1 HC2 HC3 HBK
 generalize ((w1.setCell ⟨w.heap.size,0,none⟩ (.pointer (some ⟨s.p,0,none⟩))).setCell ⟨w.heap.size,1,none⟩ (.pointer (some ⟨w1.heap.size,0,none⟩))).alloc (.cells #[.slice a1 s.pg.length k1, .slice a2 s.fr.length k2] 57) = W4 at *
 refine bodyPost_ret (v := .agg #[.pointer (some ⟨s.p,0,none⟩), .pointer (some ⟨w1.heap.size,0,none⟩)]) ?_ rfl ?_
 · simp [results,Tryz.results10,go_sem,e0,e1]
 · exact ⟨_,rfl,HE.out.1,rfl,rfl,HE.out.2⟩
theorem info_arena: ∃ j,Tryz.prog.info? 59 = some j /\ j.size = 3 :=
 Option.map_eq_some_iff.1 (show (Tryz.prog.info? 59).map (fun i => i.size) = some 3 by kernel_rfl)
theorem neq_same (w: World) (a: Addr): (binOp .neq 25 (.pointer (some a)) (.pointer (some a))).run Tryz.prog w = .ok (.bool false) w := by
 obtain ⟨j,hj,_⟩ := info_arena
 have h: ∀ d: Nat,(Op.equalIn (d + 1) 25 (.pointer (some a)) (.pointer (some a))).run Tryz.prog w = .ok true w := fun d => by
  simp [Op.equalIn,run_underlying Tryz.underlying25,sizeOf,typeInfo,hj,run_sameAddr_same]
 simp only [binOp]
 simp [Op.equal,Op.maxDepth,h 9999]
theorem restore_end {s: Ar} {n: Sn} {w w1: World} (h: ArP s w1) (hb: Below w.heap.size w w1) (hn: SnP n w1) {v1 v2: Value} (C1: w1.ownsRow w.heap.size 107 1 v1 n.pg.length (n.pg.map pgv)) (C2: w1.ownsRow w.heap.size 3 1 v2 n.fr.length (n.fr.map nv)) :
 Goes s w ⟨n.pg.map (Option.map Prod.snd),n.fr,s.q⟩ ((w1.setCell ⟨s.p,0,none⟩ v1).setCell ⟨s.p,1,none⟩ v2) := by
 have b1 := heap_setCell_same w1 s.p 0 _ _ v1 h.blk
 have b2 := heap_setCell_same _ s.p 1 _ _ v2 b1
 have hne: ∀ (k: Nat) (cur: Array Value) (t: TypeId),w1.heap[k]? = some (Obj.cells cur t (0,0)) -> t ≠ 59 -> ((w1.setCell ⟨s.p,0,none⟩ v1).setCell ⟨s.p,1,none⟩ v2).heap[k]? = w1.heap[k]? := fun k cur t hk ht => by
  have hk': k ≠ s.p := fun e => by
   rw [e,h.blk] at hk
   simp only [Option.some.injEq,Obj.cells.injEq] at hk
   exact ht hk.2.1.symm
  rw [heap_setCell_other _ _ _ _ hk',heap_setCell_other _ _ _ _ hk']
 refine ⟨{ s with vp := v1,vf := v2,pg := n.pg,fr := n.fr },⟨b2, ?_, ?_, ?_⟩,rfl,rfl, ?_, ?_⟩
 · refine owns_base (owns_of_block C1 fun k hk => ?_) (Nat.zero_le _)
   obtain ⟨cur,h⟩ := owns_tag C1 hk
   exact hne k _ _ h (by decide)
 · refine owns_base (owns_of_block C2 fun k hk => ?_) (Nat.zero_le _)
   obtain ⟨cur,h⟩ := owns_tag C2 hk
   exact hne k _ _ h (by decide)
 · intro b c hbc
   have h1 := hn.pgs b c hbc
   exact (hne b _ _ h1 (by decide)).trans h1
 · exact ((Only.of_below (S := s.own) hb).setCell (Or.inr (Or.inl rfl)) _).setCell (Or.inr (Or.inl rfl)) _
 · rintro k (rfl | hk | hk)
   · exact Or.inl (Or.inl rfl)
   · exact Or.inr (C1.lt k hk).1
   · exact Or.inr (C2.lt k hk).1
theorem restore_ok {s: Ar} {n: Sn} {w: World} (h: ArP s w) (hn: SnP n w) (h1: n.pg.length <= 4096) (h2: n.fr.length <= 4096): Calls Tryz.prog 11 #[arV s.p, .agg #[arV s.p, .pointer (some ⟨n.pb,0,none⟩)]] w fun e w' => e = .returned (.int .i64 0) /\ Goes s w ⟨n.pg.map (Option.map Prod.snd),n.fr,s.q⟩ w' := by
 have HH: Hid (ArP s w) := h
 have HN: Hid (SnP n w) := hn
 clear h hn
 unfold arV
 have hq := neq_same
 go_enter Tryz.func11,Tryz.ntmps11
 go_wp2_with fail
 obtain ⟨W0,hW0⟩: ∃ W0,Hid (W0 = w.alloc (.cells #[.pointer (some ⟨s.p,0,none⟩), .pointer (some ⟨n.pb,0,none⟩)] 44)) := ⟨_,rfl⟩
 rw [<- hW0.out]
 have hb0: Below w.heap.size w W0 := by rw [hW0.out]; exact below_alloc _ _
 have N0: SnP n W0 := HN.out.keep (fun k hk => hb0.block k (HN.out.lt hk)) (Pk.of_below hb0)
 have c0: W0.cell? ⟨n.pb,0,none⟩ = some n.vp := by rw [cell_of_row _ _ _ _ _ _ N0.blk]; rfl
 have c1: W0.cell? ⟨n.pb,1,none⟩ = some n.vf := by rw [cell_of_row _ _ _ _ _ _ N0.blk]; rfl
 refine (copied_walk (N0.lt (Or.inl rfl)) c0 c1 N0.rp N0.rf h1 h2).mono ?_
 rintro e w1 ⟨vp',vf',rfl,C1,C2,C3⟩
 obtain ⟨a1,k1,rfl,_⟩ := owns_slice C1
 obtain ⟨a2,k2,rfl,_⟩ := owns_slice C2
 have B1 := below_on hb0 C3
 have A1: ArP s w1 := arSt.below HH.out B1
 have N1: SnP n w1 := HN.out.keep (fun k hk => B1.block k (HN.out.lt hk)) (Pk.of_below B1)
 obtain ⟨d0,d1,_,hp,hf⟩ := A1.cell
 obtain ⟨⟨_,_,e1⟩,_,_,e2⟩ := owns_ints A1
 rw [e1] at d0
 rw [e2] at d1
 have HE: Hid (Goes s w ⟨n.pg.map (Option.map Prod.snd),n.fr,s.q⟩ ((w1.setCell ⟨s.p,0,none⟩ (.slice a1 n.pg.length k1)).setCell ⟨s.p,1,none⟩ (.slice a2 n.fr.length k2))) := restore_end A1 B1 N1 (owns_base C1 hb0.size) (owns_base C2 hb0.size)
 clear C1 C2 C3 c0 c1 N0 N1 A1 B1 hb0 e1 e2 hq
 go_wp2
 go_ret
 exact ⟨rfl,HE.out⟩
end Go.Proofs.YtdnkbdjhccckhaaGreat.L4
