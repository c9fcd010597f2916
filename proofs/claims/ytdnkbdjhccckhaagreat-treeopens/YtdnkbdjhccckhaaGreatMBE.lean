import Derived.Test.YtdnkbdjhccckhaaGreatMAX
import Derived.Test.YtdnkbdjhccckhaaGreatMAZ
import Derived.Test.YtdnkbdjhccckhaaGreatMBC
import Derived.Test.YtdnkbdjhccckhaaGreatMBD
set_option maxRecDepth 100000
set_option maxHeartbeats 4000000
namespace Go.Proofs.YtdnkbdjhccckhaaGreat
open Go.RowKit
open L4 (Ar ArP Abs arV nv)
structure UpS (N: Nat) (w: World) (g off: Nat) (cs: Array Value) (u: Pl) (vr vk: Value): Prop where
 blk: w.heap[g]? = some (.cells cs 104 (0,0))
 c0: cs[off]? = some (.int .i64 (u.at_: Int))
 c1: cs[off + 1]? = some (.bool u.n.leaf)
 c2: cs[off + 2]? = some vr
 c3: cs[off + 3]? = some vk
 c4: cs[off + 4]? = some (.int .i64 (u.kid: Int))
 rr: w.ownsRow N 9 1 vr u.n.recs.length (L5.svs u.n.recs)
 rk: w.ownsRow N 3 1 vk u.n.kids.length (L5.ivs u.n.kids)
theorem UpS.on {N: Nat} {w w': World} {g off: Nat} {cs: Array Value} {u: Pl} {vr vk: Value} (k: UpS N w g off cs u vr vk) (hb: Below w.heap.size w w'): UpS N w' g off cs u vr vk :=
 ⟨(hb.block _ (Array.getElem?_eq_some_iff.1 k.blk).1).trans k.blk,k.c0,k.c1,k.c2,k.c3,k.c4,L5.owns_of_block k.rr fun q hq => hb.block q (k.rr.lt q hq).2,L5.owns_of_block k.rk fun q hq => hb.block q (k.rk.lt q hq).2⟩
theorem joined_none {N: Nat} {w: World} {x g off: Nat} {cs: Array Value} {u: Pl} {vr vk v0 v1 v2 v3 v4: Value} {i: Int} (k: UpS N w g off cs u vr vk) (hi: i < 0 \/ (u.n.recs.length: Int) <= i) :
 Calls Tryz.prog 109 #[.pointer (some ⟨x,0,none⟩), .pointer (some ⟨g,off,none⟩), .int .i64 i, .agg #[v0,v1,v2,v3,v4]] w fun e w' => e = .returned (.bool false) /\ Below w.heap.size w w' := by
 obtain ⟨ra,rc,rfl⟩ := own_slice k.rr
 have HB0 := thid (tbelow w (.cells #[v0,v1,v2,v3,v4] 104))
 have k1 := k.on HB0.out
 have q2: (w.alloc (.cells #[v0,v1,v2,v3,v4] 104)).cell? ⟨g,off + 2,none⟩ = some (.slice ra u.n.recs.length rc) := (cell_of_row _ _ _ _ _ _ k1.blk).trans k.c2
 have gl := (Array.getElem?_eq_some_iff.1 k1.blk).1
 clear k k1
 by_cases hn: i < 0
 · have hn': decide (i < 0) = true := by simpa using hn
   go_enter Tryz.func109,Tryz.ntmps109
   go_wp2_with fail
   go_ret
   exact ⟨rfl,HB0.out⟩
 · have hn': decide (i < 0) = false := by simpa using hn
   have hr': decide ((u.n.recs.length: Int) <= i) = true := by simp; omega
   go_enter Tryz.func109,Tryz.ntmps109
   go_wp2_with fail
   go_ret
   exact ⟨rfl,HB0.out⟩
structure LostG (N B: Nat) (s: Ar) (t x r h l xr xh xl: Nat) (tk ld gn: Value) (T: List Nat) (Ld: List Lay) (G: List Nat) (g off: Nat) (cs: Array Value) (u: Pl) (vr vk: Value) (w: World) (gn' vr' vk': Value) (w': World): Prop where
 es: Es B s t x r h l xr xh xl tk ld gn' T Ld G w'
 blk: w'.heap[g]? = some (.cells ((cs.setIfInBounds (off + 2) vr').setIfInBounds (off + 3) vk') 104 (0,0))
 rr: w'.ownsRow N 9 1 vr' (cutK u.n (u.kid - 1) u.kid).recs.length (L5.svs (cutK u.n (u.kid - 1) u.kid).recs)
 rk: w'.ownsRow N 3 1 vk' (cutK u.n (u.kid - 1) u.kid).kids.length (L5.ivs (cutK u.n (u.kid - 1) u.kid).kids)
 only: Only (fun q => q = x \/ gn.ownBlock = some q \/ q = g \/ vr.ownBlock = some q \/ vk.ownBlock = some q) w w'
 nr: vr'.ownBlock = vr.ownBlock
 nk: vk'.ownBlock = vk.ownBlock
 ng: ∀ q,gn'.ownBlock = some q -> gn.ownBlock = some q \/ w.heap.size <= q
theorem step_gone {ops: Array Oper} {o: Oper} {a: Act} {K: Act -> World -> Prop} {Q: Exit -> Act -> World -> Prop} {E: Prop} {W1: World} (base: Nat) (hbase: base <= W1.heap.size) (hgd: o.guard = none) (s x: Operand) (ho: o.op = .call { callee := .builtin .append,args := #[s,x],argTypes := #[55,55] })
 (v: Value) (n: Nat) (ys: List Value) (y: Int) (hs: a.eval s = v) (h: W1.ownsRow base 3 1 v n ys) (hn: n <= 10000) (ad: Addr) (cap: Nat) (hx: a.eval x = .slice (some ad) 1 cap) (hc: W1.cell? ad = some (.int .i64 y))
 (hK: ∀ v' W',W'.ownsRow base 3 1 v' (n + 1) (ys ++ [.int .i64 y]) -> W1.grownBy W' v.ownBlock -> (∀ k,v'.ownBlock = some k -> v.ownBlock = some k \/ W1.heap.size <= k) -> K (a.put o.dst v') W') :
 if Region.wanted o (yielded ops a.tmps) = true then Oper.wp Tryz.prog o a W1 K Q else E := by
 have hw: Region.wanted o (yielded ops a.tmps) = true := by simp [Region.wanted,hgd]
 rw [if_pos hw]
 have hinfo: (Tryz.prog.info? 3).map (fun i => (i.zero,i.size,i.bytes)) = some (some (.int .i64 0),1,8) := by kernel_rfl
 obtain ⟨i,hi,hz⟩ := Option.map_eq_some_iff.1 hinfo
 simp only [Prod.mk.injEq] at hz
 obtain ⟨h3,h4,h5⟩ := hz
 obtain ⟨v',w',hr,h2,h6,_,h7⟩ := run_append_own_at (P := Tryz.prog) W1 base 55 o.type 3 i (.int .i64 0) 1 8 Tryz.underlying55 hi h3 h4 h5 rfl (by decide) v n ys h ad 1 cap [.int .i64 y] rfl (fun j u hj => by
  have hj0: j = 0 := by
   have := (List.getElem?_eq_some_iff.1 hj).1
   simpa using this
  subst hj0
  simp at hj
  subst hj
  obtain ⟨b,o,sp⟩ := ad
  have hsp := World.cell?_spot hc
  simp only at hsp
  subst hsp
  rw [Addr.add_lit]
  exact hc) (fun u hu => by simp at hu; subst hu; rfl) (by unfold maxLen; omega) (by omega) hbase
 unfold Oper.wp execOp
 simp only [ho,resolve,invoke,builtin,Sem.run_bind,Sem.run_pure,Result.andThen_ok,List.map_toArray,List.map_cons,List.map_nil,hs,hx,hr]
 refine hK v' w' h2 h6 fun k hk => ?_
 rcases h7 with h7 | h7
 · rw [h7] at hk; exact Or.inl hk
 · rw [h7] at hk; cases hk; exact Or.inr (Nat.le_refl _)
theorem lost_gone {N B: Nat} {s: Ar} {t x r h l xr xh xl: Nat} {tk ld gn: Value} {T: List Nat} {Ld: List Lay} {G: List Nat} {w: World} {g off: Nat} {cs: Array Value} {u: Pl} {vr vk: Value} {at_: Nat} {la lb: Option Addr} {lc ld': Nat} {lf: Bool} {v4: Value}
 (hE: Es B s t x r h l xr xh xl tk ld gn T Ld G w) (hG: G.length <= 10000) (k: UpS N w g off cs u vr vk) (zg: g < B) (zr: ∀ q,vr.ownBlock = some q -> q < B) (zk: ∀ q,vk.ownBlock = some q -> q < B /\ ¬ s.own q) (hk: u.kid < u.n.kids.length) (hkr: u.n.recs.length ≠ 0 -> u.kid - 1 < u.n.recs.length) (hus: u.n.small) :
 Calls Tryz.prog 95 #[.pointer (some ⟨x,0,none⟩), .pointer (some ⟨g,off,none⟩), .agg #[.int .i64 (at_: Int), .bool lf, .slice la 0 lc, .slice lb 0 ld',v4]] w fun e w' => e = .returned (.bool true) /\ ∃ gn' vr' vk',LostG N B s t x r h l xr xh xl tk ld gn T Ld (G ++ [at_]) g off cs u vr vk w gn' vr' vk' w' := by
 have HB0 := thid (tbelow w (.cells #[.int .i64 (at_: Int), .bool lf, .slice la 0 lc, .slice lb 0 ld',v4] 104))
 have HK := thid k
 have HE := thid hE
 have HZ := thid (And.intro zg (And.intro zr zk))
 have HE0 := thid (hE.below HB0.out)
 obtain ⟨d0,d1,d2,d3,d4,d5,d6,dl,df⟩ := HE0.out.ed.cells
 have HB2 := thid (HB0.out.trans (((Below.refl _ _).drew.alloc (Nat.le_refl _) (.cells #[.int .i64 (at_: Int)] 3): Below _ (w.alloc (.cells #[.int .i64 (at_: Int), .bool lf, .slice la 0 lc, .slice lb 0 ld',v4] 104)) _).mono HB0.out.size))
 have HK2 := thid (hE.below HB2.out)
 obtain ⟨f0,f1,f2,f3,f4,f5,f6,fl,ff⟩ := HK2.out.ed.cells
 have n0: (w.alloc (.cells #[.int .i64 (at_: Int), .bool lf, .slice la 0 lc, .slice lb 0 ld',v4] 104)).cell? ⟨w.heap.size,0,none⟩ = some (.int .i64 (at_: Int)) := by rw [cell_of_row _ _ _ _ _ _ (heap_alloc_new _ _)]; rfl
 have nl: w.heap.size < (w.alloc (.cells #[.int .i64 (at_: Int), .bool lf, .slice la 0 lc, .slice lb 0 ld',v4] 104)).heap.size := by simp
 have HC: Hid (((w.alloc (.cells #[.int .i64 (at_: Int), .bool lf, .slice la 0 lc, .slice lb 0 ld',v4] 104)).drew.alloc (.cells #[.int .i64 (at_: Int)] 3)).cell? ⟨w.heap.size + 1,0,none⟩ = some (.int .i64 (at_: Int))) := by
  show World.cell? _ _ = _
  rw [show w.heap.size + 1 = (w.alloc (.cells #[.int .i64 (at_: Int), .bool lf, .slice la 0 lc, .slice lb 0 ld',v4] 104)).drew.heap.size by simp,cell_of_row _ _ _ _ _ _ (heap_alloc_new _ _)]
  rfl
 have f6': ((w.alloc (.cells #[.int .i64 (at_: Int), .bool lf, .slice la 0 lc, .slice lb 0 ld',v4] 104)).alloc (.cells #[.int .i64 (at_: Int)] 3)).cell? ⟨x,6,none⟩ = some gn := f6
 clear k hE zg zr zk
 go_enter Tryz.func95,Tryz.ntmps95
 go_upto_region 2 with fail
 go_cut [] (fun wx => ∃ gn',Hid (Es B s t x r h l xr xh xl tk ld gn' T Ld (G ++ [at_]) wx /\ Only (fun q => q = x \/ gn.ownBlock = some q) w wx /\ (∀ q,gn'.ownBlock = some q -> gn.ownBlock = some q \/ w.heap.size <= q)))
 case first =>
  go_region_law (first
   | (refine step_gone B HK2.out.bs rfl (.tmp 21) (.tmp 24) rfl gn G.length _ (at_: Int) ?_ HK2.out.rg (by omega) ⟨w.heap.size + 1,0,none⟩ 1 ?_ HC.out ?_
      · first | (simp [Act.eval]; done) | (simp [Act.eval,Act.put]; done)
      · first | (simp [Act.eval]; done) | (simp [Act.eval,Act.put]; done)
      intro v2 w2 hown hgr hnw
      obtain ⟨ad2,cp2,rfl⟩ := own_slice hown
      obtain ⟨g1,g2,g3,g4⟩ := HE.out.gave (nx := at_) HB2.out hgr rfl hown hnw
      have HM := thid (And.intro g1 (And.intro g3 g4))
      have x2: w2.heap[x]? = some (.cells #[.pointer (some ⟨t,0,none⟩), .int .i64 (xr: Int), .int .i64 (xh: Int), .int .i64 (xl: Int),tk,ld,gn] 66 (0,0)) := by
       rw [hgr.block x fl (fun e => row_ne HK2.out.ed HK2.out.rg (by decide) e.symm)]
       exact HK2.out.ed
      have y6: w2.cell? ⟨x,6,none⟩ = some gn := (EdC.cells x2).2.2.2.2.2.2.1
      have yl := (EdC.cells x2).2.2.2.2.2.2.2.1
      have yf := (EdC.cells x2).2.2.2.2.2.2.2.2
      clear g1 g2 g3 g4 hown hgr hnw x2))
  all_goals
   go_wp2_with fail
   go_meet
   exact ⟨_,HM⟩
 case rest =>
  obtain ⟨gn',HM⟩ := hcut
  clear d0 d1 d2 d3 d4 d5 d6 dl df f0 f1 f2 f3 f4 f5 f6 fl ff n0 nl HC f6' HK2 HB2 HE0
  have hx': ∀ {q: Nat} {cc: Array Value} {e: TypeId},w.heap[q]? = some (.cells cc e (0,0)) -> e ≠ 66 -> e ≠ 3 -> wc.heap[q]? = w.heap[q]? := fun hq h1 h2 => HM.out.2.1.block _ (Array.getElem?_eq_some_iff.1 hq).1 fun z => by
   rcases z with z | z
   · exact tag_ne hq HE.out.ed h1 z
   · exact row_ne hq HE.out.rg h2 z
  have hrow: ∀ {e: TypeId} {v: Value} {m: Nat} {xs: List Value},w.ownsRow N e 1 v m xs -> e ≠ 66 -> (∀ q,v.ownBlock = some q -> q < B) -> wc.ownsRow N e 1 v m xs := fun hr h1 h2 => L5.owns_of_block hr fun q hq => HM.out.2.1.block q (hr.lt q hq).2 fun z => by
   rcases z with z | z
   · exact row_ne HE.out.ed hr (fun e => h1 e.symm) (z ▸ hq)
   · have := (HE.out.rg.lt q z).1
     have := h2 q hq
     omega
  have HBK: Hid (wc.heap[g]? = some (.cells cs 104 (0,0))) := (hx' HK.out.blk (by decide) (by decide)).trans HK.out.blk
  have hkid: u.kid <= 1000 := by have := hus.kids; omega
  have hmax: max ((u.kid: Int) - 1) 0 = ((u.kid - 1: Nat): Int) := by omega
  have HRR := thid (hrow HK.out.rr (by decide) HZ.out.2.1)
  have HRK := thid (hrow HK.out.rk (by decide) fun q hq => (HZ.out.2.2 q hq).1)
  have p4: wc.cell? ⟨g,off + 4,none⟩ = some (.int .i64 (u.kid: Int)) := (cell_of_row _ _ _ _ _ _ HBK.out).trans HK.out.c4
  have pl := (Array.getElem?_eq_some_iff.1 HBK.out).1
  clear hx' hrow
  have hws: IntKind.i64.wrap ((u.kid: Int) - 1) = (u.kid: Int) - 1 := by rw [IntKind.wrap_i64]; omega
  go_wp2_with fail
  refine wp_region_quiet_tail (fun w' => ∃ n,w' = World.drewN wc n) 11 (by kernel_rfl) (by kernel_rfl) ⟨1,rfl⟩ ?_
  simp only [List.take_succ_cons,List.take_zero,List.drop_succ_cons,List.drop_zero]
  repeat (go_big_quiet_step (first | rfl | fail))
  refine wpQuiet_nil ?_
  rintro _ ⟨nq,rfl⟩
  have HCU := thid (cut_ok (w := wc.drewN nq) (i := u.kid - 1) (kid := u.kid) (show (wc.drewN nq).heap[g]? = some (.cells cs 104 (0,0)) from HBK.out) HK.out.c2 HK.out.c3 (L5.owns_of_block HRR.out fun _ _ => rfl) (L5.owns_of_block HRK.out fun _ _ => rfl) hkr hk hus)
  clear hmax hws p4 pl
  go_wp2_with fail
  refine HCU.out.mono ?_
  rintro e w9 ⟨rfl,vr',vk',hC⟩
  have HF: Hid (LostG N B s t x r h l xr xh xl tk ld gn T Ld (G ++ [at_]) g off cs u vr vk w gn' vr' vk' w9) := by
   obtain ⟨m1,m2,m3⟩ := HM.out
   obtain ⟨z1,z2,z3⟩ := HZ.out
   have hE9: Es B s t x r h l xr xh xl tk ld gn' T Ld (G ++ [at_]) w9 := m1.keep (Z := fun q => q = g \/ vr.ownBlock = some q \/ vk.ownBlock = some q) hC.only.size (fun q hq hz => hC.only.block q hq hz) (fun q hz => by
    rcases hz with rfl | hz | hz
    · exact z1
    · exact z2 q hz
    · exact (z3 q hz).1) (fun q hz => by
    rcases hz with rfl | hz | hz
    · exact not_own m1.ar HBK.out (by decide) (by decide) (by decide)
    · exact row_not_own m1.ar HRR.out (by decide) (by decide) (by decide) hz
    · exact (z3 q hz).2) (fun q hz => by
    rcases hz with rfl | hz | hz
    · exact ⟨tag_ne HBK.out m1.tr.blk (by decide),tag_ne HBK.out m1.ed (by decide)⟩
    · exact ⟨fun e => row_ne m1.tr.blk HRR.out (by decide) (e ▸ hz),fun e => row_ne m1.ed HRR.out (by decide) (e ▸ hz)⟩
    · exact ⟨fun e => row_ne m1.tr.blk HRK.out (by decide) (e ▸ hz),fun e => row_ne m1.ed HRK.out (by decide) (e ▸ hz)⟩) (fun q hz cc hq => by
    rcases hz with rfl | hz | hz
    · rw [HBK.out] at hq; simp at hq
    · exact row_ne hq HRR.out (by decide) hz
    · exact row_ne hq HRK.out (by decide) hz)
   refine ⟨hE9,hC.blk,hC.rr,hC.rk, ?_,hC.nr,hC.nk,m3⟩
   have hd: Only (fun q => q = x \/ gn.ownBlock = some q \/ q = g \/ vr.ownBlock = some q \/ vk.ownBlock = some q) w (wc.drewN nq) := (m2.weaken fun q _ y => y.imp id Or.inl).drewN nq
   exact hd.trans ((hC.only.weaken fun q _ y => Or.inr (Or.inr y)))
  clear hC HCU HM HK HE HZ HBK HRR HRK HB0
  go_wp2
  go_ret
  exact ⟨rfl,_,_,_,HF.out⟩
def NdC (W: World) (p: Nat) (v0 v1 v2: Value): Prop := W.heap[p]? = some (.cells #[v0,v1,v2] 69 (0,0))
theorem NdC.on {W W': World} {p: Nat} {v0 v1 v2: Value} (k: NdC W p v0 v1 v2) (hb: Below W.heap.size W W'): NdC W' p v0 v1 v2 := (hb.block _ (Array.getElem?_eq_some_iff.1 k).1).trans k
theorem NdC.store {w: World} {p: Nat} {a b c: Value} (k: NdC w p a b c) (x y z: Value): NdC (((w.setCell ⟨p,0,none⟩ x).setCell ⟨p,1,none⟩ y).setCell ⟨p,2,none⟩ z) p x y z /\ Only (fun q => q = p) w (((w.setCell ⟨p,0,none⟩ x).setCell ⟨p,1,none⟩ y).setCell ⟨p,2,none⟩ z) :=
 ⟨heap_setCell_same _ p 2 _ _ z (heap_setCell_same _ p 1 _ _ y (heap_setCell_same _ p 0 _ _ x k)),by
  have h0: Only (fun q => q = p) w w := Only.refl _ _
  have h1 := h0.setCell (p := ⟨p,0,none⟩) (Or.inr rfl) x
  have h2 := h1.setCell (p := ⟨p,1,none⟩) (Or.inr rfl) y
  exact h2.setCell (p := ⟨p,2,none⟩) (Or.inr rfl) z⟩
theorem two_nodes (w: World) (v0 v1 v2: Value): NdC ((w.alloc (.cells #[v0,v1,v2] 69)).alloc (.cells #[v0,v1,v2] 69)) w.heap.size v0 v1 v2 /\ NdC ((w.alloc (.cells #[v0,v1,v2] 69)).alloc (.cells #[v0,v1,v2] 69)) (w.heap.size + 1) v0 v1 v2 /\ Below w.heap.size w ((w.alloc (.cells #[v0,v1,v2] 69)).alloc (.cells #[v0,v1,v2] 69)) := by
 have h1: NdC (w.alloc (.cells #[v0,v1,v2] 69)) w.heap.size v0 v1 v2 := heap_alloc_new _ _
 have h2 := heap_alloc_new (w.alloc (.cells #[v0,v1,v2] 69)) (.cells #[v0,v1,v2] 69)
 rw [show (w.alloc (.cells #[v0,v1,v2] 69)).heap.size = w.heap.size + 1 by simp] at h2
 have b2 := tbelow (w.alloc (.cells #[v0,v1,v2] 69)) (.cells #[v0,v1,v2] 69)
 exact ⟨h1.on b2,h2,tbelow_on (tbelow w _) b2⟩
theorem list_gone {ops: Array Oper} {rest: List Oper} {o: Oper} {a: Act} {Q: Exit -> Act -> World -> Prop} {W1: World} (hgd: o.guard = none) (base: Nat) (hbase: base <= W1.heap.size) (s x: Operand) (ho: o.op = .call { callee := .builtin .append,args := #[s,x],argTypes := #[55,55] })
 (v: Value) (n: Nat) (ys: List Value) (y: Int) (hs: a.eval s = v) (h: W1.ownsRow base 3 1 v n ys) (hn: n <= 10000) (ad cap: Nat) (hx: a.eval x = .slice (some ⟨ad,0,none⟩) 1 cap) (hc: W1.cell? ⟨ad,0,none⟩ = some (.int .i64 y))
 (hK: ∀ v' W',W'.ownsRow base 3 1 v' (n + 1) (ys ++ [.int .i64 y]) -> W1.grownBy W' v.ownBlock -> (∀ k,v'.ownBlock = some k -> v.ownBlock = some k \/ W1.heap.size <= k) -> wpList Tryz.prog ops Q rest (a.put o.dst v') W'): wpList Tryz.prog ops Q (o :: rest) a W1 := by
 have hinfo: (Tryz.prog.info? 3).map (fun i => (i.zero,i.size,i.bytes)) = some (some (.int .i64 0),1,8) := by kernel_rfl
 obtain ⟨i,hi,hz⟩ := Option.map_eq_some_iff.1 hinfo
 simp only [Prod.mk.injEq] at hz
 obtain ⟨h3,h4,h5⟩ := hz
 refine wpList_append_own_at (P := Tryz.prog) W1 hgd s x 55 ho base 3 i _ 1 8 Tryz.underlying55 hi h3 h4 h5 rfl (by decide) v n ys hs h ⟨ad,0,none⟩ 1 cap [.int .i64 y] hx rfl (fun j u hj => ?_) (fun u hu => ?_) (by unfold maxLen; omega) (by omega) hbase (fun v' W' hown hg _ hat => ?_)
 · have hj0: j = 0 := by
    have := (List.getElem?_eq_some_iff.1 hj).1
    simpa using this
   subst hj0
   simp at hj
   subst hj
   rw [Addr.add_lit]
   exact hc
 · simp at hu; subst hu; rfl
 · refine hK v' W' hown hg fun k hk => ?_
   rcases hat with hat | hat
   · rw [hat] at hk; exact Or.inl hk
   · rw [hat] at hk; cases hk; exact Or.inr (Nat.le_refl _)
inductive Side (u: Pl) (n m: L5.No) (at_ c i: Nat): L5.No -> L5.No -> Nat -> Nat -> Prop
 | left (h: u.kid = i + 1): Side u n m at_ c i m n c at_
 | right (h: u.kid = i): Side u n m at_ c i n m at_ c
def Two2 (w: World) (p1 p2: Nat) (A C: L5.No) (wx: World): Prop := ∃ a1 c1 a2 c2 b1 e1 b2 e2,NdC wx p1 (.bool A.leaf) (.slice a1 A.recs.length c1) (.slice a2 A.kids.length c2) /\ NdC wx p2 (.bool C.leaf) (.slice b1 C.recs.length e1) (.slice b2 C.kids.length e2) /\ Below w.heap.size w wx /\ L5.NR wx A a1 c1 a2 c2 /\ L5.NR wx C b1 e1 b2 e2
theorem stored {w wc w4 w5: World} {p q: Nat} {n m: L5.No} {la lb ma mb: Option Addr} {lc ld' mc md: Nat} (hb: Below w.heap.size w wc) (hw: w.heap.size <= p) (g1: NdC wc p (.bool n.leaf) (.slice la n.recs.length lc) (.slice lb n.kids.length ld')) (g2: NdC wc q (.bool n.leaf) (.slice la n.recs.length lc) (.slice lb n.kids.length ld')) (hpq: p ≠ q) (hNR: L5.NR w n la lc lb ld') (h4: Below wc.heap.size wc w4) (o1: w4.ownsRow wc.heap.size 9 1 (.slice ma m.recs.length mc) m.recs.length (L5.svs m.recs)) (o2: w4.ownsRow wc.heap.size 3 1 (.slice mb m.kids.length md) m.kids.length (L5.ivs m.kids)) (k5: Only (fun q => q = p) w4 w5) :
 NdC w5 q (.bool n.leaf) (.slice la n.recs.length lc) (.slice lb n.kids.length ld') /\ Below w.heap.size w w5 /\ L5.NR w5 m ma mc mb md /\ L5.NR w5 n la lc lb ld' := by
 have h0 := (Array.getElem?_eq_some_iff.1 g1).1
 have h2 := hb.size
 have h3 := h4.size
 have g24 := g2.on h4
 have hb5: Below w.heap.size w w5 := (tbelow_on hb h4).trans (k5.below (by omega) fun q hq e => by omega)
 refine ⟨(k5.block q (Array.getElem?_eq_some_iff.1 g24).1 fun e => hpq e.symm).trans g24,hb5,⟨L5.owns_rd_slice (L5.owns_of_block o1 fun z hz => k5.block z (o1.lt z hz).2 fun e => ?_),L5.owns_rd_slice (L5.owns_of_block o2 fun z hz => k5.block z (o2.lt z hz).2 fun e => ?_)⟩,hNR.below hb5⟩
 · have := (o1.lt z hz).1
   omega
 · have := (o2.lt z hz).1
   omega
theorem join_any {A C: L5.No} {a1 a2 b1 b2: Option Addr} {c1 c2 e1 e2: Nat} {w: World} (hA: L5.NR w A a1 c1 a2 c2) (hC: L5.NR w C b1 e1 b2 e2) (zA: A.small) (zC: C.small) (sep: ByteArray) :
 Calls Tryz.prog 132 #[.agg #[.bool A.leaf, .slice a1 A.recs.length c1, .slice a2 A.kids.length c2], .string sep, .agg #[.bool C.leaf, .slice b1 C.recs.length e1, .slice b2 C.kids.length e2]] w fun e w' => ∃ r k,e = .returned (.agg #[.bool A.leaf,r,k]) /\ L5.JR w (joinK A sep C).recs (joinK A sep C).kids r k w' := by
 have h1 := zA.recs
 have h2 := zC.recs
 have h3 := zA.kids
 have h4 := zC.kids
 cases hl: A.leaf
 · rw [show joinK A sep C = ⟨false,A.recs ++ [sep] ++ C.recs,A.kids ++ C.kids⟩ by simp [joinK,hl]]
   exact L5.join_inner_wide hA.recs hC.recs hA.kids hC.kids h1 h2 (by omega) (by omega) sep
 · rw [show joinK A sep C = ⟨true,A.recs ++ C.recs,[]⟩ by simp [joinK,hl]]
   exact L5.join_leaf_wide hA.recs hC.recs h1 h2 sep
structure JoinG (N B: Nat) (s: Ar) (t x r h l xr xh xl: Nat) (tk ld gn: Value) (T: List Nat) (Ld: List Lay) (G: List Nat) (g off: Nat) (cs: Array Value) (u: Pl) (vr vk: Value) (i pl pr: Nat) (J: L5.No) (w: World) (ld' gn' vr' vk' vjr vjk: Value) (w': World): Prop where
 es: Es B s t x r h l xr xh xl tk ld' gn' T (Ld ++ [⟨pl,J,vjr,vjk,0⟩]) (G ++ [pr]) w'
 blk: w'.heap[g]? = some (.cells ((cs.setIfInBounds (off + 2) vr').setIfInBounds (off + 3) vk') 104 (0,0))
 rr: w'.ownsRow N 9 1 vr' (cutK u.n i (i + 1)).recs.length (L5.svs (cutK u.n i (i + 1)).recs)
 rk: w'.ownsRow N 3 1 vk' (cutK u.n i (i + 1)).kids.length (L5.ivs (cutK u.n i (i + 1)).kids)
 only: Only (fun q => q = x \/ ld.ownBlock = some q \/ gn.ownBlock = some q \/ q = g \/ vr.ownBlock = some q \/ vk.ownBlock = some q) w w'
 nr: vr'.ownBlock = vr.ownBlock
 nk: vk'.ownBlock = vk.ownBlock
 ng: ∀ q,gn'.ownBlock = some q -> gn.ownBlock = some q \/ w.heap.size <= q
 nl: ∀ q,ld'.ownBlock = some q -> ld.ownBlock = some q \/ w.heap.size <= q
theorem joinK_leaf (A: L5.No) (sep: ByteArray) (C: L5.No): (joinK A sep C).leaf = A.leaf := by
 unfold joinK
 split <;> simp_all
def Jnd (w: World) (p3: Nat) (J: L5.No) (lf: Bool) (wx: World): Prop := ∃ ra rc ka kc,NdC wx p3 (.bool lf) (.slice ra J.recs.length rc) (.slice ka J.kids.length kc) /\ wx.ownsRow w.heap.size 9 1 (.slice ra J.recs.length rc) J.recs.length (L5.svs J.recs) /\ wx.ownsRow w.heap.size 3 1 (.slice ka J.kids.length kc) J.kids.length (L5.ivs J.kids) /\ Below w.heap.size w wx
theorem jnd_new {w w5 w6: World} {J: L5.No} {lf: Bool} {xa ya: Option Addr} {xc yc bb: Nat} (hb: Below w.heap.size w w5) (tb: Below w5.heap.size w5 w6) (hbb: w.heap.size <= bb) (o1: w6.ownsRow bb 9 1 (.slice xa J.recs.length xc) J.recs.length (L5.svs J.recs)) (o2: w6.ownsRow bb 3 1 (.slice ya J.kids.length yc) J.kids.length (L5.ivs J.kids)): Jnd w w6.heap.size J lf (w6.alloc (.cells #[.bool lf, .slice xa J.recs.length xc, .slice ya J.kids.length yc] 69)) := by
 have b := tbelow w6 (.cells #[.bool lf, .slice xa J.recs.length xc, .slice ya J.kids.length yc] 69)
 exact ⟨xa,xc,ya,yc,heap_alloc_new _ _,L5.owns_of_block (owns_weak o1 hbb) fun q hq => b.block q (o1.lt q hq).2,L5.owns_of_block (owns_weak o2 hbb) fun q hq => b.block q (o2.lt q hq).2,tbelow_on (tbelow_on hb tb) b⟩
theorem jnd_set {w w5 w6: World} {J: L5.No} {lf: Bool} {xa ya: Option Addr} {xc yc bb p: Nat} {v0 v1 v2: Value} (hb: Below w.heap.size w w5) (tb: Below w5.heap.size w5 w6) (hp: p = w5.heap.size) (hbb: w5.heap.size < bb) (g3: NdC w6 p v0 v1 v2) (o1: w6.ownsRow bb 9 1 (.slice xa J.recs.length xc) J.recs.length (L5.svs J.recs)) (o2: w6.ownsRow bb 3 1 (.slice ya J.kids.length yc) J.kids.length (L5.ivs J.kids)): Jnd w p J lf (((w6.setCell ⟨p,0,none⟩ (.bool lf)).setCell ⟨p,1,none⟩ (.slice xa J.recs.length xc)).setCell ⟨p,2,none⟩ (.slice ya J.kids.length yc)) := by
 obtain ⟨h1,h2⟩ := g3.store (.bool lf) (.slice xa J.recs.length xc) (.slice ya J.kids.length yc)
 have z := hb.size
 have z' := tb.size
 refine ⟨xa,xc,ya,yc,h1,L5.owns_of_block (owns_weak o1 (by omega)) fun q hq => h2.block q (o1.lt q hq).2 fun e => ?_,L5.owns_of_block (owns_weak o2 (by omega)) fun q hq => h2.block q (o2.lt q hq).2 fun e => ?_,(tbelow_on hb tb).trans (h2.below (by omega) fun q hq e => by omega)⟩
 · have := (o1.lt q hq).1
   omega
 · have := (o2.lt q hq).1
   omega
theorem joined_any {N B: Nat} {s: Ar} {t x r h l xr xh xl: Nat} {tk ld gn: Value} {T: List Nat} {Ld: List Lay} {G: List Nat} {w: World} {g off: Nat} {cs: Array Value} {u: Pl} {vr vk: Value} {n m: L5.No} {at_ kid c i: Nat} {la lb: Option Addr} {lc ld': Nat} {sep: ByteArray} {A C: L5.No} {pl pr: Nat}
 (hE: Es B s t x r h l xr xh xl tk ld gn T Ld G w) (ho: s.abs.Ok) (k: UpS N w g off cs u vr vk) (hNR: L5.NR w n la lc lb ld') (hsd: Side u n m at_ c i A C pl pr) (hs: u.n.recs[i]? = some sep) (hc: u.n.kids[i]? = some (pl: Int)) (hr: u.n.kids[i + 1]? = some (pr: Int)) (hm: Holds s.abs c m) (hl: m.leaf = n.leaf) (hus: u.n.small) (hAs: A.small) (hCs: C.small) (hJs: (joinK A sep C).small) (hL: Ld.length <= 10000) (hG: G.length <= 10000) (zg: g < B) (zr: ∀ q,vr.ownBlock = some q -> q < B) (zk: ∀ q,vk.ownBlock = some q -> q < B /\ ¬ s.own q) :
 Calls Tryz.prog 109 #[.pointer (some ⟨x,0,none⟩), .pointer (some ⟨g,off,none⟩), .int .i64 (i: Int), .agg #[.int .i64 (at_: Int), .bool n.leaf, .slice la n.recs.length lc, .slice lb n.kids.length ld', .int .i64 (kid: Int)]] w fun e w' => (1024 < (joinK A sep C).size /\ e = .returned (.bool false) /\ Below w.heap.size w w') \/ ((joinK A sep C).size <= 1024 /\ e = .returned (.bool true) /\ ∃ ld' gn' vr' vk' vjr vjk,JoinG N B s t x r h l xr xh xl tk ld gn T Ld G g off cs u vr vk i pl pr (joinK A sep C) w ld' gn' vr' vk' vjr vjk w') := by
 obtain ⟨ra,rc,rfl⟩ := own_slice k.rr
 obtain ⟨ka,kc,rfl⟩ := own_slice k.rk
 have HB0 := thid (tbelow w (.cells #[.int .i64 (at_: Int), .bool n.leaf, .slice la n.recs.length lc, .slice lb n.kids.length ld', .int .i64 (kid: Int)] 104))
 have a0 := heap_alloc_new w (.cells #[.int .i64 (at_: Int), .bool n.leaf, .slice la n.recs.length lc, .slice lb n.kids.length ld', .int .i64 (kid: Int)] 104)
 have HK1 := thid (k.on HB0.out)
 have HE1 := thid (hE.below HB0.out)
 have hir: i < u.n.recs.length := (List.getElem?_eq_some_iff.1 hs).1
 have hik: i + 1 < u.n.kids.length := (List.getElem?_eq_some_iff.1 hr).1
 have hneg: decide ((i: Int) < 0) = false := by simp
 have hge: decide ((u.n.recs.length: Int) <= (i: Int)) = false := by simp; omega
 have hgn: decide (u.n.recs.length <= i) = false := by simp; omega
 have q2: (w.alloc (.cells #[.int .i64 (at_: Int), .bool n.leaf, .slice la n.recs.length lc, .slice lb n.kids.length ld', .int .i64 (kid: Int)] 104)).cell? ⟨g,off + 2,none⟩ = some (.slice ra u.n.recs.length rc) := (cell_of_row _ _ _ _ _ _ HK1.out.blk).trans HK1.out.c2
 have q3: (w.alloc (.cells #[.int .i64 (at_: Int), .bool n.leaf, .slice la n.recs.length lc, .slice lb n.kids.length ld', .int .i64 (kid: Int)] 104)).cell? ⟨g,off + 3,none⟩ = some (.slice ka u.n.kids.length kc) := (cell_of_row _ _ _ _ _ _ HK1.out.blk).trans HK1.out.c3
 have q4: (w.alloc (.cells #[.int .i64 (at_: Int), .bool n.leaf, .slice la n.recs.length lc, .slice lb n.kids.length ld', .int .i64 (kid: Int)] 104)).cell? ⟨g,off + 4,none⟩ = some (.int .i64 (u.kid: Int)) := (cell_of_row _ _ _ _ _ _ HK1.out.blk).trans HK1.out.c4
 have gl := (Array.getElem?_eq_some_iff.1 HK1.out.blk).1
 obtain ⟨kb,ko,hka,kbl,kc0⟩ := (L5.owns_rd_slice HK1.out.rk).2.2 i (.int .i64 (pl: Int)) (by simp [L5.ivs,L5.iv,hc])
 obtain ⟨kb',ko',hka',_,kc1⟩ := (L5.owns_rd_slice HK1.out.rk).2.2 (i + 1) (.int .i64 (pr: Int)) (by simp [L5.ivs,L5.iv,hr])
 subst hka
 cases hka'
 have hi1: ((i: Int) + 1).toNat = i + 1 := by omega
 have hiw: IntKind.i64.wrap ((i: Int) + 1) = ((i + 1: Nat): Int) := by rw [IntKind.wrap_i64]; have := hus.kids; omega
 have hb0: 0 <= (i: Int) /\ (i: Int) < (u.n.kids.length: Int) := by omega
 have hb1: 0 <= ((i + 1: Nat): Int) /\ ((i + 1: Nat): Int) < (u.n.kids.length: Int) := by omega
 have HEw := thid hE
 have HKw := thid k
 clear k hE
 go_enter Tryz.func109,Tryz.ntmps109
 go_upto_region 3 with fail
 generalize w.alloc (.cells #[.int .i64 (at_: Int), .bool n.leaf, .slice la n.recs.length lc, .slice lb n.kids.length ld', .int .i64 (kid: Int)] 104) = w1 at *
 refine wp_region_quiet_tail (fun w' => ∃ n,w' = World.drewN w1 n) 18 (by kernel_rfl) (by kernel_rfl) ⟨1,rfl⟩ ?_
 simp only [List.take_succ_cons,List.take_zero,List.drop_succ_cons,List.drop_zero]
 repeat (go_big_quiet_step (first | rfl | fail))
 refine wpQuiet_nil ?_
 rintro _ ⟨nq,rfl⟩
 go_upto_region 4 with fail
 have HB1 := thid (below_drewN HB0.out nq)
 have HE2 := thid (HE1.out.below (below_drewN (Below.refl _ _) nq))
 have HK2 := thid (HK1.out.on (below_drewN (Below.refl _ _) nq))
 have a1: (w1.drewN nq).heap[w.heap.size]? = _ := a0
 have HBw := HB1
 clear HB0 HE1 HK1 a0 q2 q3 q4 gl kc0 kc1 hi1 hiw hb0 hb1 hneg hge kbl
 generalize w1.drewN nq = w2 at *
 have f1: w2.cell? ⟨w.heap.size,1,none⟩ = some (.bool n.leaf) := by rw [cell_of_row _ _ _ _ _ _ a1]; rfl
 have f2: w2.cell? ⟨w.heap.size,2,none⟩ = some (.slice la n.recs.length lc) := by rw [cell_of_row _ _ _ _ _ _ a1]; rfl
 have f3: w2.cell? ⟨w.heap.size,3,none⟩ = some (.slice lb n.kids.length ld') := by rw [cell_of_row _ _ _ _ _ _ a1]; rfl
 have fl := (Array.getElem?_eq_some_iff.1 a1).1
 try rw [hgn]
 go_cut [11,12] from 43 to 47 (fun s11 s12 wx => ∃ p1 p2,s11 = .pointer (some ⟨p1,0,none⟩) /\ s12 = .pointer (some ⟨p2,0,none⟩) /\ Hid (NdC wx p1 (.bool n.leaf) (.slice la n.recs.length lc) (.slice lb n.kids.length ld') /\ NdC wx p2 (.bool n.leaf) (.slice la n.recs.length lc) (.slice lb n.kids.length ld') /\ Below w2.heap.size w2 wx /\ p1 ≠ p2 /\ w2.heap.size <= p1 /\ w2.heap.size <= p2))
 case first =>
  have KS := thid (fun (W: World) (hb: Below w2.heap.size w2 W) => (⟨(hb.cell (p := ⟨w.heap.size,1,none⟩) fl).trans f1,(hb.cell (p := ⟨w.heap.size,2,none⟩) fl).trans f2,(hb.cell (p := ⟨w.heap.size,3,none⟩) fl).trans f3⟩: W.cell? ⟨w.heap.size,1,none⟩ = some (.bool n.leaf) /\ W.cell? ⟨w.heap.size,2,none⟩ = some (.slice la n.recs.length lc) /\ W.cell? ⟨w.heap.size,3,none⟩ = some (.slice lb n.kids.length ld')))
  go_region_held (fun w' => w'.cell? ⟨w.heap.size,1,none⟩ = some (.bool n.leaf) /\ w'.cell? ⟨w.heap.size,2,none⟩ = some (.slice la n.recs.length lc) /\ w'.cell? ⟨w.heap.size,3,none⟩ = some (.slice lb n.kids.length ld')) (exact KS.out _ (by repeat (first | exact Below.refl _ _ | exact (Below.refl _ _).drew | refine Below.drew ?_ | refine Below.alloc ?_ (by simp; try omega) _ | refine Below.setCell ?_ (by simp; try omega) _))) (fail)
  all_goals
   go_wp2_with fail
   go_meet
   refine ⟨_,_,rfl,rfl, ?_⟩
   have h := two_nodes w2 (.bool n.leaf) (.slice la n.recs.length lc) (.slice lb n.kids.length ld')
   first
    | exact ⟨h.1,h.2.1,h.2.2.drew,by omega,by omega,by omega⟩
    | exact ⟨h.2.1,h.1,h.2.2.drew,by omega,by omega,by omega⟩
 case rest =>
  obtain ⟨p1,p2,rfl,rfl,HC⟩ := hcut
  have HB3 := thid (tbelow_on HB1.out HC.out.2.2.1)
  have HE3 := thid (HE2.out.below HC.out.2.2.1)
  have HK3 := thid (HK2.out.on HC.out.2.2.1)
  have a2 := (HC.out.2.2.1.block _ fl).trans a1
  clear HB1 HE2 HK2 a1 f1 f2 f3 fl
  have r4: wc.cell? ⟨g,off + 4,none⟩ = some (.int .i64 (u.kid: Int)) := (cell_of_row _ _ _ _ _ _ HK3.out.blk).trans HK3.out.c4
  have gl := (Array.getElem?_eq_some_iff.1 HK3.out.blk).1
  obtain ⟨d0,_,_,_,_,_,d6,dl,df⟩ := HE3.out.ed.cells
  have f1: wc.cell? ⟨w.heap.size,1,none⟩ = some (.bool n.leaf) := by rw [cell_of_row _ _ _ _ _ _ a2]; rfl
  have fl := (Array.getElem?_eq_some_iff.1 a2).1
  go_upto_if 52 with fail
  go_cut [] from 43 to 70 (fun wx => Hid (Two2 w p1 p2 A C wx))
  case first =>
   rcases hsd with hk | hk
   · have hlt: decide ((i: Int) < (u.kid: Int)) = true := by simp; omega
     go_upto_region 6 with fail
     refine wp_region_quiet_tail (fun w' => ∃ n,w' = World.drewN wc n) 8 (by kernel_rfl) (by kernel_rfl) ⟨1,rfl⟩ ?_
     simp only [List.take_succ_cons,List.take_zero,List.drop_succ_cons,List.drop_zero]
     repeat (go_big_quiet_step (first | rfl | fail))
     refine wpQuiet_nil ?_
     rintro _ ⟨nq,rfl⟩
     have HL := thid (load_ok (w := wc.drewN nq) (HE3.out.below (below_drewN (Below.refl _ _) nq)).ar ho (HE3.out.below (below_drewN (Below.refl _ _) nq)).tr hm.page hm.shaped hm.size)
     rw [hl] at HL
     clear d0 d6 dl df f1 fl r4 gl
     go_wp2_with fail
     refine HL.out.mono ?_
     rintro e w4 ⟨v,rfl,ma,mc,mb,md,rfl,HO1,HO2,HB4⟩
     have HW4: Hid (Below wc.heap.size wc w4) := tbelow_on (below_drewN (Below.refl _ _) nq) HB4
     have HO := thid (And.intro HO1 HO2)
     have g1 := HC.out.1.on HW4.out
     have n0: w4.cell? ⟨p1,0,none⟩ = some (.bool n.leaf) := by rw [cell_of_row _ _ _ _ _ _ g1]; rfl
     have n1: w4.cell? ⟨p1,1,none⟩ = some (.slice la n.recs.length lc) := by rw [cell_of_row _ _ _ _ _ _ g1]; rfl
     have n2: w4.cell? ⟨p1,2,none⟩ = some (.slice lb n.kids.length ld') := by rw [cell_of_row _ _ _ _ _ _ g1]; rfl
     have nl := (Array.getElem?_eq_some_iff.1 g1).1
     have nf: ∀ i,w4.frozen? ⟨p1,i,none⟩ = false := fun i => frozen_of_row _ _ _ _ _ g1
     have HST := thid (g1.store (.bool m.leaf) (.slice ma m.recs.length mc) (.slice mb m.kids.length md))
     have hww: w.heap.size <= p1 := Nat.le_trans HBw.out.size HC.out.2.2.2.2.1
     have hh := stored HB3.out hww HC.out.1 HC.out.2.1 HC.out.2.2.2.1 hNR HW4.out HO.out.1 HO.out.2 HST.out.2
     have HF: Hid (Two2 w p1 p2 m n _) := ⟨_,_,_,_,_,_,_,_,HST.out.1,hh.1,hh.2.1,hh.2.2.1,hh.2.2.2⟩
     clear HL HB4 HO1 HO2 HO HC a2 HE3 HK3 HB3 HW4 hh HST g1
     unfold L5.nodeV
     go_wp2_with fail
     go_meet
     rw [hl] at HF
     exact HF
   · have hlt: decide ((i: Int) < (u.kid: Int)) = false := by simp; omega
     go_upto_region 7 with fail
     refine wp_region_quiet_tail (fun w' => ∃ n,w' = World.drewN wc n) 8 (by kernel_rfl) (by kernel_rfl) ⟨1,rfl⟩ ?_
     simp only [List.take_succ_cons,List.take_zero,List.drop_succ_cons,List.drop_zero]
     repeat (go_big_quiet_step (first | rfl | fail))
     refine wpQuiet_nil ?_
     rintro _ ⟨nq,rfl⟩
     have HL := thid (load_ok (w := wc.drewN nq) (HE3.out.below (below_drewN (Below.refl _ _) nq)).ar ho (HE3.out.below (below_drewN (Below.refl _ _) nq)).tr hm.page hm.shaped hm.size)
     rw [hl] at HL
     clear d0 d6 dl df f1 fl r4 gl
     go_wp2_with fail
     refine HL.out.mono ?_
     rintro e w4 ⟨v,rfl,ma,mc,mb,md,rfl,HO1,HO2,HB4⟩
     have HW4: Hid (Below wc.heap.size wc w4) := tbelow_on (below_drewN (Below.refl _ _) nq) HB4
     have HO := thid (And.intro HO1 HO2)
     have g1 := HC.out.2.1.on HW4.out
     have n0: w4.cell? ⟨p2,0,none⟩ = some (.bool n.leaf) := by rw [cell_of_row _ _ _ _ _ _ g1]; rfl
     have n1: w4.cell? ⟨p2,1,none⟩ = some (.slice la n.recs.length lc) := by rw [cell_of_row _ _ _ _ _ _ g1]; rfl
     have n2: w4.cell? ⟨p2,2,none⟩ = some (.slice lb n.kids.length ld') := by rw [cell_of_row _ _ _ _ _ _ g1]; rfl
     have nl := (Array.getElem?_eq_some_iff.1 g1).1
     have nf: ∀ i,w4.frozen? ⟨p2,i,none⟩ = false := fun i => frozen_of_row _ _ _ _ _ g1
     have HST := thid (g1.store (.bool m.leaf) (.slice ma m.recs.length mc) (.slice mb m.kids.length md))
     have hww: w.heap.size <= p2 := Nat.le_trans HBw.out.size HC.out.2.2.2.2.2
     have hh := stored HB3.out hww HC.out.2.1 HC.out.1 (fun e => HC.out.2.2.2.1 e.symm) hNR HW4.out HO.out.1 HO.out.2 HST.out.2
     have HF: Hid (Two2 w p1 p2 n m _) := ⟨_,_,_,_,_,_,_,_,hh.1,HST.out.1,hh.2.1,hh.2.2.2,hh.2.2.1⟩
     clear HL HB4 HO1 HO2 HO HC a2 HE3 HK3 HB3 HW4 hh HST g1
     unfold L5.nodeV
     go_wp2_with fail
     go_meet
     rw [hl] at HF
     exact HF
  case rest =>
   have HT := hcut
   clear hcut d0 d6 dl df f1 fl r4 gl a2 HE3 HK3 HB3 HC
   generalize wc = w5 at *
   obtain ⟨a1,c1,a2,c2,b1,e1,b2,e2,hp1,hp2,hb5,hA,hC⟩ := HT.out
   obtain ⟨rb,ro,hra,rbl,rcw⟩ := (L5.owns_rd_slice HKw.out.rr).2.2 i (.string sep) (by simp [L5.svs,hs])
   subst hra
   have gw := (Array.getElem?_eq_some_iff.1 HKw.out.blk).1
   have hcw: w.cell? ⟨g,off + 2,none⟩ = some (.slice (some ⟨rb,ro,none⟩) u.n.recs.length rc) := (cell_of_row _ _ _ _ _ _ HKw.out.blk).trans HKw.out.c2
   have HKS := thid (fun (W: World) (hb: Below w5.heap.size w5 W) => show (W.cell? ⟨p1,0,none⟩ = some (.bool A.leaf) /\ W.cell? ⟨p1,1,none⟩ = some (.slice a1 A.recs.length c1) /\ W.cell? ⟨p1,2,none⟩ = some (.slice a2 A.kids.length c2)) /\ (W.cell? ⟨p2,0,none⟩ = some (.bool C.leaf) /\ W.cell? ⟨p2,1,none⟩ = some (.slice b1 C.recs.length e1) /\ W.cell? ⟨p2,2,none⟩ = some (.slice b2 C.kids.length e2)) /\ W.cell? ⟨g,off + 2,none⟩ = some (.slice (some ⟨rb,ro,none⟩) u.n.recs.length rc) /\ W.cell? ⟨rb,ro + i,none⟩ = some (.string sep) from by
    have k1 := hp1.on hb
    have k2 := hp2.on hb
    have k3 := tbelow_on hb5 hb
    refine ⟨⟨?_, ?_, ?_⟩,⟨?_, ?_, ?_⟩,(k3.cell (p := ⟨g,off + 2,none⟩) gw).trans hcw,(k3.cell (p := ⟨rb,ro + i,none⟩) rbl).trans rcw⟩
    · rw [cell_of_row _ _ _ _ _ _ k1]; rfl
    · rw [cell_of_row _ _ _ _ _ _ k1]; rfl
    · rw [cell_of_row _ _ _ _ _ _ k1]; rfl
    · rw [cell_of_row _ _ _ _ _ _ k2]; rfl
    · rw [cell_of_row _ _ _ _ _ _ k2]; rfl
    · rw [cell_of_row _ _ _ _ _ _ k2]; rfl)
   have HJ := thid (fun (W: World) (hb: Below w5.heap.size w5 W) => join_any (hA.below hb) (hC.below hb) hAs hCs sep)
   have HB5 := thid hb5
   have gl5: g < w5.heap.size := Nat.lt_of_lt_of_le gw hb5.size
   have hb0: 0 <= (i: Int) /\ (i: Int) < (u.n.recs.length: Int) := by omega
   clear hp1 hp2 hb5 hA hC HT rcw rbl gw hcw
   go_upto_region 8 with fail
   go_cut [13] from 71 to 81 (fun s13 wx => ∃ p3,s13 = .pointer (some ⟨p3,0,none⟩) /\ Hid (Jnd w p3 (joinK A sep C) A.leaf wx))
   case first =>
    go_region_held (fun W => (W.cell? ⟨p1,0,none⟩ = some (.bool A.leaf) /\ W.cell? ⟨p1,1,none⟩ = some (.slice a1 A.recs.length c1) /\ W.cell? ⟨p1,2,none⟩ = some (.slice a2 A.kids.length c2)) /\ (W.cell? ⟨p2,0,none⟩ = some (.bool C.leaf) /\ W.cell? ⟨p2,1,none⟩ = some (.slice b1 C.recs.length e1) /\ W.cell? ⟨p2,2,none⟩ = some (.slice b2 C.kids.length e2)) /\ W.cell? ⟨g,off + 2,none⟩ = some (.slice (some ⟨rb,ro,none⟩) u.n.recs.length rc) /\ W.cell? ⟨rb,ro + i,none⟩ = some (.string sep)) (exact HKS.out _ (by repeat (first | assumption | exact Below.refl _ _ | exact (Below.refl _ _).drew | refine Below.drew ?_ | refine Below.alloc ?_ (by first | omega | (simp; done) | (simp; omega)) _ | refine Below.setCell ?_ (by first | omega | (simp; done) | (simp; omega)) _))) (first
     | (go_at_call 132
        refine (HJ.out _ (by repeat (first | exact Below.refl _ _ | exact (Below.refl _ _).drew | refine Below.drew ?_ | refine Below.alloc ?_ (by simp; try omega) _))).mono ?_
        rintro e w6 ⟨vr,vk,rfl,HR⟩
        obtain ⟨xa,xc,rfl⟩ := own_slice HR.o1
        obtain ⟨ya,yc,rfl⟩ := own_slice HR.o2
        have tb: Below w5.heap.size w5 w6 := tbelow_on (by repeat (first | exact Below.refl _ _ | exact (Below.refl _ _).drew | refine Below.drew ?_ | refine Below.alloc ?_ (by simp; try omega) _)) HR.below
        have tz := tb.size
        have g3: NdC w6 w5.heap.size (.bool false) (.slice none 0 0) (.slice none 0 0) := (HR.below.block _ (by simp)).trans (heap_alloc_new w5 (.cells #[.bool false, .slice none 0 0, .slice none 0 0] 69))
        have m0: w6.cell? ⟨w5.heap.size,0,none⟩ = some (.bool false) := by rw [cell_of_row _ _ _ _ _ _ g3]; rfl
        have m1: w6.cell? ⟨w5.heap.size,1,none⟩ = some (.slice none 0 0) := by rw [cell_of_row _ _ _ _ _ _ g3]; rfl
        have m2: w6.cell? ⟨w5.heap.size,2,none⟩ = some (.slice none 0 0) := by rw [cell_of_row _ _ _ _ _ _ g3]; rfl
        have ml := (Array.getElem?_eq_some_iff.1 g3).1
        have mf: ∀ i,w6.frozen? ⟨w5.heap.size,i,none⟩ = false := fun i => frozen_of_row _ _ _ _ _ g3)
     | (go_at_call 132
        refine (HJ.out _ (by repeat (first | exact Below.refl _ _ | exact (Below.refl _ _).drew | refine Below.drew ?_ | refine Below.alloc ?_ (by simp; try omega) _))).mono ?_
        rintro e w6 ⟨vr,vk,rfl,HR⟩
        obtain ⟨xa,xc,rfl⟩ := own_slice HR.o1
        obtain ⟨ya,yc,rfl⟩ := own_slice HR.o2
        have tb: Below w5.heap.size w5 w6 := tbelow_on (by repeat (first | exact Below.refl _ _ | exact (Below.refl _ _).drew | refine Below.drew ?_ | refine Below.alloc ?_ (by simp; try omega) _)) HR.below
        have tz := tb.size))
    all_goals
     go_wp2_with fail
     go_meet
     refine ⟨_,rfl, ?_⟩
     have hz5 := HB5.out.size
     first
      | exact jnd_new HB5.out tb (by simp; try omega) HR.o1 HR.o2
      | exact jnd_set HB5.out tb rfl (by simp; try omega) g3 HR.o1 HR.o2
   case rest =>
    obtain ⟨p3,rfl,HT⟩ := hcut
    clear HKS HJ HB5 gl5 hb0
    generalize wc = w7 at *
    obtain ⟨J,hJ⟩: ∃ J,J = joinK A sep C := ⟨_,rfl⟩
    have hJl: J.leaf = A.leaf := by rw [hJ]; exact joinK_leaf _ _ _
    rw [<- hJ, <- hJl] at HT
    rw [<- hJ] at hJs
    have HJQ := thid hJ
    clear hJl hJ
    obtain ⟨ja,jc,jb,jd,hp3,o1,o2,hb7⟩ := HT.out
    have HS := thid (L5.size_walk (⟨L5.owns_rd_slice o1,L5.owns_rd_slice o2⟩: L5.NR w7 J ja jc jb jd) hJs)
    have j0: w7.cell? ⟨p3,0,none⟩ = some (.bool J.leaf) := by rw [cell_of_row _ _ _ _ _ _ hp3]; rfl
    have j1: w7.cell? ⟨p3,1,none⟩ = some (.slice ja J.recs.length jc) := by rw [cell_of_row _ _ _ _ _ _ hp3]; rfl
    have j2: w7.cell? ⟨p3,2,none⟩ = some (.slice jb J.kids.length jd) := by rw [cell_of_row _ _ _ _ _ _ hp3]; rfl
    have jl := (Array.getElem?_eq_some_iff.1 hp3).1
    have HO := thid (And.intro hp3 (And.intro o1 (And.intro o2 hb7)))
    clear hp3 o1 o2 hb7 HT
    unfold L5.nodeV at HS
    go_wp2_with fail
    refine HS.out.mono ?_
    rintro e w8 ⟨rfl,HB8⟩
    have HB8 := thid HB8
    clear HS j0 j1 j2 jl
    by_cases hz: J.size <= 1024
    · have hz': decide (1024 < (J.size: Int)) = false := by simp; omega
      have hp8 := HO.out.1.on HB8.out
      have j0: w8.cell? ⟨p3,0,none⟩ = some (.bool J.leaf) := by rw [cell_of_row _ _ _ _ _ _ hp8]; rfl
      have j1: w8.cell? ⟨p3,1,none⟩ = some (.slice ja J.recs.length jc) := by rw [cell_of_row _ _ _ _ _ _ hp8]; rfl
      have j2: w8.cell? ⟨p3,2,none⟩ = some (.slice jb J.kids.length jd) := by rw [cell_of_row _ _ _ _ _ _ hp8]; rfl
      have jl := (Array.getElem?_eq_some_iff.1 hp8).1
      have hb8 := tbelow_on HO.out.2.2.2 HB8.out
      have HE8 := thid (HEw.out.below hb8)
      have HBw8 := thid hb8
      have zw := hb8.size
      have yr: w8.ownsRow w.heap.size 9 1 (.slice ja J.recs.length jc) J.recs.length (L5.svs J.recs) := L5.owns_of_block HO.out.2.1 fun q hq => HB8.out.block q (HO.out.2.1.lt q hq).2
      have yk: w8.ownsRow w.heap.size 3 1 (.slice jb J.kids.length jd) J.kids.length (L5.ivs J.kids) := L5.owns_of_block HO.out.2.2.1 fun q hq => HB8.out.block q (HO.out.2.2.1.lt q hq).2
      have HP := thid (put_ok2 (at_ := pl) HE8.out hL (owns_weak yr HEw.out.bs) (owns_weak yk HEw.out.bs) (fun q hq e => by
       have := (yk.lt q e).1
       have := L4.arSt.lt s w q HEw.out.ar hq
       omega) (fun q hq e => by
       have := (yk.lt q e).1
       have := (HEw.out.rt.lt q hq).2
       omega) (fun q hq e => by
       have := (yk.lt q e).1
       have := (HEw.out.rg.lt q hq).2
       omega))
      clear yr yk hb8 hp8 HE8 HB8
      go_wp2_with fail
      refine HP.out.mono ?_
      rintro e w9 ⟨rfl,ld9,E9,_,O9,N9⟩
      have HE9 := thid E9
      have HO9 := thid O9
      have HN9 := thid N9
      clear HP E9 O9 N9 j0 j1 j2 jl
      have HB2: Hid (Below w9.heap.size w9 (w9.alloc (.cells #[.int .i64 (pr: Int)] 3))) := tbelow _ _
      have HK2 := thid (HE9.out.below HB2.out)
      obtain ⟨d0,d1,d2,d3,d4,d5,d6,dl,df⟩ := HE9.out.ed.cells
      have HC: Hid ((w9.alloc (.cells #[.int .i64 (pr: Int)] 3)).cell? ⟨w9.heap.size,0,none⟩ = some (.int .i64 (pr: Int))) := by
       show World.cell? _ _ = _
       rw [cell_of_row _ _ _ _ _ _ (heap_alloc_new _ _)]
       rfl
      go_wp2_with (first
       | (at_builtin
          refine list_gone rfl B HK2.out.bs _ _ rfl gn G.length _ (pr: Int) rfl HK2.out.rg (by omega) w9.heap.size 1 rfl HC.out ?_
          intro v2 w10 hown hgr hnw
          obtain ⟨ad2,cp2,rfl⟩ := own_slice hown
          obtain ⟨g1,g2,g3,g4⟩ := HE9.out.gave (nx := pr) HB2.out hgr rfl hown hnw
          have HM := thid (And.intro g1 (And.intro g3 g4))
          have x2: w10.heap[x]? = some (.cells #[.pointer (some ⟨t,0,none⟩), .int .i64 (xr: Int), .int .i64 (xh: Int), .int .i64 (xl: Int),tk,ld9,gn] 66 (0,0)) := by
           rw [hgr.block x (Nat.lt_of_lt_of_le dl HB2.out.size) (fun e => row_ne HK2.out.ed HK2.out.rg (by decide) e.symm)]
           exact HK2.out.ed
          have y6: w10.cell? ⟨x,6,none⟩ = some gn := (EdC.cells x2).2.2.2.2.2.2.1
          have yl := (EdC.cells x2).2.2.2.2.2.2.2.1
          have yf := (EdC.cells x2).2.2.2.2.2.2.2.2
          clear g1 g2 g3 g4 hown hgr hnw x2 d0 d1 d2 d3 d4 d5 d6 dl df)
       | fail)
      go_upto_region 13 with fail
      clear y6 yl yf HC HK2 HB2
      generalize (w10.setCell ⟨x,6,none⟩ (.slice ad2 (G.length + 1) cp2)) = wc at *
      have HKP := thid (fun (q: Nat) (hq: q < B) (hx: q ≠ x) => show wc.heap[q]? = w.heap[q]? from by
       have z0 := HEw.out.bs
       rw [HM.out.2.1.block q (by have := HO9.out.size; omega) (fun z => by
        rcases z with z | z
        · exact hx z
        · have := (HEw.out.rg.lt q z).1
          omega),HO9.out.block q (by omega) (fun z => by
        rcases z with z | z
        · exact hx z
        · have := (HEw.out.rl.lt q z).1
          omega),HBw8.out.block q (by omega)])
      have HBK: Hid (wc.heap[g]? = some (.cells cs 104 (0,0))) := (HKP.out g zg (tag_ne HKw.out.blk HEw.out.ed (by decide))).trans HKw.out.blk
      have HRR := thid (L5.owns_of_block HKw.out.rr fun q hq => HKP.out q (zr q hq) fun e => row_ne HEw.out.ed HKw.out.rr (by decide) (e ▸ hq))
      have HRK := thid (L5.owns_of_block HKw.out.rk fun q hq => HKP.out q (zk q hq).1 fun e => row_ne HEw.out.ed HKw.out.rk (by decide) (e ▸ hq))
      have HCU := thid (cut_ok (i := i) (kid := i + 1) HBK.out HKw.out.c2 HKw.out.c3 HRR.out HRK.out (fun _ => hir) hik hus)
      have hci: ((i + 1: Nat): Int) = (i: Int) + 1 := by omega
      rw [hci] at HCU
      have hiw: IntKind.i64.wrap ((i: Int) + 1) = (i: Int) + 1 := by rw [IntKind.wrap_i64]; have := hus.kids; omega
      go_wp2_with fail
      rw [show wrap64 ((i: Int) + 1) = (i: Int) + 1 by have := hus.kids; unfold wrap64; omega]
      refine HCU.out.mono ?_
      rintro e w11 ⟨rfl,vr',vk',hC⟩
      have HF: Hid (JoinG N B s t x r h l xr xh xl tk ld gn T Ld G g off cs u (.slice (some ⟨rb,ro,none⟩) u.n.recs.length rc) (.slice (some ⟨kb,ko,none⟩) u.n.kids.length kc) i pl pr J w ld9 (.slice ad2 (G.length + 1) cp2) vr' vk' (.slice ja J.recs.length jc) (.slice jb J.kids.length jd) w11) := by
       obtain ⟨m1,m2,m3⟩ := HM.out
       have z0 := HBw8.out.size
       have z9 := HO9.out.size
       refine ⟨m1.keep (Z := fun q => q = g \/ (Value.slice (some ⟨rb,ro,none⟩) u.n.recs.length rc).ownBlock = some q \/ (Value.slice (some ⟨kb,ko,none⟩) u.n.kids.length kc).ownBlock = some q) hC.only.size (fun q hq hz => hC.only.block q hq hz) (fun q hz => by
        rcases hz with rfl | hz | hz
        · exact zg
        · exact zr q hz
        · exact (zk q hz).1) (fun q hz => by
        rcases hz with rfl | hz | hz
        · exact not_own m1.ar HBK.out (by decide) (by decide) (by decide)
        · exact row_not_own m1.ar HRR.out (by decide) (by decide) (by decide) hz
        · exact (zk q hz).2) (fun q hz => by
        rcases hz with rfl | hz | hz
        · exact ⟨tag_ne HBK.out m1.tr.blk (by decide),tag_ne HBK.out m1.ed (by decide)⟩
        · exact ⟨fun e => row_ne m1.tr.blk HRR.out (by decide) (e ▸ hz),fun e => row_ne m1.ed HRR.out (by decide) (e ▸ hz)⟩
        · exact ⟨fun e => row_ne m1.tr.blk HRK.out (by decide) (e ▸ hz),fun e => row_ne m1.ed HRK.out (by decide) (e ▸ hz)⟩) (fun q hz cc hq => by
        rcases hz with rfl | hz | hz
        · rw [HBK.out] at hq; simp at hq
        · exact row_ne hq HRR.out (by decide) hz
        · exact row_ne hq HRK.out (by decide) hz),hC.blk,hC.rr,hC.rk, ?_,hC.nr,hC.nk,fun q hq => (m3 q hq).imp id fun y => by omega,fun q hq => (HN9.out q hq).imp id fun y => by omega⟩
       exact (((Only.of_below HBw8.out).trans (HO9.out.weaken fun q _ y => y.imp id Or.inl)).trans (m2.weaken fun q _ y => y.imp id fun z => Or.inr (Or.inl z))).trans (hC.only.weaken fun q _ y => Or.inr (Or.inr (Or.inr y)))
      clear hC HCU HM HKw HEw HBK HRR HRK HKP HBw8 HO9 HN9 HE9 HO
      go_wp2_with fail
      go_ret
      exact Or.inr ⟨by rw [<- HJQ.out]; exact hz,rfl,_,_,_,_,_,_,HJQ.out ▸ HF.out⟩
    · have hz': decide (1024 < (J.size: Int)) = true := by simp; omega
      have HF: Hid (Below w.heap.size w w8) := tbelow_on HO.out.2.2.2 HB8.out
      clear HB8 HO HEw HKw
      go_wp2_with fail
      go_ret
      exact Or.inl ⟨by rw [<- HJQ.out]; omega,rfl,HF.out⟩
structure Lose (N B: Nat) (s: Ar) (t x r h l xr xh xl: Nat) (tk ld gn: Value) (T: List Nat) (Ld': List Lay) (G': List Nat) (g off: Nat) (cs: Array Value) (c: L5.No) (vr vk: Value) (w: World) (ld' gn' vr' vk': Value) (w': World): Prop where
 es: Es B s t x r h l xr xh xl tk ld' gn' T Ld' G' w'
 blk: w'.heap[g]? = some (.cells ((cs.setIfInBounds (off + 2) vr').setIfInBounds (off + 3) vk') 104 (0,0))
 rr: w'.ownsRow N 9 1 vr' c.recs.length (L5.svs c.recs)
 rk: w'.ownsRow N 3 1 vk' c.kids.length (L5.ivs c.kids)
 only: Only (fun q => q = x \/ ld.ownBlock = some q \/ gn.ownBlock = some q \/ q = g \/ vr.ownBlock = some q \/ vk.ownBlock = some q) w w'
 nr: vr'.ownBlock = vr.ownBlock
 nk: vk'.ownBlock = vk.ownBlock
 ng: ∀ q,gn'.ownBlock = some q -> gn.ownBlock = some q \/ w.heap.size <= q
 nl: ∀ q,ld'.ownBlock = some q -> ld.ownBlock = some q \/ w.heap.size <= q
section
variable {N B: Nat} {s: Ar} {t x r h l xr xh xl: Nat} {tk ld gn: Value} {T: List Nat} {Ld: List Lay} {G: List Nat} {g off: Nat} {cs: Array Value} {u: Pl} {vr vk: Value} {w w': World}
theorem LostG.lose {gn' vr' vk': Value} (k: LostG N B s t x r h l xr xh xl tk ld gn T Ld G g off cs u vr vk w gn' vr' vk' w'): Lose N B s t x r h l xr xh xl tk ld gn T Ld G g off cs (cutK u.n (u.kid - 1) u.kid) vr vk w ld gn' vr' vk' w' :=
 ⟨k.es,k.blk,k.rr,k.rk,k.only.weaken fun q _ hz => by
  rcases hz with hz | hz | hz
  · exact Or.inl hz
  · exact Or.inr (Or.inr (Or.inl hz))
  · exact Or.inr (Or.inr (Or.inr hz)),k.nr,k.nk,k.ng,fun q hq => Or.inl hq⟩
theorem JoinG.lose {i pl pr: Nat} {J: L5.No} {ld' gn' vr' vk' vjr vjk: Value} (k: JoinG N B s t x r h l xr xh xl tk ld gn T Ld G g off cs u vr vk i pl pr J w ld' gn' vr' vk' vjr vjk w'): Lose N B s t x r h l xr xh xl tk ld gn T (Ld ++ [⟨pl,J,vjr,vjk,0⟩]) (G ++ [pr]) g off cs (cutK u.n i (i + 1)) vr vk w ld' gn' vr' vk' w' :=
 ⟨k.es,k.blk,k.rr,k.rk,k.only,k.nr,k.nk,k.ng,k.nl⟩
theorem Lose.from {Ld': List Lay} {G': List Nat} {c: L5.No} {ld' gn' vr' vk': Value} {w1: World} (k: Lose N B s t x r h l xr xh xl tk ld gn T Ld' G' g off cs c vr vk w1 ld' gn' vr' vk' w') (hb: Below w.heap.size w w1): Lose N B s t x r h l xr xh xl tk ld gn T Ld' G' g off cs c vr vk w ld' gn' vr' vk' w' :=
 ⟨k.es,k.blk,k.rr,k.rk,(Only.of_below hb).trans k.only,k.nr,k.nk,fun q hq => (k.ng q hq).imp id fun e => Nat.le_trans hb.size e,fun q hq => (k.nl q hq).imp id fun e => Nat.le_trans hb.size e⟩
end
inductive Lost (a: Abs) (u: Pl) (at_: Nat) (n: L5.No): Bool -> List (Nat × L5.No) -> Nat -> L5.No -> Prop
 | none (h0: n.recs.length + n.kids.length ≠ 0) (hf: NoFit a u n): Lost a u at_ n false [] 0 u.n
 | gone (h0: n.recs.length + n.kids.length = 0): Lost a u at_ n true [] at_ (cutK u.n (u.kid - 1) u.kid)
 | left {c: Nat} {m: L5.No} {sep: ByteArray} (h0: n.recs.length + n.kids.length ≠ 0) (hk: 1 <= u.kid) (hs: u.n.recs[u.kid - 1]? = some sep) (hc: u.n.kids[u.kid - 1]? = some (c: Int)) (hm: Holds a c m) (hz: (joinK m sep n).size <= 1024): Lost a u at_ n true [(c,joinK m sep n)] at_ (cutK u.n (u.kid - 1) u.kid)
 | right {c: Nat} {m: L5.No} {sep: ByteArray} (h0: n.recs.length + n.kids.length ≠ 0) (hs: u.n.recs[u.kid]? = some sep) (hc: u.n.kids[u.kid + 1]? = some (c: Int)) (hm: Holds a c m) (hz: (joinK n sep m).size <= 1024): Lost a u at_ n true [(at_,joinK n sep m)] c (cutK u.n u.kid (u.kid + 1))
theorem Lost.shr {a: Abs} {u: Pl} {us: List Pl} {at_: Nat} {n c: L5.No} {y: List (Nat × L5.No)} {z: Nat} (k: Lost a u at_ n true y z c): ∀ L G o,Shr a us u.at_ c L G o -> Shr a (u :: us) at_ n (y ++ L) (z :: G) o := by
 intro L G o s
 cases k with
 | gone h0 => exact .gone h0 s
 | left h0 hk hs hc hm hz => exact .left h0 hk hs hc hm hz s
 | right h0 hs hc hm hz => exact .right h0 hs hc hm hz s
theorem weigh_len (l: List ByteArray): 4 * l.length <= L5.weigh l := by
 unfold L5.weigh
 induction l with
 | nil => simp
 | cons a l ih => simp; omega
theorem weigh_mem {l: List ByteArray} {s: ByteArray} (h: s ∈ l): s.size <= L5.weigh l := by
 unfold L5.weigh
 induction l with
 | nil => cases h
 | cons a l ih =>
  rcases List.mem_cons.1 h with rfl | h
  · simp; omega
  · have := ih h; simp; omega
theorem small_size {n: L5.No} (h: n.size <= 1024): n.small := by
 unfold L5.No.size at h
 have := weigh_len n.recs
 exact ⟨by omega,by omega,fun s hs => by have := weigh_mem hs; omega⟩
theorem joinK_small {A C: L5.No} {sep: ByteArray} (hA: A.size <= 1024) (hC: C.size <= 1024) (hs: sep.size <= 400): (joinK A sep C).small := by
 have a := small_size hA
 have c := small_size hC
 unfold L5.No.size at hA hC
 have h1 := weigh_len A.recs
 have h2 := weigh_len C.recs
 unfold joinK
 split
 · exact ⟨by simp; omega,by simp,fun s h => by
    simp only [List.mem_append] at h
    rcases h with h | h
    · exact a.each s h
    · exact c.each s h⟩
 · exact ⟨by simp; omega,by simp; omega,fun s h => by
    simp only [List.mem_append,List.mem_singleton] at h
    rcases h with (h | h) | h
    · exact a.each s h
    · subst h; omega
    · exact c.each s h⟩
theorem cutK_size (n: L5.No) (i kid: Nat): (cutK n i kid).size <= n.size := by
 unfold L5.No.size cutK
 simp only
 have h1: (n.kids.take kid ++ n.kids.drop (kid + 1)).length <= n.kids.length := by simp; omega
 have h2: L5.weigh (if n.recs.length = 0 then [] else n.recs.take i ++ n.recs.drop (i + 1)) <= L5.weigh n.recs := by
  split
  · simp [L5.weigh]
  · refine weigh_sublist ?_
    conv => rhs; rw [<- List.take_append_drop i n.recs]
    refine (List.Sublist.refl _).append ?_
    rw [<- List.drop_drop]
    exact List.drop_sublist _ _
 omega
def prs (Ld: List Lay): List (Nat × L5.No) := Ld.map fun y => (y.at_,y.n)
def LostQ (N B: Nat) (s: Ar) (t x r h l xr xh xl: Nat) (tk ld gn: Value) (T: List Nat) (Ld: List Lay) (G: List Nat) (g off: Nat) (cs: Array Value) (u: Pl) (vr vk: Value) (at_: Nat) (n: L5.No) (w: World) (b: Bool) (w': World): Prop :=
 ∃ y z c,Lost s.abs u at_ n b y z c /\ (b = false -> Below w.heap.size w w') /\ (b = true -> ∃ Ld' ld' gn' vr' vk',prs Ld' = prs Ld ++ y /\ Ld'.length <= Ld.length + 1 /\ Lose N B s t x r h l xr xh xl tk ld gn T Ld' (G ++ [z]) g off cs c vr vk w ld' gn' vr' vk' w')
theorem Lost.of_holds_left {a: Abs} {u: Pl} {n m: L5.No} {c: Nat} {sep: ByteArray} (hs: u.n.recs[u.kid - 1]? = some sep) (hc: u.n.kids[u.kid - 1]? = some (c: Int)) (hm: Holds a c m) (hz: 1024 < (joinK m sep n).size): ∀ (c: Nat) (m: L5.No) (sep: ByteArray),1 <= u.kid -> u.n.recs[u.kid - 1]? = some sep -> u.n.kids[u.kid - 1]? = some (c: Int) -> Holds a c m -> 1024 < (joinK m sep n).size := by
 intro c' m' sep' _ h1 h2 h3
 rw [hs] at h1; cases h1
 rw [hc] at h2
 have e: c = c' := by have := Option.some.inj h2; omega
 subst e
 rw [<- hm.uniq h3]
 exact hz
theorem Lost.of_holds_right {a: Abs} {u: Pl} {n m: L5.No} {c: Nat} {sep: ByteArray} (hs: u.n.recs[u.kid]? = some sep) (hc: u.n.kids[u.kid + 1]? = some (c: Int)) (hm: Holds a c m) (hz: 1024 < (joinK n sep m).size): ∀ (c: Nat) (m: L5.No) (sep: ByteArray),u.n.recs[u.kid]? = some sep -> u.n.kids[u.kid + 1]? = some (c: Int) -> Holds a c m -> 1024 < (joinK n sep m).size := by
 intro c' m' sep' h1 h2 h3
 rw [hs] at h1; cases h1
 rw [hc] at h2
 have e: c = c' := by have := Option.some.inj h2; omega
 subst e
 rw [<- hm.uniq h3]
 exact hz
theorem sum_ne {a b: Nat} (h: a + b ≠ 0): ((a: Int) + (b: Int) == 0) = false := by
 rw [beq_eq_false_iff_ne]
 omega
section
variable {N B: Nat} {s: Ar} {t x r h l xr xh xl: Nat} {tk ld gn: Value} {T: List Nat} {Ld: List Lay} {G: List Nat} {w: World} {g off: Nat} {cs: Array Value} {u: Pl} {vr vk: Value} {n: L5.No} {at_ kid: Nat} {la lb: Option Addr} {lc ld': Nat}
def TryL (N B: Nat) (s: Ar) (t x r h l xr xh xl: Nat) (tk ld gn: Value) (T: List Nat) (Ld: List Lay) (G: List Nat) (g off: Nat) (cs: Array Value) (u: Pl) (vr vk: Value) (at_: Nat) (n: L5.No) (w: World) (b: Bool) (w': World): Prop :=
 (b = false /\ Below w.heap.size w w' /\ ∀ (c: Nat) (m: L5.No) (sep: ByteArray),1 <= u.kid -> u.n.recs[u.kid - 1]? = some sep -> u.n.kids[u.kid - 1]? = some (c: Int) -> Holds s.abs c m -> 1024 < (joinK m sep n).size) \/ (b = true /\ LostQ N B s t x r h l xr xh xl tk ld gn T Ld G g off cs u vr vk at_ n w true w')
def TryR (N B: Nat) (s: Ar) (t x r h l xr xh xl: Nat) (tk ld gn: Value) (T: List Nat) (Ld: List Lay) (G: List Nat) (g off: Nat) (cs: Array Value) (u: Pl) (vr vk: Value) (at_: Nat) (n: L5.No) (w: World) (b: Bool) (w': World): Prop :=
 (b = false /\ Below w.heap.size w w' /\ ∀ (c: Nat) (m: L5.No) (sep: ByteArray),u.n.recs[u.kid]? = some sep -> u.n.kids[u.kid + 1]? = some (c: Int) -> Holds s.abs c m -> 1024 < (joinK n sep m).size) \/ (b = true /\ LostQ N B s t x r h l xr xh xl tk ld gn T Ld G g off cs u vr vk at_ n w true w')
theorem LostQ.from {b: Bool} {w1 w': World} (k: LostQ N B s t x r h l xr xh xl tk ld gn T Ld G g off cs u vr vk at_ n w1 b w') (hb: Below w.heap.size w w1): LostQ N B s t x r h l xr xh xl tk ld gn T Ld G g off cs u vr vk at_ n w b w' := by
 obtain ⟨y,z,c,h1,h2,h3⟩ := k
 refine ⟨y,z,c,h1,fun e => tbelow_on hb (h2 e),fun e => ?_⟩
 obtain ⟨Ld',ld',gn',vr',vk',j1,j2,j3⟩ := h3 e
 exact ⟨Ld',ld',gn',vr',vk',j1,j2,j3.from hb⟩
theorem try_left (hE: Es B s t x r h l xr xh xl tk ld gn T Ld G w) (ho: s.abs.Ok) (hL: Ld.length <= 10000) (hG: G.length <= 10000) (k: UpS N w g off cs u vr vk) (hNR: L5.NR w n la lc lb ld') (h0: n.recs.length + n.kids.length ≠ 0) (hus: u.n.shaped = true) (huz: u.n.size <= 1024) (hnz: n.size <= 1024) (hat: u.n.kids[u.kid]? = some (at_: Int)) (hbs: Beside s.abs u n.leaf) (zg: g < B) (zr: ∀ q,vr.ownBlock = some q -> q < B) (zk: ∀ q,vk.ownBlock = some q -> q < B /\ ¬ s.own q) :
 Calls Tryz.prog 109 #[.pointer (some ⟨x,0,none⟩), .pointer (some ⟨g,off,none⟩), .int .i64 ((u.kid: Int) - 1), .agg #[.int .i64 (at_: Int), .bool n.leaf, .slice la n.recs.length lc, .slice lb n.kids.length ld', .int .i64 (kid: Int)]] w fun e w' => ∃ b,e = .returned (.bool b) /\ TryL N B s t x r h l xr xh xl tk ld gn T Ld G g off cs u vr vk at_ n w b w' := by
 by_cases hk: 1 <= u.kid
 · obtain ⟨c,m,sep,e1,e2,hm,hml⟩ := hbs.1 hk
   have hsz: sep.size <= 400 := ((shaped_recs hus).1 sep (List.mem_of_getElem? e1)).2
   have hi: ((u.kid: Int) - 1) = ((u.kid - 1: Nat): Int) := by omega
   rw [hi]
   refine (joined_any (kid := kid) (i := u.kid - 1) hE ho k hNR (.left (by omega)) e1 e2 (by rw [show u.kid - 1 + 1 = u.kid by omega]; exact hat) hm hml (small_size huz) hm.small (small_size hnz) (joinK_small hm.size hnz hsz) hL hG zg zr zk).mono ?_
   rintro e w' (⟨hz,rfl,hb⟩ | ⟨hz,rfl,ld2,gn2,vr2,vk2,vjr,vjk,hJ⟩)
   · exact ⟨false,rfl,Or.inl ⟨rfl,hb,Lost.of_holds_left e1 e2 hm hz⟩⟩
   · have hJ' := hJ.lose
     rw [show u.kid - 1 + 1 = u.kid by omega] at hJ'
     exact ⟨true,rfl,Or.inr ⟨rfl,_,_,_, .left h0 hk e1 e2 hm hz,(fun e => by cases e),fun _ => ⟨_,_,_,_,_,by simp [prs],by simp,hJ'⟩⟩⟩
 · have: u.kid = 0 := by omega
   refine (joined_none k (Or.inl (by omega))).mono ?_
   rintro e w' ⟨rfl,hb⟩
   exact ⟨false,rfl,Or.inl ⟨rfl,hb,fun c m sep h => absurd h hk⟩⟩
theorem try_right (hE: Es B s t x r h l xr xh xl tk ld gn T Ld G w) (ho: s.abs.Ok) (hL: Ld.length <= 10000) (hG: G.length <= 10000) (k: UpS N w g off cs u vr vk) (hNR: L5.NR w n la lc lb ld') (h0: n.recs.length + n.kids.length ≠ 0) (hus: u.n.shaped = true) (huz: u.n.size <= 1024) (hnz: n.size <= 1024) (hat: u.n.kids[u.kid]? = some (at_: Int)) (hbs: Beside s.abs u n.leaf) (zg: g < B) (zr: ∀ q,vr.ownBlock = some q -> q < B) (zk: ∀ q,vk.ownBlock = some q -> q < B /\ ¬ s.own q) :
 Calls Tryz.prog 109 #[.pointer (some ⟨x,0,none⟩), .pointer (some ⟨g,off,none⟩), .int .i64 (u.kid: Int), .agg #[.int .i64 (at_: Int), .bool n.leaf, .slice la n.recs.length lc, .slice lb n.kids.length ld', .int .i64 (kid: Int)]] w fun e w' => ∃ b,e = .returned (.bool b) /\ TryR N B s t x r h l xr xh xl tk ld gn T Ld G g off cs u vr vk at_ n w b w' := by
 by_cases hk: u.kid < u.n.recs.length
 · obtain ⟨c,m,sep,e1,e2,hm,hml⟩ := hbs.2 hk
   have hsz: sep.size <= 400 := ((shaped_recs hus).1 sep (List.mem_of_getElem? e1)).2
   refine (joined_any (kid := kid) (i := u.kid) hE ho k hNR (.right rfl) e1 hat e2 hm hml (small_size huz) (small_size hnz) hm.small (joinK_small hnz hm.size hsz) hL hG zg zr zk).mono ?_
   rintro e w' (⟨hz,rfl,hb⟩ | ⟨hz,rfl,ld2,gn2,vr2,vk2,vjr,vjk,hJ⟩)
   · exact ⟨false,rfl,Or.inl ⟨rfl,hb,Lost.of_holds_right e1 e2 hm hz⟩⟩
   · exact ⟨true,rfl,Or.inr ⟨rfl,_,_,_, .right h0 e1 e2 hm hz,(fun e => by cases e),fun _ => ⟨_,_,_,_,_,by simp [prs],by simp,hJ.lose⟩⟩⟩
 · refine (joined_none k (Or.inr (by omega))).mono ?_
   rintro e w' ⟨rfl,hb⟩
   exact ⟨false,rfl,Or.inl ⟨rfl,hb,fun c m sep h => absurd (List.getElem?_eq_some_iff.1 h).1 hk⟩⟩
theorem lost_full (hE: Es B s t x r h l xr xh xl tk ld gn T Ld G w) (ho: s.abs.Ok) (hL: Ld.length <= 10000) (hG: G.length <= 10000) (k: UpS N w g off cs u vr vk) (hNR: L5.NR w n la lc lb ld') (h0: n.recs.length + n.kids.length ≠ 0) (hus: u.n.shaped = true) (huz: u.n.size <= 1024) (hnz: n.size <= 1024) (hat: u.n.kids[u.kid]? = some (at_: Int)) (hbs: Beside s.abs u n.leaf) (zg: g < B) (zr: ∀ q,vr.ownBlock = some q -> q < B) (zk: ∀ q,vk.ownBlock = some q -> q < B /\ ¬ s.own q) :
 Calls Tryz.prog 95 #[.pointer (some ⟨x,0,none⟩), .pointer (some ⟨g,off,none⟩), .agg #[.int .i64 (at_: Int), .bool n.leaf, .slice la n.recs.length lc, .slice lb n.kids.length ld', .int .i64 (kid: Int)]] w fun e w' => ∃ b,e = .returned (.bool b) /\ LostQ N B s t x r h l xr xh xl tk ld gn T Ld G g off cs u vr vk at_ n w b w' := by
 have HB0 := thid (tbelow w (.cells #[.int .i64 (at_: Int), .bool n.leaf, .slice la n.recs.length lc, .slice lb n.kids.length ld', .int .i64 (kid: Int)] 104))
 have a0 := heap_alloc_new w (.cells #[.int .i64 (at_: Int), .bool n.leaf, .slice la n.recs.length lc, .slice lb n.kids.length ld', .int .i64 (kid: Int)] 104)
 have hsn := small_size hnz
 have hr1 := hsn.recs
 have hk1 := hsn.kids
 have hkl: u.kid < u.n.kids.length := (List.getElem?_eq_some_iff.1 hat).1
 have hk2 := (small_size huz).kids
 have hsw: wrap64 ((n.recs.length: Int) + (n.kids.length: Int)) = (n.recs.length: Int) + (n.kids.length: Int) := by unfold wrap64; omega
 have hsz: ((n.recs.length: Int) + (n.kids.length: Int) == 0) = false := sum_ne h0
 have hws: wrap64 ((u.kid: Int) - 1) = (u.kid: Int) - 1 := by unfold wrap64; omega
 have HTL := thid (fun (W: World) (hb: Below w.heap.size w W) => try_left (kid := kid) (hE.below hb) ho hL hG (k.on hb) (hNR.below hb) h0 hus huz hnz hat hbs zg zr zk)
 have HTR := thid (fun (W: World) (hb: Below w.heap.size w W) => try_right (kid := kid) (hE.below hb) ho hL hG (k.on hb) (hNR.below hb) h0 hus huz hnz hat hbs zg zr zk)
 have HUP := thid (fun (W: World) (hb: Below w.heap.size w W) => (And.intro ((cell_of_row _ _ _ _ _ _ (k.on hb).blk).trans k.c4) (Array.getElem?_eq_some_iff.1 (k.on hb).blk).1: W.cell? ⟨g,off + 4,none⟩ = some (.int .i64 (u.kid: Int)) /\ g < W.heap.size))
 have HLW := thid (fun (W: World) (hb: Below (w.alloc (.cells #[.int .i64 (at_: Int), .bool n.leaf, .slice la n.recs.length lc, .slice lb n.kids.length ld', .int .i64 (kid: Int)] 104)).heap.size (w.alloc (.cells #[.int .i64 (at_: Int), .bool n.leaf, .slice la n.recs.length lc, .slice lb n.kids.length ld', .int .i64 (kid: Int)] 104)) W) => (hb.block w.heap.size (by simp)).trans a0)
 have H0 := thid h0
 have p4 := (HUP.out _ HB0.out).1
 have pl := (HUP.out _ HB0.out).2
 clear hE k hNR zg zr zk hat hbs hkl hk2 hr1 hk1 hsn h0
 go_enter Tryz.func95,Tryz.ntmps95
 go_wp2_with fail
 generalize w.alloc (.cells #[.int .i64 (at_: Int), .bool n.leaf, .slice la n.recs.length lc, .slice lb n.kids.length ld', .int .i64 (kid: Int)] 104) = W1 at *
 have f0: W1.cell? ⟨w.heap.size,0,none⟩ = some (.int .i64 (at_: Int)) := by rw [cell_of_row _ _ _ _ _ _ a0]; rfl
 have f1: W1.cell? ⟨w.heap.size,1,none⟩ = some (.bool n.leaf) := by rw [cell_of_row _ _ _ _ _ _ a0]; rfl
 have f2: W1.cell? ⟨w.heap.size,2,none⟩ = some (.slice la n.recs.length lc) := by rw [cell_of_row _ _ _ _ _ _ a0]; rfl
 have f3: W1.cell? ⟨w.heap.size,3,none⟩ = some (.slice lb n.kids.length ld') := by rw [cell_of_row _ _ _ _ _ _ a0]; rfl
 have f4: W1.cell? ⟨w.heap.size,4,none⟩ = some (.int .i64 (kid: Int)) := by rw [cell_of_row _ _ _ _ _ _ a0]; rfl
 have fl := (Array.getElem?_eq_some_iff.1 a0).1
 refine wp_region_phases (fun w' => ∃ n,w' = World.drewN W1 n) 8 10 17 (by kernel_rfl) (by kernel_rfl) ⟨1,rfl⟩ ?_
 simp only [List.take_succ_cons,List.take_zero,List.drop_succ_cons,List.drop_zero]
 repeat (go_big_quiet_step (first | rfl | fail))
 refine wpQuiet_nil ?_
 rintro _ ⟨nq,rfl⟩ KK hKK0
 have HKK := thid hKK0
 clear hKK0
 have HBn := thid (tbelow_on HB0.out (below_drewN (Below.refl _ _) nq))
 go_wp2_with fail
 refine (HTL.out _ HBn.out).mono ?_
 rintro e w2 ⟨b,rfl,hT⟩
 rcases hT with ⟨rfl,hb2,hz2⟩ | ⟨rfl,hQ⟩
 · clear f0 f1 f2 f3 f4 fl p4 pl a0
   have HZ2 := thid hz2
   have HB2' := thid hb2
   clear hz2 hb2
   go_wp2_with fail
   have hb2 := HB2'.out
   have HB2 := thid (tbelow_on HBn.out hb2)
   have HA2 := thid (tbelow_on (below_drewN (Below.refl _ _) nq) hb2)
   have a2 := HLW.out _ HA2.out
   have q4 := (HUP.out _ HB2.out).1
   have ql := (HUP.out _ HB2.out).2
   clear hb2 HB2'
   have f0: w2.cell? ⟨w.heap.size,0,none⟩ = some (.int .i64 (at_: Int)) := by rw [cell_of_row _ _ _ _ _ _ a2]; rfl
   have f1: w2.cell? ⟨w.heap.size,1,none⟩ = some (.bool n.leaf) := by rw [cell_of_row _ _ _ _ _ _ a2]; rfl
   have f2: w2.cell? ⟨w.heap.size,2,none⟩ = some (.slice la n.recs.length lc) := by rw [cell_of_row _ _ _ _ _ _ a2]; rfl
   have f3: w2.cell? ⟨w.heap.size,3,none⟩ = some (.slice lb n.kids.length ld') := by rw [cell_of_row _ _ _ _ _ _ a2]; rfl
   have f4: w2.cell? ⟨w.heap.size,4,none⟩ = some (.int .i64 (kid: Int)) := by rw [cell_of_row _ _ _ _ _ _ a2]; rfl
   have fl := (Array.getElem?_eq_some_iff.1 a2).1
   refine HKK.out _ _ ?_
   clear HKK
   repeat (go_big_quiet_step (first | rfl | fail))
   refine wpQuiet_nil ?_
   have HTR2 := thid (HTR.out _ HB2.out)
   clear f0 f1 f2 f3 f4 fl q4 ql a2 HTL HTR HUP HLW
   go_wp2_with fail
   refine HTR2.out.mono ?_
   rintro e w3 ⟨b,rfl,hT⟩
   rcases hT with ⟨rfl,hb3,hz3⟩ | ⟨rfl,hQ⟩
   · have HF: Hid (LostQ N B s t x r h l xr xh xl tk ld gn T Ld G g off cs u vr vk at_ n w false w3) := ⟨_,_,_, .none H0.out ⟨HZ2.out,hz3⟩,fun _ => tbelow_on HB2.out hb3,fun e => by cases e⟩
     clear hb3 hz3 HTR2
     go_wp2
     go_ret
     exact ⟨_,rfl,HF.out⟩
   · have HF := thid (hQ.from HB2.out)
     clear hQ HTR2
     go_wp2
     go_ret
     exact ⟨_,rfl,HF.out⟩
 · have HQ := thid hQ
   clear f0 f1 f2 f3 f4 fl p4 pl a0 hQ
   go_wp2_with fail
   refine HKK.out _ _ ?_
   clear HKK
   repeat (go_big_quiet_step (first | rfl | fail))
   refine wpQuiet_nil ?_
   have HF := thid (HQ.out.from HBn.out)
   clear HQ HTL HTR HUP HLW
   go_wp2
   go_ret
   exact ⟨_,rfl,HF.out⟩
end
end Go.Proofs.YtdnkbdjhccckhaaGreat
