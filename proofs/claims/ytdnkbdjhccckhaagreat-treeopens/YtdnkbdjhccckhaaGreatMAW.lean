import Derived.Deep.RegionWith
import Derived.Deep.DeepCutAuto
import Derived.Test.YtdnkbdjhccckhaaGreatMAV
import Derived.Test.YtdnkbdjhccckhaaGreatMAR
set_option maxRecDepth 100000
set_option maxHeartbeats 4000000
namespace Go.Proofs.YtdnkbdjhccckhaaGreat
open Go.RowKit
open L4 (Ar ArP Abs arV nv)
theorem owns_low {b b': Nat} {W: World} {e: TypeId} {m: Nat} {v: Value} {n: Nat} {xs: List Value} (h: W.ownsRow b e m v n xs) (hb: b' <= b): W.ownsRow b' e m v n xs := by
 refine ⟨h.1, ?_⟩
 rcases h.2 with hn | ⟨g,cap,cur,rfl,hbg,rest⟩
 · exact .inl hn
 · exact .inr ⟨g,cap,cur,rfl,Nat.le_trans hb hbg,rest⟩
theorem Es.weaken {N B: Nat} {s: Ar} {t x r h l xr xh xl: Nat} {tk ld gn: Value} {T: List Nat} {Ld: List Lay} {G: List Nat} {w: World} (k: Es B s t x r h l xr xh xl tk ld gn T Ld G w) (hN: N <= B): Es N s t x r h l xr xh xl tk ld gn T Ld G w :=
 ⟨k.ar,k.tr,k.ed,Nat.le_trans hN k.bs,owns_low k.rt hN,owns_low k.rl hN,owns_low k.rg hN,fun y hy => owns_low (k.rr y hy) hN,fun y hy => owns_low (k.rk y hy) hN,k.a1,k.a2,k.a3⟩
theorem Stp.weaken {N B: Nat} {s s': Ar} {t x: Nat} {w w': World} (h: Stp B s s' t x w w') (hN: N <= B): Stp N s s' t x w w' :=
 ⟨h.only.weaken fun _ _ y => y.imp id (Or.imp id (Or.imp id (Nat.le_trans hN))),fun k y => (h.own k y).imp id (Nat.le_trans hN)⟩
theorem Es.keep {B: Nat} {s: Ar} {t x r h l xr xh xl: Nat} {tk ld gn: Value} {T: List Nat} {Ld: List Lay} {G: List Nat} {w w': World} (k: Es B s t x r h l xr xh xl tk ld gn T Ld G w) (hsz: w.heap.size <= w'.heap.size) {Z: Nat -> Prop} (hk: ∀ q,q < w.heap.size -> ¬ Z q -> w'.heap[q]? = w.heap[q]?) (z1: ∀ q,Z q -> q < B) (z2: ∀ q,Z q -> ¬ s.own q) (z3: ∀ q,Z q -> q ≠ t /\ q ≠ x) (z4: ∀ q,Z q -> ∀ cs,w.heap[q]? ≠ some (.cells cs 109 (0,0))): Es B s t x r h l xr xh xl tk ld gn T Ld G w' := by
 have row: ∀ {e: TypeId} {m: Nat} {v: Value} {n: Nat} {xs: List Value},w.ownsRow B e m v n xs -> w'.ownsRow B e m v n xs := fun hr => L5.owns_of_block hr fun q hq => hk q (hr.lt q hq).2 fun z => by have := z1 q z; have := (hr.lt q hq).1; omega
 exact ⟨L4.arSt.keep s w w' k.ar (fun q hq => hk q (L4.arSt.lt s w q k.ar hq) fun z => z2 q z hq) (fun q cs hq => hk q (Array.getElem?_eq_some_iff.1 hq).1 fun z => z4 q z cs hq),⟨(hk t (Array.getElem?_eq_some_iff.1 k.tr.blk).1 fun z => (z3 t z).1 rfl).trans k.tr.blk⟩,(hk x (Array.getElem?_eq_some_iff.1 k.ed).1 fun z => (z3 x z).2 rfl).trans k.ed,Nat.le_trans k.bs hsz,row k.rt,row k.rl,row k.rg,fun y hy => row (k.rr y hy),fun y hy => row (k.rk y hy),k.a1,k.a2,k.a3⟩
structure WayS (N B: Nat) (s: Ar) (g: Nat) (Lw: List Lay) (w: World): Prop where
 blk: ∃ cs,w.heap[g]? = some (.cells cs 104 (0,0)) /\ ∀ i y,Lw[i]? = some y -> cs[i * 5]? = some (nv y.at_) /\ cs[i * 5 + 1]? = some (.bool y.n.leaf) /\ cs[i * 5 + 2]? = some y.vr /\ cs[i * 5 + 3]? = some y.vk /\ cs[i * 5 + 4]? = some (nv y.kid)
 g1: N <= g
 g2: g < B
 rr: ∀ y ∈ Lw,w.ownsRow N 9 1 y.vr y.n.recs.length (L5.svs y.n.recs)
 rk: ∀ y ∈ Lw,w.ownsRow N 3 1 y.vk y.n.kids.length (L5.ivs y.n.kids)
 r1: ∀ y ∈ Lw,∀ q,y.vr.ownBlock = some q -> q < B
 r2: ∀ y ∈ Lw,∀ q,y.vk.ownBlock = some q -> q < B /\ ¬ s.own q
 ap: Lw.Pairwise fun y z => (∀ q,y.vr.ownBlock = some q -> z.vr.ownBlock ≠ some q) /\ (∀ q,y.vk.ownBlock = some q -> z.vk.ownBlock ≠ some q)
theorem WayS.keep {N B: Nat} {s s': Ar} {g: Nat} {Lw: List Lay} {w w': World} (k: WayS N B s g Lw w) (hg: w'.heap[g]? = w.heap[g]?) (h1: ∀ y ∈ Lw,∀ q,y.vr.ownBlock = some q -> w'.heap[q]? = w.heap[q]?) (h2: ∀ y ∈ Lw,∀ q,y.vk.ownBlock = some q -> w'.heap[q]? = w.heap[q]?) (h3: ∀ q,q < B -> s'.own q -> s.own q): WayS N B s' g Lw w' :=
 ⟨by obtain ⟨cs,e,c⟩ := k.blk; exact ⟨cs,hg.trans e,c⟩,k.g1,k.g2,fun y hy => L5.owns_of_block (k.rr y hy) (h1 y hy),fun y hy => L5.owns_of_block (k.rk y hy) (h2 y hy),k.r1,fun y hy q hq => ⟨(k.r2 y hy q hq).1,fun e => (k.r2 y hy q hq).2 (h3 q (k.r2 y hy q hq).1 e)⟩,k.ap⟩
theorem WayS.step {N B: Nat} {s s': Ar} {g t x r h l xr xh xl: Nat} {tk ld gn: Value} {Lw: List Lay} {w w': World} (k: WayS N B s g Lw w) (hA: ArP s w) (ht: TrC w t s.p r h l) (hx: EdC w x t xr xh xl tk ld gn) (hS: Stp B s s' t x w w'): WayS N B s' g Lw w' := by
 obtain ⟨cs,e,_⟩ := k.blk
 have blk: ∀ q,q < w.heap.size -> q < B -> ¬ s.own q -> q ≠ t -> q ≠ x -> w'.heap[q]? = w.heap[q]? := fun q h0 h1 h2 h3 h4 => hS.only.block q h0 fun z => by
  rcases z with z | z | z | z
  · exact h2 z
  · exact h3 z
  · exact h4 z
  · omega
 refine k.keep (blk g (Array.getElem?_eq_some_iff.1 e).1 k.g2 (not_own hA e (by decide) (by decide) (by decide)) (tag_ne e ht.blk (by decide)) (tag_ne e hx (by decide))) (fun y hy q hq => ?_) (fun y hy q hq => ?_) (fun q hq ho => (hS.own q ho).resolve_right (by omega))
 · exact blk q ((k.rr y hy).lt q hq).2 (k.r1 y hy q hq) (row_not_own hA (k.rr y hy) (by decide) (by decide) (by decide) hq) (fun e => row_ne ht.blk (k.rr y hy) (by decide) (e ▸ hq)) (fun e => row_ne hx (k.rr y hy) (by decide) (e ▸ hq))
 · exact blk q ((k.rk y hy).lt q hq).2 (k.r2 y hy q hq).1 (k.r2 y hy q hq).2 (fun e => row_ne ht.blk (k.rk y hy) (by decide) (e ▸ hq)) (fun e => row_ne hx (k.rk y hy) (by decide) (e ▸ hq))
theorem WayS.on {N B: Nat} {s: Ar} {g: Nat} {Lw: List Lay} {w w': World} (k: WayS N B s g Lw w) (hb: Below w.heap.size w w'): WayS N B s g Lw w' := by
 obtain ⟨cs,e,_⟩ := k.blk
 exact k.keep (hb.block g (Array.getElem?_eq_some_iff.1 e).1) (fun y hy q hq => hb.block q ((k.rr y hy).lt q hq).2) (fun y hy q hq => hb.block q ((k.rk y hy).lt q hq).2) (fun _ _ h => h)
structure Added (N g: Nat) (cs: Array Value) (off: Nat) (u: Pl) (sep: ByteArray) (nx: Nat) (vr vk: Value) (w: World) (vr' vk': Value) (w': World): Prop where
 blk: w'.heap[g]? = some (.cells ((cs.setIfInBounds (off + 2) vr').setIfInBounds (off + 3) vk') 104 (0,0))
 rr: w'.ownsRow N 9 1 vr' (addK u sep nx).recs.length (L5.svs (addK u sep nx).recs)
 rk: w'.ownsRow N 3 1 vk' (addK u sep nx).kids.length (L5.ivs (addK u sep nx).kids)
 only: Only (fun k => k = g \/ vr.ownBlock = some k \/ vk.ownBlock = some k) w w'
 nr: ∀ q,vr'.ownBlock = some q -> vr.ownBlock = some q \/ w.heap.size <= q
 nk: ∀ q,vk'.ownBlock = some q -> vk.ownBlock = some q \/ w.heap.size <= q
theorem addK_recs (u: Pl) (sep: ByteArray) (nx: Nat) (h: u.kid <= u.n.recs.length): (addK u sep nx).recs.length = u.n.recs.length + 1 /\ L5.svs (addK u sep nx).recs = (L5.svs u.n.recs).take u.kid ++ [.string sep] ++ (L5.svs u.n.recs).drop u.kid := by
 refine ⟨by simp [addK]; omega,by simp [addK,L5.svs,List.map_take,List.map_drop]⟩
theorem addK_kids (u: Pl) (sep: ByteArray) (nx: Nat) (h: u.kid + 1 <= u.n.kids.length): (addK u sep nx).kids.length = u.n.kids.length + 1 /\ L5.ivs (addK u sep nx).kids = (L5.ivs u.n.kids).take (u.kid + 1) ++ [.int .i64 (nx: Int)] ++ (L5.ivs u.n.kids).drop (u.kid + 1) := by
 refine ⟨by simp [addK]; omega,by simp [addK,L5.ivs,L5.iv,List.map_take,List.map_drop]⟩
structure MidA (N g: Nat) (cs: Array Value) (off: Nat) (u: Pl) (sep: ByteArray) (vr vk: Value) (w: World) (vr': Value) (w': World): Prop where
 blk: w'.heap[g]? = some (.cells (cs.setIfInBounds (off + 2) vr') 104 (0,0))
 rr: w'.ownsRow N 9 1 vr' (u.n.recs.length + 1) ((L5.svs u.n.recs).take u.kid ++ [.string sep] ++ (L5.svs u.n.recs).drop u.kid)
 rk: w'.ownsRow N 3 1 vk u.n.kids.length (L5.ivs u.n.kids)
 only: Only (fun k => k = g \/ vr.ownBlock = some k \/ vk.ownBlock = some k) w w'
 nr: ∀ q,vr'.ownBlock = some q -> vr.ownBlock = some q \/ w.heap.size <= q
theorem midA {N g: Nat} {cs: Array Value} {off: Nat} {u: Pl} {sep: ByteArray} {vr vk: Value} {w w1 w2: World} {vr': Value} (hb: w.heap[g]? = some (.cells cs 104 (0,0))) (yr: w.ownsRow N 9 1 vr u.n.recs.length (L5.svs u.n.recs)) (yk: w.ownsRow N 3 1 vk u.n.kids.length (L5.ivs u.n.kids)) (h1: Below w.heap.size w w1) (hb2: w2.heap[g]? = some (.cells cs 104 (0,0))) (o2: w2.ownsRow N 9 1 vr' (u.n.recs.length + 1) ((L5.svs u.n.recs).take u.kid ++ [.string sep] ++ (L5.svs u.n.recs).drop u.kid)) (hg: w1.grownBy w2 vr.ownBlock) (hn: ∀ q,vr'.ownBlock = some q -> vr.ownBlock = some q \/ w1.heap.size <= q): MidA N g cs off u sep vr vk w vr' (w2.setCell ⟨g,off + 1 + 1,none⟩ vr') := by
 refine ⟨heap_setCell_same w2 g (off + 2) cs _ _ hb2,ownsRow_setCell_other o2 (a := ⟨g,off + 1 + 1,none⟩) (row_ne hb2 o2 (by decide)) vr', ?_, ?_,fun q hq => (hn q hq).imp id fun y => Nat.le_trans h1.size y⟩
 · refine L5.owns_of_block yk fun q hq => ?_
   have z := (yk.lt q hq).2
   have hqg: q ≠ g := fun e => row_ne hb yk (by decide) (e ▸ hq)
   rw [heap_setCell_other _ _ _ _ hqg,hg.block q (Nat.lt_of_lt_of_le z h1.size) (fun e => rows_ne yk yr (by decide) q hq e.symm),h1.block q z]
 · exact ⟨hg.os.trans h1.os,hg.tape.trans h1.tape,hg.output.trans h1.output,by have := hg.size; have := h1.size; simp [World.setCell]; omega,fun q hq hz => by
    rw [heap_setCell_other _ _ _ _ (fun e => hz (Or.inl e)),hg.block q (Nat.lt_of_lt_of_le hq h1.size) (fun e => hz (Or.inr (Or.inl e.symm))),h1.block q hq]⟩
theorem MidA.q3 {N g: Nat} {cs: Array Value} {off: Nat} {u: Pl} {sep: ByteArray} {vr vk: Value} {w w': World} {vr' x: Value} (k: MidA N g cs off u sep vr vk w vr' w') (h: cs[off + 3]? = some x): w'.cell? ⟨g,off + 3,none⟩ = some x := by
 rw [cell_of_row _ _ _ _ _ _ k.blk,Array.getElem?_setIfInBounds_ne (by omega)]; exact h
theorem MidA.q4 {N g: Nat} {cs: Array Value} {off: Nat} {u: Pl} {sep: ByteArray} {vr vk: Value} {w w': World} {vr' x: Value} (k: MidA N g cs off u sep vr vk w vr' w') (h: cs[off + 4]? = some x): w'.cell? ⟨g,off + 4,none⟩ = some x := by
 rw [cell_of_row _ _ _ _ _ _ k.blk,Array.getElem?_setIfInBounds_ne (by omega)]; exact h
theorem MidA.fin {N g: Nat} {cs: Array Value} {off nx: Nat} {u: Pl} {sep: ByteArray} {vr vk: Value} {w w3 w4 w5: World} {vr' vk': Value} (k: MidA N g cs off u sep vr vk w vr' w3) (h4: Below w3.heap.size w3 w4) (hb5: w5.heap[g]? = some (.cells (cs.setIfInBounds (off + 2) vr') 104 (0,0))) (o5: w5.ownsRow N 3 1 vk' (u.n.kids.length + 1) ((L5.ivs u.n.kids).take (u.kid + 1) ++ [.int .i64 (nx: Int)] ++ (L5.ivs u.n.kids).drop (u.kid + 1))) (hg: w4.grownBy w5 vk.ownBlock) (hn: ∀ q,vk'.ownBlock = some q -> vk.ownBlock = some q \/ w4.heap.size <= q) (h1: u.kid <= u.n.recs.length) (h2: u.kid + 1 <= u.n.kids.length): Added N g cs off u sep nx vr vk w vr' vk' (w5.setCell ⟨g,off + 1 + 2,none⟩ vk') := by
 obtain ⟨r1,r2⟩ := addK_recs u sep nx h1
 obtain ⟨s1,s2⟩ := addK_kids u sep nx h2
 have z4 := h4.size
 have z3 := k.only.size
 refine ⟨heap_setCell_same w5 g (off + 3) _ _ _ hb5, ?_, ?_, ?_,k.nr,fun q hq => (hn q hq).imp id fun y => by omega⟩
 · rw [r1,r2]
   refine L5.owns_of_block k.rr fun q hq => ?_
   have z := (k.rr.lt q hq).2
   have hqg: q ≠ g := fun e => row_ne k.blk k.rr (by decide) (e ▸ hq)
   rw [heap_setCell_other _ _ _ _ hqg,hg.block q (Nat.lt_of_lt_of_le z h4.size) (fun e => rows_ne k.rr k.rk (by decide) q hq e.symm),h4.block q z]
 · rw [s1,s2]
   exact ownsRow_setCell_other o5 (a := ⟨g,off + 1 + 2,none⟩) (row_ne hb5 o5 (by decide)) vk'
 · exact ⟨hg.os.trans (h4.os.trans k.only.os),hg.tape.trans (h4.tape.trans k.only.tape),hg.output.trans (h4.output.trans k.only.output),by have := hg.size; simp [World.setCell]; omega,fun q hq hz => by
    rw [heap_setCell_other _ _ _ _ (fun e => hz (Or.inl e)),hg.block q (by omega) (fun e => hz (Or.inr (Or.inr e.symm))),h4.block q (by omega)]
    exact k.only.block q hq hz⟩
theorem add_ok {N g off nx: Nat} {u: Pl} {sep: ByteArray} {cs: Array Value} {vr vk: Value} {w: World} (hN: N <= w.heap.size) (hb: w.heap[g]? = some (.cells cs 104 (0,0))) (c2: cs[off + 2]? = some vr) (c3: cs[off + 3]? = some vk) (c4: cs[off + 4]? = some (nv u.kid)) (yr: w.ownsRow N 9 1 vr u.n.recs.length (L5.svs u.n.recs)) (yk: w.ownsRow N 3 1 vk u.n.kids.length (L5.ivs u.n.kids)) (h1: u.kid <= u.n.recs.length) (h2: u.kid + 1 <= u.n.kids.length) (hs: u.n.small) :
 Calls Tryz.prog 91 #[.pointer (some ⟨g,off,none⟩), .string sep, .int .i64 (nx: Int)] w fun e w' => e = .returned (.tuple #[]) /\ ∃ vr' vk',Added N g cs off u sep nx vr vk w vr' vk' w' := by
 obtain ⟨ra,rc,rfl⟩ := own_slice yr
 obtain ⟨ka,kc,rfl⟩ := own_slice yk
 have HR := thid yr
 have HK := thid yk
 have HBK := thid hb
 have gl := (Array.getElem?_eq_some_iff.1 hb).1
 have q2: w.cell? ⟨g,off + 2,none⟩ = some (.slice ra u.n.recs.length rc) := (cell_of_row _ _ _ _ _ _ hb).trans c2
 have q3: w.cell? ⟨g,off + 3,none⟩ = some (.slice ka u.n.kids.length kc) := (cell_of_row _ _ _ _ _ _ hb).trans c3
 have q4: w.cell? ⟨g,off + 4,none⟩ = some (.int .i64 (u.kid: Int)) := (cell_of_row _ _ _ _ _ _ hb).trans c4
 have qf: ∀ i,w.frozen? ⟨g,i,none⟩ = false := fun i => frozen_of_row _ _ _ _ _ hb
 have hA1: Below w.heap.size w (w.alloc (.cells #[.string sep] 9)).drew := (tbelow w (.cells #[.string sep] 9)).drew
 have hvb: (w.alloc (.cells #[.string sep] 9)).drew.heap[w.heap.size]? = some (.cells #[.string sep] 9 (0,0)) := heap_alloc_new w (.cells #[.string sep] 9)
 have HIN := thid (insert_str (i := u.kid) (x := .string sep) (L5.owns_below yr hA1) h1 (by have := hs.recs; omega) (Nat.le_trans hN hA1.size) (by
  intro v hv
  obtain ⟨y,_,rfl⟩ := List.mem_map.1 hv
  rfl) rfl hvb (fun e => by have := (yr.lt _ e).2; omega))
 have HA1 := thid hA1
 clear yr yk hb hA1 hvb
 go_enter Tryz.func91,Tryz.ntmps91
 go_upto_region 0 with fail
 go_cut [] (fun wx => ∃ v2,Hid (MidA N g cs off u sep (.slice ra u.n.recs.length rc) (.slice ka u.n.kids.length kc) w v2 wx))
 case first =>
  go_region_with (first
   | (go_at_call 65
      refine HIN.out.mono ?_
      rintro e w2 ⟨v2,rfl,o2,hg2,hn2⟩
      obtain ⟨a2,cc2,rfl⟩ := own_slice o2
      have hb2: w2.heap[g]? = some (.cells cs 104 (0,0)) := (hg2.block g (Nat.lt_of_lt_of_le gl HA1.out.size) (fun e => row_ne HBK.out HR.out (by decide) e.symm)).trans ((HA1.out.block g gl).trans HBK.out)
      have H3: Hid (MidA N g cs off u sep (.slice ra u.n.recs.length rc) (.slice ka u.n.kids.length kc) w (.slice a2 (u.n.recs.length + 1) cc2) (w2.setCell ⟨g,off + 1 + 1,none⟩ (.slice a2 (u.n.recs.length + 1) cc2))) := midA HBK.out HR.out HK.out HA1.out hb2 o2 hg2 hn2
      have p2: w2.cell? ⟨g,off + 2,none⟩ = some (.slice ra u.n.recs.length rc) := (cell_of_row _ _ _ _ _ _ hb2).trans c2
      have pf: ∀ i,w2.frozen? ⟨g,i,none⟩ = false := fun i => frozen_of_row _ _ _ _ _ hb2
      have pl := (Array.getElem?_eq_some_iff.1 hb2).1
      clear o2 hg2 hn2 hb2))
  all_goals
   clear q2 q3 q4 qf p2 pf pl HIN
   go_wp2_with fail
   go_meet
   exact ⟨_,H3⟩
 case rest =>
 obtain ⟨v2,H3⟩ := hcut
 clear HIN q2 q3 q4 qf HA1
 generalize wc = W3 at *
 have q3: W3.cell? ⟨g,off + 3,none⟩ = some (.slice ka u.n.kids.length kc) := H3.out.q3 c3
 have q4: W3.cell? ⟨g,off + 4,none⟩ = some (.int .i64 (u.kid: Int)) := H3.out.q4 c4
 have qf: ∀ i,W3.frozen? ⟨g,i,none⟩ = false := fun i => frozen_of_row _ _ _ _ _ H3.out.blk
 have gl3 := (Array.getElem?_eq_some_iff.1 H3.out.blk).1
 have hA3: Below W3.heap.size W3 (W3.alloc (.cells #[.int .i64 (nx: Int)] 3)).drew := (tbelow W3 (.cells #[.int .i64 (nx: Int)] 3)).drew
 have hvb3: (W3.alloc (.cells #[.int .i64 (nx: Int)] 3)).drew.heap[W3.heap.size]? = some (.cells #[.int .i64 (nx: Int)] 3 (0,0)) := heap_alloc_new W3 (.cells #[.int .i64 (nx: Int)] 3)
 have HIN := thid (insert_int (i := u.kid + 1) (x := .int .i64 (nx: Int)) (L5.owns_below H3.out.rk hA3) h2 (by have := hs.kids; omega) (Nat.le_trans hN (Nat.le_trans H3.out.only.size hA3.size)) (by
  intro v hv
  obtain ⟨y,_,rfl⟩ := List.mem_map.1 hv
  rfl) rfl hvb3 (fun e => by have := (H3.out.rk.lt _ e).2; omega))
 have HA3 := thid hA3
 clear hA3 hvb3
 have hkr := hs.recs
 rw [show ((u.kid + 1: Nat): Int) = IntKind.i64.wrap ((u.kid: Int) + 1) by rw [IntKind.wrap_i64]; omega] at HIN
 go_upto_region 1 with fail
 go_region_with (first
  | (go_at_call 105
     refine HIN.out.mono ?_
     rintro e w5 ⟨v5,rfl,o5,hg5,hn5⟩
     obtain ⟨a5,cc5,rfl⟩ := own_slice o5
     have hb5 := (hg5.block g (Nat.lt_of_lt_of_le gl3 HA3.out.size) (fun e => row_ne H3.out.blk H3.out.rk (by decide) e.symm)).trans ((HA3.out.block g gl3).trans H3.out.blk)
     have HF5 := thid (H3.out.fin (nx := nx) HA3.out hb5 o5 hg5 hn5 h1 h2)
     have p3: w5.cell? ⟨g,off + 3,none⟩ = some (.slice ka u.n.kids.length kc) := (World.cell?_of_block (hb5.trans H3.out.blk.symm)).trans q3
     have pf: ∀ i,w5.frozen? ⟨g,i,none⟩ = false := fun i => frozen_of_row _ _ _ _ _ hb5
     have pl := (Array.getElem?_eq_some_iff.1 hb5).1
     clear o5 hg5 hn5 hb5))
 all_goals
  clear H3 HIN HA3 p3 q3 q4 qf gl3 HR HK HBK pf pl
  go_wp2
  go_end0
  exact ⟨rfl,_,_,HF5.out⟩
end Go.Proofs.YtdnkbdjhccckhaaGreat
