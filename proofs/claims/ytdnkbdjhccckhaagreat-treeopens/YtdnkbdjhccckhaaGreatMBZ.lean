import Derived.Test.YtdnkbdjhccckhaaGreatMBU
import Derived.Test.YtdnkbdjhccckhaaGreatMBX
import Derived.Test.YtdnkbdjhccckhaaGreatMBY
set_option maxRecDepth 100000
set_option maxHeartbeats 4000000
namespace Go.Proofs.YtdnkbdjhccckhaaGreat
open Go.RowKit
open L4 (Ar ArP Abs arV nv)
open L5 (ltP ltB leB)
def Bnd (a: Abs) (h: Nat) (es: List ByteArray) (ps: List Nat) (n: Nat): Prop := h <= 30 /\ ∃ Z,Cov a ps Z /\ es.length + 2 * Z.length <= n
theorem full_le {h: Nat} (hf: fullH h <= 1000): h <= 29 := by
 rcases Nat.lt_or_ge 29 h with e | e
 · exfalso
   unfold fullH at hf
   have h1: 29 * 28 <= (h - 1) * (h - 2) := Nat.mul_le_mul (by omega) (by omega)
   omega
 · exact e
theorem Bnd.step {ins: Prop} {a A: Abs} {h h' n: Nat} {es es': List ByteArray} {ps ps': List Nat} (k: Bnd a h es ps n) (f: Flow ins a A h h' es es' ps ps') (hn: n <= 1000): Bnd A h' es' ps' (n + 1) := by
 obtain ⟨k1,Z,k2,k3⟩ := k
 obtain ⟨Z',f1,f2⟩ := f.cov Z k2
 refine ⟨?_,Z',f1,by omega⟩
 rcases f.tall Z k2 with e | ⟨e,e2⟩
 · omega
 · have := full_le (h := h) (by omega)
   omega
theorem Bnd.more {a: Abs} {h n m: Nat} {es: List ByteArray} {ps: List Nat} (k: Bnd a h es ps n) (hm: n <= m): Bnd a h es ps m := by
 obtain ⟨k1,Z,k2,k3⟩ := k
 exact ⟨k1,Z,k2,by omega⟩
theorem Bnd.len {a: Abs} {h n: Nat} {es: List ByteArray} {ps: List Nat} (k: Bnd a h es ps n): es.length <= n := by
 obtain ⟨k1,Z,k2,k3⟩ := k
 omega
theorem Bnd.frame {a a': Abs} {h n: Nat} {es: List ByteArray} {ps: List Nat} (k: Bnd a h es ps n) (hp: ∀ p ∈ ps,a'.at (p: Int) = a.at (p: Int)): Bnd a' h es ps n := by
 obtain ⟨k1,Z,k2,k3⟩ := k
 exact ⟨k1,Z,k2.frame hp,k3⟩
theorem Bnd.new {a: Abs} {r: Nat} (hs: Sub a 1 r e0 e0 [] [r]): Bnd a 1 [] [r] 0 := by
 refine ⟨by omega,[],fun p hp hz => ?_,by simp⟩
 obtain ⟨n,ps',hn,_,_,hc⟩ := hs
 rcases hc with ⟨_,hl,_⟩ | ⟨h0,_⟩
 · obtain ⟨m,hm,hml,_⟩ := hz
   have e: p = r := by simpa using hp
   rw [e] at hm
   rw [hm.uniq hn,hl] at hml
   cases hml
 · exact absurd rfl h0
theorem Both.shaped {w0: World} {s: Ar} {t p r h n: Nat} {es: List ByteArray} {ps: List Nat} {w: World} (k: Both w0 s t p r h es ps es w) (hb: Bnd s.abs h es ps n) (hn: n <= 1000): ∃ a c,w.cell? ⟨p,0,none⟩ = some (.slice a es.length c) /\ p < w.heap.size /\ ∀ W,Below w.heap.size w W -> Calls Tryz.prog 13 #[arV s.p, .pointer (some ⟨t,0,none⟩), .slice a es.length c] W fun e W' => e = .returned (.bool true) /\ Below W.heap.size W W' := by
 obtain ⟨a,c,q1,q2⟩ := k.st.row
 have hl := hb.len
 refine ⟨a,c,by rw [cell_of_row _ _ _ _ _ _ q1]; rfl,(Array.getElem?_eq_some_iff.1 q1).1,fun W hW => ?_⟩
 exact shaped_walk (k.tw.on hW) k.ru hb.1 (by omega) ((L5.owns_rd_slice q2).below hW)
structure Keep (w0: World) (n: L4.Sn) (p p2 qh qs: Nat) (es0: List ByteArray) (hv: Array Value) (sv: Array Value) (s: Ar) (w: World): Prop where
 sn: L4.SnP n w
 st: SetP w0.heap.size p es0 w
 ns: ∀ k,n.own k -> ¬ s.own k
 ne: p ≠ p2
 hh: w.heap[qh]? = some (.cells hv 40 (0,0))
 hs: w.heap[qs]? = some (.cells sv 44 (0,0))
section
variable {w0: World} {n: L4.Sn} {p p2 qh qs t r h: Nat} {es0 es fs: List ByteArray} {hv sv: Array Value} {s s': Ar} {ps: List Nat} {w W: World}
theorem Keep.on (k: Keep w0 n p p2 qh qs es0 hv sv s w) (hb: Below w.heap.size w W): Keep w0 n p p2 qh qs es0 hv sv s W :=
 ⟨k.sn.keep (fun q hq => hb.block q (k.sn.lt hq)) (L4.Pk.of_below hb),k.st.on hb,k.ns,k.ne,(hb.block _ (Array.getElem?_eq_some_iff.1 k.hh).1).trans k.hh,(hb.block _ (Array.getElem?_eq_some_iff.1 k.hs).1).trans k.hs⟩
theorem sn_tag (k: L4.SnP n w) {q: Nat} (hq: n.own q): ∃ cur e,w.heap[q]? = some (.cells cur e (0,0)) /\ e ≠ 61 /\ e ≠ 35 := by
 rcases hq with rfl | hq | hq
 · exact ⟨_,_,k.blk,by decide,by decide⟩
 · obtain ⟨cur,hc⟩ := L4.owns_tag k.rp hq
   exact ⟨cur,_,hc,by decide,by decide⟩
 · obtain ⟨cur,hc⟩ := L4.owns_tag k.rf hq
   exact ⟨cur,_,hc,by decide,by decide⟩
theorem SetP.beside {B: Nat} {Z: Nat -> Prop} (k: SetP B p fs w) (ho: Only Z w W) (h1: ¬ Z p) (h2: ∀ q cs,w.heap[q]? = some (.cells cs 9 (0,0)) -> ¬ Z q): SetP B p fs W := by
 obtain ⟨a,c,q1,q2⟩ := k.row
 refine ⟨k.low,a,c,(ho.block _ (Array.getElem?_eq_some_iff.1 q1).1 h1).trans q1,L5.owns_of_block q2 fun q hq => ho.block q (q2.lt q hq).2 ?_⟩
 obtain ⟨cs,hcs⟩ := L4.owns_tag q2 hq
 exact h2 q cs hcs
theorem Keep.step (k: Keep w0 n p p2 qh qs es0 hv sv s w) (b: Both w0 s t p2 r h es ps fs w) (ho: Only (fun q => s.own q \/ q = t \/ q = p2) w W) (hg: ∀ q,s'.own q -> s.own q \/ w.heap.size <= q): Keep w0 n p p2 qh qs es0 hv sv s' W := by
 obtain ⟨_,_,q2,_⟩ := b.st.row
 have out: ∀ {q: Nat} {cs: Array Value} {e: TypeId},w.heap[q]? = some (.cells cs e (0,0)) -> ¬ s.own q -> e ≠ 61 -> e ≠ 35 -> W.heap[q]? = w.heap[q]? := fun {q cs e} hq h1 h2 h3 => ho.block q (Array.getElem?_eq_some_iff.1 hq).1 (by
  rintro (z | z | z)
  · exact h1 z
  · exact tag_ne hq b.tw.tr.blk h2 z
  · exact tag_ne hq q2 h3 z)
 obtain ⟨_,_,q1,_⟩ := k.st.row
 refine ⟨k.sn.keep (fun q hq => ?_) (fun q cs hq => out hq (not_own b.tw.ar hq (by decide) (by decide) (by decide)) (by decide) (by decide)),k.st.beside ho ?_ ?_,fun q hq e => ?_,k.ne, ?_, ?_⟩
 · obtain ⟨cur,e,hc,h1,h2⟩ := sn_tag k.sn hq
   exact out hc (k.ns q hq) h1 h2
 · rintro (z | z | z)
   · exact not_own b.tw.ar q1 (by decide) (by decide) (by decide) z
   · exact tag_ne q1 b.tw.tr.blk (by decide) z
   · exact k.ne z
 · rintro q cs hq (z | z | z)
   · exact not_own b.tw.ar hq (by decide) (by decide) (by decide) z
   · exact tag_ne hq b.tw.tr.blk (by decide) z
   · exact tag_ne hq q2 (by decide) z
 · rcases hg q e with e | e
   · exact k.ns q hq e
   · have := k.sn.lt hq; omega
 · exact (out k.hh (not_own b.tw.ar k.hh (by decide) (by decide) (by decide)) (by decide) (by decide)).trans k.hh
 · exact (out k.hs (not_own b.tw.ar k.hs (by decide) (by decide) (by decide)) (by decide) (by decide)).trans k.hs
structure Back (w0: World) (p qh: Nat) (es0: List ByteArray) (hv: Array Value) (s0 s: Ar) (w: World): Prop where
 ar: ArP s w
 ok: s.abs.Ok
 pe: s.p = s0.p
 at_: ∀ q,s.abs.at q = s0.abs.at q
 used: s.abs.used = s0.abs.used
 st: SetP w0.heap.size p es0 w
 hh: w.heap[qh]? = some (.cells hv 40 (0,0))
 bel: Below w0.heap.size w0 w
 own: ∀ k,s.own k -> w0.heap.size <= k
theorem Keep.back {s0: Ar} (k: Keep w0 n p p2 qh qs es0 hv sv s w) (b: Both w0 s t p2 r h es ps fs w) (h0: s0.abs.Ok) (hp: s.p = s0.p) (h1: n.pg = s0.pg) (h2: n.fr = s0.fr) (g: L4.Goes s w ⟨n.pg.map (Option.map Prod.snd),n.fr,s.q⟩ W): ∃ s',Back w0 p qh es0 hv s0 s' W := by
 obtain ⟨s',hA,hp',hab,hM⟩ := g
 have e: s'.abs = { s0.abs with q := s.q } := by rw [hab,h1,h2]; rfl
 obtain ⟨_,_,q1,_⟩ := k.st.row
 refine ⟨s',hA, ?_,hp'.trans hp,fun q => by rw [e]; rfl,by rw [e]; rfl,k.st.beside hM.only (not_own b.tw.ar q1 (by decide) (by decide) (by decide)) (fun q cs hq => not_own b.tw.ar hq (by decide) (by decide) (by decide)), ?_,b.bel.trans (hM.only.below b.bel.size fun q hq e => by have := b.own q e; omega),fun q hq => ?_⟩
 · rw [e]; exact ⟨h0.low,h0.nodup,h0.count,h0.len,h0.small,b.tw.ok.quota⟩
 · exact (hM.only.block _ (Array.getElem?_eq_some_iff.1 k.hh).1 (not_own b.tw.ar k.hh (by decide) (by decide) (by decide))).trans k.hh
 · rcases hM.own q hq with e | e
   · exact b.own q e
   · exact Nat.le_trans b.bel.size e
theorem Back.opened {s0: Ar} (k: Back w0 p qh es0 hv s0 s w) (hb: Below w.heap.size w W) (htp: TreeP s0.abs r h es0.length es0 ps) (hru: Ruly s0.abs r ps) (ht: TrC W t s.p r h es0.length) (hl: w0.heap.size <= t): Both w0 s t p r h es0 ps es0 W :=
 ⟨⟨L4.arSt.below k.ar hb,k.ok,ht,htp.frame fun _ _ => k.at_ _⟩,hru.frame htp.sub.tall.2.2 fun _ _ => k.at_ _,k.st.on hb,tbelow_on k.bel hb,k.own,hl⟩
theorem root_le {a: Abs} {l: Nat} (k: TreeP a r h l es ps) (ho: a.Ok): r <= 4096 /\ 1 <= r := by
 have h1 := (k.tall ho).2.2
 obtain ⟨c,hc⟩ := k.sub.pages r k.sub.tall.2.2
 unfold L4.Abs.at at hc
 rw [if_pos (by omega)] at hc
 have h2 := ho.small
 have h3: (r: Int).toNat - 1 < a.pg.length := by
  rcases Nat.lt_or_ge ((r: Int).toNat - 1) a.pg.length with h | h
  · exact h
  · rw [List.getElem?_eq_none h] at hc; cases hc
 simp at h3
 omega
end
theorem hbox {W: World} {q: Nat} {x y z: Value} (h: W.heap[q]? = some (.cells #[x,y,z] 40 (0,0))): W.cell? ⟨q,0,none⟩ = some x /\ W.cell? ⟨q,1,none⟩ = some y /\ W.cell? ⟨q,2,none⟩ = some z :=
 ⟨by rw [cell_of_row _ _ _ _ _ _ h]; rfl,by rw [cell_of_row _ _ _ _ _ _ h]; rfl,by rw [cell_of_row _ _ _ _ _ _ h]; rfl⟩
theorem snbox {W: World} {q: Nat} {x y: Value} (h: W.heap[q]? = some (.cells #[x,y] 44 (0,0))): W.cell? ⟨q,0,none⟩ = some x /\ W.cell? ⟨q,1,none⟩ = some y :=
 ⟨by rw [cell_of_row _ _ _ _ _ _ h]; rfl,by rw [cell_of_row _ _ _ _ _ _ h]; rfl⟩
theorem small_pg {s: Ar} (h: s.abs.Ok): s.pg.length <= 4096 := by
 have := h.small
 simpa [L4.Ar.abs] using this
theorem small_fr {s: Ar} (h: s.abs.Ok): s.fr.length <= 4096 := by
 have h1: s.fr.length <= s.pg.length := by simpa [L4.Ar.abs] using h.le
 have := small_pg h
 omega
theorem hbeside {w0 w W: World} {s: Ar} {t p r h q: Nat} {es fs: List ByteArray} {ps: List Nat} {hv: Array Value} (b: Both w0 s t p r h es ps fs w) (ho: Only (fun q => s.own q \/ q = t \/ q = p) w W) (hq: w.heap[q]? = some (.cells hv 40 (0,0))): W.heap[q]? = some (.cells hv 40 (0,0)) := by
 obtain ⟨_,_,q1,_⟩ := b.st.row
 refine (ho.block q (Array.getElem?_eq_some_iff.1 hq).1 ?_).trans hq
 rintro (z | z | z)
 · exact not_own b.tw.ar hq (by decide) (by decide) (by decide) z
 · exact tag_ne hq b.tw.tr.blk (by decide) z
 · exact tag_ne hq q1 (by decide) z
theorem opens_start {w w8: World} {s: Ar} {n: L4.Sn} {t p r h pq: Nat} {es: List ByteArray} {ps: List Nat} {a7: Option Addr} {c7: Nat} (k: Both w s t p r h es ps es w8) (hn: L4.SnP n w8) (hns: ∀ q,n.own q -> ¬ s.own q) (g1: w8.heap[p]? = some (.cells #[.slice a7 es.length c7] 35 (0,0))) (g2: w8.ownsRow w.heap.size 9 1 (.slice a7 es.length c7) es.length (L5.svs es)) :
 ∃ p2,p2 = w8.heap.size + 1 + 1 /\ Both w s t p2 r h es ps es (((w8.alloc (.cells #[.int .i64 (r: Int), .int .i64 (h: Int), .int .i64 (es.length: Int)] 40)).alloc (.cells #[.pointer (some ⟨pq,0,none⟩), .pointer (some ⟨n.pb,0,none⟩)] 44)).alloc (.cells #[.slice a7 es.length c7] 35)) /\
  Keep w n p p2 w8.heap.size (w8.heap.size + 1) es #[.int .i64 (r: Int), .int .i64 (h: Int), .int .i64 (es.length: Int)] #[.pointer (some ⟨pq,0,none⟩), .pointer (some ⟨n.pb,0,none⟩)] s (((w8.alloc (.cells #[.int .i64 (r: Int), .int .i64 (h: Int), .int .i64 (es.length: Int)] 40)).alloc (.cells #[.pointer (some ⟨pq,0,none⟩), .pointer (some ⟨n.pb,0,none⟩)] 44)).alloc (.cells #[.slice a7 es.length c7] 35)) := by
 have B1 := tbelow w8 (.cells #[.int .i64 (r: Int), .int .i64 (h: Int), .int .i64 (es.length: Int)] 40)
 have H1 := heap_alloc_new w8 (.cells #[.int .i64 (r: Int), .int .i64 (h: Int), .int .i64 (es.length: Int)] 40)
 have hs1: (w8.alloc (.cells #[.int .i64 (r: Int), .int .i64 (h: Int), .int .i64 (es.length: Int)] 40)).heap.size = w8.heap.size + 1 := by simp
 generalize w8.alloc (.cells #[.int .i64 (r: Int), .int .i64 (h: Int), .int .i64 (es.length: Int)] 40) = W1 at *
 have B2 := tbelow W1 (.cells #[.pointer (some ⟨pq,0,none⟩), .pointer (some ⟨n.pb,0,none⟩)] 44)
 have H2 := heap_alloc_new W1 (.cells #[.pointer (some ⟨pq,0,none⟩), .pointer (some ⟨n.pb,0,none⟩)] 44)
 have hs2: (W1.alloc (.cells #[.pointer (some ⟨pq,0,none⟩), .pointer (some ⟨n.pb,0,none⟩)] 44)).heap.size = W1.heap.size + 1 := by simp
 generalize W1.alloc (.cells #[.pointer (some ⟨pq,0,none⟩), .pointer (some ⟨n.pb,0,none⟩)] 44) = W2 at *
 have B3 := tbelow W2 (.cells #[.slice a7 es.length c7] 35)
 have H3 := heap_alloc_new W2 (.cells #[.slice a7 es.length c7] 35)
 generalize W2.alloc (.cells #[.slice a7 es.length c7] 35) = W3 at *
 have B: Below w8.heap.size w8 W3 := tbelow_on (tbelow_on B1 B2) B3
 have hpl := (Array.getElem?_eq_some_iff.1 g1).1
 have h1 := (Array.getElem?_eq_some_iff.1 H1).1
 have h2 := (Array.getElem?_eq_some_iff.1 H2).1
 have e1: W3.heap[w8.heap.size]? = some (.cells #[.int .i64 (r: Int), .int .i64 (h: Int), .int .i64 (es.length: Int)] 40 (0,0)) := (B3.block _ (by omega)).trans ((B2.block _ (by omega)).trans H1)
 have e2: W3.heap[w8.heap.size + 1]? = some (.cells #[.pointer (some ⟨pq,0,none⟩), .pointer (some ⟨n.pb,0,none⟩)] 44 (0,0)) := by
  rw [hs1] at H2
  exact (B3.block _ (by omega)).trans H2
 have e3: W3.heap[w8.heap.size + 1 + 1]? = some (.cells #[.slice a7 es.length c7] 35 (0,0)) := by
  rw [hs2,hs1] at H3
  exact H3
 have hlow := k.bel.size
 refine ⟨_,rfl,⟨k.tw.on B,k.ru,⟨by omega,a7,c7,e3,L5.owns_below g2 B⟩,tbelow_on k.bel B,k.own,k.tl⟩,⟨hn.keep (fun q hq => B.block q (hn.lt hq)) (L4.Pk.of_below B),k.st.on B,hns,by omega,e1,e2⟩⟩
theorem opens_walk {l: List TOp} {a: Option Addr} {c: Nat} {m: List TOp} {a1: Option Addr} {c1: Nat} {x: List TOp} {a2: Option Addr} {c2: Nat} {w: World} (hS: Rw.SlG oC 3 w a l) (hM: Rw.SlG oC 3 w a1 m) (hX: Rw.SlG oC 3 w a2 x) :
 Calls Tryz.prog 3 #[.slice a l.length c, .slice a1 m.length c1, .slice a2 x.length c2] w fun e w' => e = .returned (.bool true) /\ Below w.heap.size w w' := by
 have HS := thid hS
 have HM := thid hM
 have HX := thid hX
 clear hS hM hX
 have HG: Hid (∀ (y: List TOp) (b: Option Addr) (d: Nat),Rw.SlG oC 3 w b y -> ∀ W,Below w.heap.size w W -> Calls Tryz.prog 5 #[.slice b y.length d, .int .i64 ((100: Nat): Int)] W fun e W' => e = .returned (.bool (greatB y 100)) /\ Below W.heap.size W W') := fun y b d h W hb => great_walk (c := d) (m := 100) (h.below hb) (by omega)
 go_enter Tryz.func3,Tryz.ntmps3
 go_wp2_with fail
 refine (awake2_walk _).mono ?_
 rintro e w1 ⟨rfl,b1⟩
 have HB1 := thid b1
 clear b1
 cases hg: greatB l 100
 · have HG1 := thid (HG.out _ _ c HS.out w1 HB1.out)
   rw [hg] at HG1
   go_wp2_with fail
   refine HG1.out.mono ?_
   rintro e w2 ⟨rfl,b2⟩
   have HB2 := thid (tbelow_on HB1.out b2)
   clear b2 HB1 HG1
   cases hgm: greatB m 100
   · have HG2 := thid (HG.out _ _ c1 HM.out w2 HB2.out)
     rw [hgm] at HG2
     go_wp2_with fail
     refine HG2.out.mono ?_
     rintro e w3 ⟨rfl,b3⟩
     have HB3 := thid (tbelow_on HB2.out b3)
     clear b3 HB2 HG2
     cases hgx: greatB x 100
     · have HG3 := thid (HG.out _ _ c2 HX.out w3 HB3.out)
       rw [hgx] at HG3
       go_wp2_with fail
       refine HG3.out.mono ?_
       rintro e w3' ⟨rfl,b3⟩
       have HB3' := thid (tbelow_on HB3.out b3)
       clear b3 HB3 HG3 HG
       obtain ⟨hl1,hl2⟩ := great_not hg
       obtain ⟨hm1,hm2⟩ := great_not hgm
       obtain ⟨hx1,hx2⟩ := great_not hgx
       go_wp2_with fail
       refine (L4.new_ok 4000 (by omega) _).mono ?_
       rintro e w4 ⟨s,rfl,hF⟩
       have HF := thid hF
       have hok0: s.abs.Ok := by
        rw [hF.2.1]
        exact ⟨by simp,by simp,by simp,by simp,by simp,by simp⟩
       have hl0: 0 < s.abs.left := by
        rw [hF.2.1]
        simp [L4.Abs.left,L4.Abs.used]
       have HN := thid (tnew hF.1 hok0 hl0)
       unfold arV at HN ⊢
       clear hF hok0 hl0 hg hgm hgx
       go_wp2_with fail
       refine HN.out.mono ?_
       rintro e w5 ⟨rfl,s5,r5,t1,p1,g1,o1,n1⟩
       have HBO := thid (Both.new HB3'.out HF.out t1 o1 n1)
       have HPP := thid p1
       have HBD0: Hid (Bnd s5.abs 1 [] [r5] (0 + 0)) := Bnd.new t1.tp.sub
       clear HN HF HB3' t1 g1 o1 n1 p1
       generalize w4.heap.size = t at *
       go_wp2_with fail
       generalize w5.heap.size = p at *
       generalize w5.alloc (.cells #[.slice none 0 0] 35) = W5 at *
       go_loopw [49] (fun i wx => ∃ j: Nat,j <= l.length /\ i = .int .i64 (j: Int) /\ ∃ (s5: Ar) (r5 h5: Nat) (es: List ByteArray) (ps: List Nat),Hid (Both w s5 t p r5 h5 es ps es wx /\ Bnd s5.abs h5 es ps (0 + j) /\ s5.p = s.p /\ True)) (fun i _ => l.length - (intOf i).toNat)
       case atStart => exact ⟨0,Nat.zero_le _,rfl,s5,r5,1,[],[r5],HBO.out,HBD0.out,HPP.out,trivial⟩
       case round =>
        clear HBO HPP HBD0
        obtain ⟨j,hj,rfl,s6,r6,h6,es,ps,HI⟩ := hrel
        obtain ⟨hT,hbd,hsp,hex⟩ := HI.out
        by_cases hlt: j < l.length
        · have hlt': (j: Int) < (l.length: Int) := by omega
          obtain ⟨b,o,k,rfl,hbl,hx,hc⟩ := (HS.out.below hT.bel).at hlt
          have hks := hl2 k (List.mem_of_getElem? hx)
          have c0: wr.cell? ⟨b,o + j * 3,none⟩ = some (.int .i64 k.k) := hc 0 _ rfl
          have c1: wr.cell? ⟨b,o + j * 3 + 1,none⟩ = some (.int .i64 k.n) := hc 1 _ rfl
          have c2: wr.cell? ⟨b,o + j * 3 + 2,none⟩ = some (.string k.s) := hc 2 _ rfl
          have hb1 := tbelow wr (.cells #[.int .i64 k.k, .int .i64 k.n, .string k.s] 37)
          have HT1 := thid (hT.on hb1)
          have HX1 := thid (show True from trivial)
          have HBD := thid hbd
          have hel := hbd.len
          clear hc hx hT HI hbd hb1 hex
          by_cases hk3: k.k = 3
          · have hk: (k.k != 3) = false := by rw [hk3]; rfl
            have HD := thid (And.intro HT1.out (And.intro (HBD.out.more (show 0 + j <= 0 + (j + 1) by omega)) (And.intro hsp HX1.out)))
            clear hk3 HT1 HBD HX1
            go_wp2
            go_roundw
            case rel => exact ⟨j + 1,hlt,by go_num,s6,r6,h6,es,ps,HD⟩
            case measure => simp [intOf]; omega
          · have hk: (k.k != 3) = true := by simpa using hk3
            have HSTP := thid (step_any (o := k) HT1.out (by omega) hks)
            rw [hsp] at HSTP
            unfold arV oV at HSTP
            clear hk3
            go_wp2_with fail
            refine HSTP.out.mono ?_
            rintro e w6 ⟨rfl,s8,r8,h8,es8,ps8,hB8,hfl,hp8,hon,hgr⟩
            have HD := thid (And.intro hB8 (And.intro (HBD.out.step hfl (by omega)) (And.intro (hp8.trans hsp) trivial)))
            clear HSTP hB8 hfl hp8 hon hgr HT1 HBD HX1
            go_wp2
            go_roundw
            case rel => exact ⟨j + 1,hlt,by go_num,s8,r8,h8,es8,ps8,HD⟩
            case measure => simp [intOf]; omega
        · have hlt': ¬ (j: Int) < (l.length: Int) := by omega
          have HBD := thid (hbd.more (show 0 + j <= 100 by omega))
          have HTT := thid hT
          have HEX := thid hex
          clear HI hT hbd hex
          obtain ⟨r0,hr0e⟩: ∃ r0,r0 = r6 := ⟨_,rfl⟩
          subst hr0e
          obtain ⟨h0,hh0e⟩: ∃ h0,h0 = h6 := ⟨_,rfl⟩
          subst hh0e
          obtain ⟨es0,he0e⟩: ∃ es0,es0 = es := ⟨_,rfl⟩
          subst he0e
          obtain ⟨ps0,hp0e⟩: ∃ ps0,ps0 = ps := ⟨_,rfl⟩
          subst hp0e
          obtain ⟨s60,hs0e⟩: ∃ s60,s60 = s6 := ⟨_,rfl⟩
          subst hs0e
          have hs60 := hsp
          have HBD0 := HBD
          have HTP := thid (And.intro HTT.out.tw.tp HTT.out.ru)
          have HOK0 := thid HTT.out.tw.ok
          have HRT := thid (root_le HTT.out.tw.tp HTT.out.tw.ok)
          have HTL := thid (HTT.out.tw.tp.tall HTT.out.tw.ok)
          have hel := HBD.out.len
          have HHD := thid (head_ok HTT.out.tw.tr)
          go_wp2_with fail
          refine HHD.out.mono ?_
          rintro e w7 ⟨rfl,b7⟩
          have HT7 := thid (HTT.out.on b7)
          have HSN := thid (L4.snap_walk HT7.out.tw.ar HT7.out.tw.ok)
          rw [hsp] at HSN
          unfold arV at HSN
          clear b7 HHD HTT
          go_wp2_with fail
          refine HSN.out.mono ?_
          rintro e w8 ⟨n,rfl,hn,hn1,hn2',b8,hown⟩
          have HN1 := thid (And.intro hn1 hn2')
          have HT8 := thid (HT7.out.on b8)
          have HNS: Hid (∀ k,n.own k -> ¬ s60.own k) := fun k hk e => by
           have h1 := hown k hk
           have h2 := L4.arSt.lt _ _ _ HT7.out.tw.ar e
           omega
          have HSN8 := thid hn
          clear HSN HT7 hn hn1 hn2' b8 hown
          obtain ⟨a7,c7,g1,g2⟩ := HT8.out.st.row
          have p0: w8.cell? ⟨p,0,none⟩ = some (.slice a7 es0.length c7) := by rw [cell_of_row _ _ _ _ _ _ g1]; rfl
          have pl := (Array.getElem?_eq_some_iff.1 g1).1
          go_wp2_with fail
          refine Rw.to_letter (F := fun W => ∃ p2,p2 = w8.heap.size + 1 + 1 /\ Both w s60 t p2 r0 h0 es0 ps0 es0 W /\ Keep w n p p2 w8.heap.size (w8.heap.size + 1) es0 #[.int .i64 (r0: Int), .int .i64 (h0: Int), .int .i64 (es0.length: Int)] #[.pointer (some ⟨s.p,0,none⟩), .pointer (some ⟨n.pb,0,none⟩)] s60 W) (opens_start HT8.out HSN8.out HNS.out g1 g2) ?_
          rintro W9 ⟨p2,hp2,hB9,hK9⟩
          rw [<- hp2]
          clear hp2
          have HB9 := thid hB9
          have HK9 := thid hK9
          have HBD9 := HBD
          clear hB9 hK9 HT8 HNS HSN8 g1 g2 p0 pl HBD
          generalize w8.heap.size + 1 = qs at *
          generalize w8.heap.size = qh at *
          go_loopw [77] (fun i wx => ∃ j: Nat,j <= m.length /\ i = .int .i64 (j: Int) /\ ∃ (s5: Ar) (r5 h5: Nat) (es: List ByteArray) (ps: List Nat),Hid (Both w s5 t p2 r5 h5 es ps es wx /\ Bnd s5.abs h5 es ps (100 + j) /\ s5.p = s.p /\ Keep w n p p2 qh qs es0 #[.int .i64 (r0: Int), .int .i64 (h0: Int), .int .i64 (es0.length: Int)] #[.pointer (some ⟨s.p,0,none⟩), .pointer (some ⟨n.pb,0,none⟩)] s5 wx)) (fun i _ => m.length - (intOf i).toNat)
          case atStart => exact ⟨0,Nat.zero_le _,rfl,s60,r0,h0,es0,ps0,HB9.out,HBD9.out,hs60,HK9.out⟩
          case round =>
           clear HB9 HK9 HBD9
           obtain ⟨j,hj,rfl,s6,r6,h6,es,ps,HI⟩ := hrel
           obtain ⟨hT,hbd,hsp,hex⟩ := HI.out
           by_cases hlt: j < m.length
           · have hlt': (j: Int) < (m.length: Int) := by omega
             obtain ⟨b,o,k,rfl,hbl,hx,hc⟩ := (HM.out.below hT.bel).at hlt
             have hks := hm2 k (List.mem_of_getElem? hx)
             have c0: wr.cell? ⟨b,o + j * 3,none⟩ = some (.int .i64 k.k) := hc 0 _ rfl
             have c1: wr.cell? ⟨b,o + j * 3 + 1,none⟩ = some (.int .i64 k.n) := hc 1 _ rfl
             have c2: wr.cell? ⟨b,o + j * 3 + 2,none⟩ = some (.string k.s) := hc 2 _ rfl
             have hb1 := tbelow wr (.cells #[.int .i64 k.k, .int .i64 k.n, .string k.s] 37)
             have HT1 := thid (hT.on hb1)
             have HX1 := thid (hex.on hb1)
             have HBD := thid hbd
             have hel := hbd.len
             clear hc hx hT HI hbd hb1 hex
             by_cases hk3: k.k = 3
             · have hk: (k.k != 3) = false := by rw [hk3]; rfl
               have HD := thid (And.intro HT1.out (And.intro (HBD.out.more (show 100 + j <= 100 + (j + 1) by omega)) (And.intro hsp HX1.out)))
               clear hk3 HT1 HBD HX1
               go_wp2
               go_roundw
               case rel => exact ⟨j + 1,hlt,by go_num,s6,r6,h6,es,ps,HD⟩
               case measure => simp [intOf]; omega
             · have hk: (k.k != 3) = true := by simpa using hk3
               have HSTP := thid (step_any (o := k) HT1.out (by omega) hks)
               rw [hsp] at HSTP
               unfold arV oV at HSTP
               clear hk3
               go_wp2_with fail
               refine HSTP.out.mono ?_
               rintro e w6 ⟨rfl,s8,r8,h8,es8,ps8,hB8,hfl,hp8,hon,hgr⟩
               have HD := thid (And.intro hB8 (And.intro (HBD.out.step hfl (by omega)) (And.intro (hp8.trans hsp) (HX1.out.step HT1.out hon hgr))))
               clear HSTP hB8 hfl hp8 hon hgr HT1 HBD HX1
               go_wp2
               go_roundw
               case rel => exact ⟨j + 1,hlt,by go_num,s8,r8,h8,es8,ps8,HD⟩
               case measure => simp [intOf]; omega
           · have hlt': ¬ (j: Int) < (m.length: Int) := by omega
             have HBD := thid (hbd.more (show 100 + j <= 200 by omega))
             have HTT := thid hT
             have HEX := thid hex
             clear HI hT hbd hex
             have hsp7 := hsp
             have HRS := thid (L4.restore_ok HTT.out.tw.ar HEX.out.sn (by rw [HN1.out.1]; exact small_pg HOK0.out) (by rw [HN1.out.2]; exact small_fr HOK0.out))
             rw [hsp] at HRS
             unfold arV at HRS
             obtain ⟨u0,u1⟩ := snbox HEX.out.hs
             have ul := (Array.getElem?_eq_some_iff.1 HEX.out.hs).1
             go_wp2_with fail
             refine HRS.out.mono ?_
             rintro e w10 ⟨rfl,g10⟩
             obtain ⟨s9,hk9⟩ := HEX.out.back HTT.out HOK0.out (hsp7.trans hs60.symm) HN1.out.1 HN1.out.2 g10
             have HK9 := thid hk9
             have HOP := thid (open_ok (p := s.p) (r := r0) (h := h0) (l := es0.length) HRT.out.2 HRT.out.1 HTL.out.2.1 HTL.out.1 (by omega) w10)
             obtain ⟨q0,q1,q2⟩ := hbox hk9.hh
             have ql := (Array.getElem?_eq_some_iff.1 hk9.hh).1
             clear g10 HRS u0 u1 ul HTT HBD HEX hk9 HN1
             go_wp2_with fail
             refine HOP.out.mono ?_
             rintro e w11 ⟨t2,rfl,htl,htc,hb11⟩
             have hs11: s9.p = s.p := HK9.out.pe.trans hs60
             have HB11 := thid (HK9.out.opened hb11 HTP.out.1 HTP.out.2 (by rw [hs11]; exact htc) (Nat.le_trans HK9.out.bel.size htl))
             have HBO := thid (HBD0.out.frame (a' := s9.abs) fun q _ => HK9.out.at_ _)
             have HQ11 := thid ((hb11.block _ ql).trans HK9.out.hh)
             clear q0 q1 q2 HOP htl htc hb11 HK9 ql
             obtain ⟨a7,c7,p0,pl,hsh⟩ := HB11.out.shaped HBO.out (by omega)
             have KP: ∀ q: L4.BelowW w11,q.w.cell? ⟨p,0,none⟩ = some (.slice a7 es0.length c7) := fun q => (q.below.cell (p := ⟨p,0,none⟩) pl).trans p0
             have KQ := fun q: L4.BelowW w11 => hbox ((q.below.block _ (Array.getElem?_eq_some_iff.1 HQ11.out).1).trans HQ11.out)
             have K0 := fun q => (KQ q).1
             have K1 := fun q => (KQ q).2.1
             have K2 := fun q => (KQ q).2.2
             have HHE := thid (fun q: L4.BelowW w11 => head_ok (HB11.out.tw.tr.on q.below))
             have HLE := thid (fun q: L4.BelowW w11 => len_ok (HB11.out.tw.tr.on q.below))
             have HSH := thid (fun q: L4.BelowW w11 => hsh q.w q.below)
             rw [hs11] at HSH
             unfold arV at HSH
             have hr0: ((r0: Int) != (r0: Int)) = false := by simp
             have hh0: ((h0: Int) != (h0: Int)) = false := by simp
             have hl0: ((es0.length: Int) != (es0.length: Int)) = false := by simp
             clear KQ hsh p0 pl
             go_wp2_with fail
             refine L4.wp_region_below (by kernel_rfl) (by kernel_rfl) (fun _ => ?_)
             repeat (go_big_quiet_step (first | rfl | (go_at_call 9; exact L4.quiet_of_below (HHE.out _)) | (go_at_call 13; exact L4.quiet_of_below (HSH.out _)) | (go_at_call 14; exact L4.quiet_of_below (HLE.out _))))
             refine wpQuiet_nil ?_
             rintro _ ⟨q,rfl⟩
             have HB12 := thid (HB11.out.on q.below)
             have HQ12 := thid ((q.below.block _ (Array.getElem?_eq_some_iff.1 HQ11.out).1).trans HQ11.out)
             clear HHE HLE HSH KP K0 K1 K2 hr0 hh0 hl0 HB11 HQ11
             generalize q.w = w12 at *
             clear q
             have HB11 := HB12
             have HQ11 := HQ12
             clear HB12 HQ12
             go_wp2_with fail
             go_loopw [125] (fun i wx => ∃ j: Nat,j <= x.length /\ i = .int .i64 (j: Int) /\ ∃ (s5: Ar) (r5 h5: Nat) (es: List ByteArray) (ps: List Nat),Hid (Both w s5 t2 p r5 h5 es ps es wx /\ Bnd s5.abs h5 es ps (100 + j) /\ s5.p = s.p /\ wx.heap[qh]? = some (.cells #[.int .i64 (r0: Int), .int .i64 (h0: Int), .int .i64 (es0.length: Int)] 40 (0,0)))) (fun i _ => x.length - (intOf i).toNat)
             case atStart => exact ⟨0,Nat.zero_le _,rfl,s9,r0,h0,es0,ps0,HB11.out,HBO.out.more (by omega),hs11,HQ11.out⟩
             case round =>
              clear HB11 HBO HQ11 hs11
              obtain ⟨j,hj,rfl,s6,r6,h6,es,ps,HI⟩ := hrel
              obtain ⟨hT,hbd,hsp,hex⟩ := HI.out
              by_cases hlt: j < x.length
              · have hlt': (j: Int) < (x.length: Int) := by omega
                obtain ⟨b,o,k,rfl,hbl,hx,hc⟩ := (HX.out.below hT.bel).at hlt
                have hks := hx2 k (List.mem_of_getElem? hx)
                have c0: wr.cell? ⟨b,o + j * 3,none⟩ = some (.int .i64 k.k) := hc 0 _ rfl
                have c1: wr.cell? ⟨b,o + j * 3 + 1,none⟩ = some (.int .i64 k.n) := hc 1 _ rfl
                have c2: wr.cell? ⟨b,o + j * 3 + 2,none⟩ = some (.string k.s) := hc 2 _ rfl
                have hb1 := tbelow wr (.cells #[.int .i64 k.k, .int .i64 k.n, .string k.s] 37)
                have HT1 := thid (hT.on hb1)
                have HX1 := thid ((hb1.block _ (Array.getElem?_eq_some_iff.1 hex).1).trans hex)
                have HBD := thid hbd
                have hel := hbd.len
                clear hc hx hT HI hbd hb1 hex
                by_cases hk3: k.k = 3
                · have hk: (k.k != 3) = false := by rw [hk3]; rfl
                  have HD := thid (And.intro HT1.out (And.intro (HBD.out.more (show 100 + j <= 100 + (j + 1) by omega)) (And.intro hsp HX1.out)))
                  clear hk3 HT1 HBD HX1
                  go_wp2
                  go_roundw
                  case rel => exact ⟨j + 1,hlt,by go_num,s6,r6,h6,es,ps,HD⟩
                  case measure => simp [intOf]; omega
                · have hk: (k.k != 3) = true := by simpa using hk3
                  have HSTP := thid (step_any (o := k) HT1.out (by omega) hks)
                  rw [hsp] at HSTP
                  unfold arV oV at HSTP
                  clear hk3
                  go_wp2_with fail
                  refine HSTP.out.mono ?_
                  rintro e w6 ⟨rfl,s8,r8,h8,es8,ps8,hB8,hfl,hp8,hon,hgr⟩
                  have HD := thid (And.intro hB8 (And.intro (HBD.out.step hfl (by omega)) (And.intro (hp8.trans hsp) (hbeside HT1.out hon HX1.out))))
                  clear HSTP hB8 hfl hp8 hon hgr HT1 HBD HX1
                  go_wp2
                  go_roundw
                  case rel => exact ⟨j + 1,hlt,by go_num,s8,r8,h8,es8,ps8,HD⟩
                  case measure => simp [intOf]; omega
              · have hlt': ¬ (j: Int) < (x.length: Int) := by omega
                have HBD := thid (hbd.more (show 100 + j <= 200 by omega))
                have HTT := thid hT
                have HEX := thid hex
                clear HI hT hbd hex
                obtain ⟨a7,c7,p0,pl,hsh⟩ := HTT.out.shaped HBD.out (by omega)
                have HSH := thid (hsh wr (Below.refl _ _))
                rw [hsp] at HSH
                unfold arV at HSH
                obtain ⟨q0,q1,q2⟩ := hbox HEX.out
                have HON := thid (fun W => open_nil (.agg #[.int .i64 (r0: Int), .int .i64 (h0: Int), .int .i64 (es0.length: Int)]) _ _ _ rfl W)
                have HOZ := thid (fun W => open_zero s.p W)
                have HBL := thid HTT.out.bel
                have ql := (Array.getElem?_eq_some_iff.1 HEX.out).1
                have HHD := HEX
                clear HTT HBD hsh HEX
                go_wp2_with fail
                refine HSH.out.mono ?_
                rintro e w12 ⟨rfl,b12⟩
                have HB12 := thid (tbelow_on HBL.out b12)
                obtain ⟨q0',q1',q2'⟩ := hbox ((b12.block _ (Array.getElem?_eq_some_iff.1 HHD.out).1).trans HHD.out)
                have ql': qh < w12.heap.size := Nat.lt_of_lt_of_le ql b12.size
                clear b12 HSH HBL q0 q1 q2 p0
                go_wp2_with fail
                refine (HON.out _).mono ?_
                rintro e w13 ⟨rfl,b13⟩
                have HB13 := thid (tbelow_on HB12.out b13)
                clear b13 HB12 q0' q1' q2' HON
                go_wp2_with fail
                refine (HOZ.out _).mono ?_
                rintro e w14 ⟨t3,rfl,hz,b14⟩
                have HB14 := thid (tbelow_on HB13.out b14)
                have HIN := thid (insert_ov (w := w14) (v := .pointer (some ⟨t3,0,none⟩)) (Or.inr ⟨t3,rfl,hz⟩) ⟨#[97]⟩)
                clear b14 HB13 hz HOZ
                go_wp2_with fail
                refine HIN.out.mono ?_
                rintro e w15 ⟨rfl,b15⟩
                have HB15 := thid (tbelow_on HB14.out b15)
                clear b15 HB14 HIN
                go_wp2
                go_ret
                exact ⟨rfl,HB15.out⟩
     · have HG3 := thid (HG.out _ _ c2 HX.out w3 HB3.out)
       rw [hgx] at HG3
       go_wp2_with fail
       refine HG3.out.mono ?_
       rintro e w4 ⟨rfl,b3⟩
       have HE := thid (tbelow_on HB3.out b3)
       clear HG3 b3 HB3
       go_wp2
       go_ret
       exact ⟨rfl,HE.out⟩
   · have HG2 := thid (HG.out _ _ c1 HM.out w2 HB2.out)
     rw [hgm] at HG2
     go_wp2_with fail
     refine HG2.out.mono ?_
     rintro e w3 ⟨rfl,b3⟩
     have HE := thid (tbelow_on HB2.out b3)
     clear HG2 b3 HB2
     go_wp2
     go_ret
     exact ⟨rfl,HE.out⟩
 · have HG1 := thid (HG.out _ _ c HS.out w1 HB1.out)
   rw [hg] at HG1
   go_wp2_with fail
   refine HG1.out.mono ?_
   rintro e w3 ⟨rfl,b3⟩
   have HE := thid (tbelow_on HB1.out b3)
   clear HG1 b3 HB1
   go_wp2
   go_ret
   exact ⟨rfl,HE.out⟩
end Go.Proofs.YtdnkbdjhccckhaaGreat
