import Derived.Test.YtpcmiholbcmmjaaGreatMBX
import Derived.Test.YtpcmiholbcmmjaaGreatMBY
import Derived.Test.YtpcmiholbcmmjaaGreatMBZ
set_option maxRecDepth 100000
set_option maxHeartbeats 4000000
namespace Go.Proofs.YtpcmiholbcmmjaaGreat
open Go.RowKit
open L4 (Ar ArP Abs arV nv)
open L5 (ltP ltB leB)
def Bnd (a : Abs) (h : Nat) (es : List ByteArray) (ps : List Nat) (n : Nat) : Prop := h <= 30 /\ ∃ Z, Cov a ps Z /\ es.length + 2 * Z.length <= n
theorem full_le {h : Nat} (hf : fullH h <= 1000) : h <= 29 := by
 rcases Nat.lt_or_ge 29 h with e | e
 · exfalso
   unfold fullH at hf
   have h1 : 29 * 28 <= (h - 1) * (h - 2) := Nat.mul_le_mul (by omega) (by omega)
   omega
 · exact e
theorem Bnd.step {ins : Prop} {a A : Abs} {h h' n : Nat} {es es' : List ByteArray} {ps ps' : List Nat} (k : Bnd a h es ps n) (f : Flow ins a A h h' es es' ps ps') (hn : n <= 1000) : Bnd A h' es' ps' (n + 1) := by
 obtain ⟨k1, Z, k2, k3⟩ := k
 obtain ⟨Z', f1, f2⟩ := f.cov Z k2
 refine ⟨?_, Z', f1, by omega⟩
 rcases f.tall Z k2 with e | ⟨e, e2⟩
 · omega
 · have := full_le (h := h) (by omega)
   omega
theorem Bnd.more {a : Abs} {h n m : Nat} {es : List ByteArray} {ps : List Nat} (k : Bnd a h es ps n) (hm : n <= m) : Bnd a h es ps m := by
 obtain ⟨k1, Z, k2, k3⟩ := k
 exact ⟨k1, Z, k2, by omega⟩
theorem Bnd.len {a : Abs} {h n : Nat} {es : List ByteArray} {ps : List Nat} (k : Bnd a h es ps n) : es.length <= n := by
 obtain ⟨k1, Z, k2, k3⟩ := k
 omega
theorem Bnd.frame {a a' : Abs} {h n : Nat} {es : List ByteArray} {ps : List Nat} (k : Bnd a h es ps n) (hp : ∀ p ∈ ps, a'.at (p : Int) = a.at (p : Int)) : Bnd a' h es ps n := by
 obtain ⟨k1, Z, k2, k3⟩ := k
 exact ⟨k1, Z, k2.frame hp, k3⟩
theorem Bnd.new {a : Abs} {r : Nat} (hs : Sub a 1 r e0 e0 [] [r]) : Bnd a 1 [] [r] 0 := by
 refine ⟨by omega, [], fun p hp hz => ?_, by simp⟩
 obtain ⟨n, ps', hn, _, _, hc⟩ := hs
 rcases hc with ⟨_, hl, _⟩ | ⟨h0, _⟩
 · obtain ⟨m, hm, hml, _⟩ := hz
   have e : p = r := by simpa using hp
   rw [e] at hm
   rw [hm.uniq hn, hl] at hml
   cases hml
 · exact absurd rfl h0
theorem Both.shaped {w0 : World} {s : Ar} {t p r h n : Nat} {es : List ByteArray} {ps : List Nat} {w : World} (k : Both w0 s t p r h es ps es w) (hb : Bnd s.abs h es ps n) (hn : n <= 1000) : ∃ a c, w.cell? ⟨p, 0, none⟩ = some (.slice a es.length c) /\ p < w.heap.size /\ ∀ W, Below w.heap.size w W -> Calls Tryz.prog 22 #[arV s.p, .pointer (some ⟨t, 0, none⟩), .slice a es.length c] W fun e W' => e = .returned (.bool true) /\ Below W.heap.size W W' := by
 obtain ⟨a, c, q1, q2⟩ := k.st.row
 have hl := hb.len
 refine ⟨a, c, by rw [cell_of_row _ _ _ _ _ _ q1]; rfl, (Array.getElem?_eq_some_iff.1 q1).1, fun W hW => ?_⟩
 exact shaped_walk (k.tw.on hW) k.ru hb.1 (by omega) ((L5.owns_rd_slice q2).below hW)
structure Pair (w0 : World) (s : Ar) (t p u q r h : Nat) (es : List ByteArray) (ps : List Nat) (r2 h2 : Nat) (fs : List ByteArray) (qs : List Nat) (w : World) : Prop where
 a : Both w0 s t p r h es ps es w
 b : Both w0 s u q r2 h2 fs qs fs w
 dj : ∀ x ∈ ps, x ∉ qs
 ne : t ≠ u
 np : p ≠ q
section
variable {w0 : World} {s : Ar} {t p u q r h : Nat} {es : List ByteArray} {ps : List Nat} {r2 h2 : Nat} {fs : List ByteArray} {qs : List Nat} {w W : World}
theorem Pair.swap (k : Pair w0 s t p u q r h es ps r2 h2 fs qs w) : Pair w0 s u q t p r2 h2 fs qs r h es ps w := ⟨k.b, k.a, fun x h1 h2 => k.dj x h2 h1, fun e => k.ne e.symm, fun e => k.np e.symm⟩
theorem Pair.on (k : Pair w0 s t p u q r h es ps r2 h2 fs qs w) (hb : Below w.heap.size w W) : Pair w0 s t p u q r h es ps r2 h2 fs qs W := ⟨k.a.on hb, k.b.on hb, k.dj, k.ne, k.np⟩
theorem Both.beside {s' : Ar} {x y : Nat} (k : Both w0 s u q r2 h2 fs qs fs w) (hA : ArP s' W) (hok : s'.abs.Ok) (hp : s'.p = s.p) (ho : Only (fun z => s.own z \/ z = x \/ z = y) w W) (hx : x ≠ u) (hy : y ≠ q) (hxq : ∃ c, w.heap[x]? = some (.cells c 82 (0, 0))) (hyq : ∃ c, w.heap[y]? = some (.cells c 35 (0, 0))) (hfr : ∀ z ∈ qs, s'.abs.at (z : Int) = s.abs.at (z : Int)) (hbel : Below w0.heap.size w0 W) (hown : ∀ z, s'.own z -> w0.heap.size <= z) : Both w0 s' u q r2 h2 fs qs fs W := by
 obtain ⟨cx, hcx⟩ := hxq
 obtain ⟨cy, hcy⟩ := hyq
 have hub := k.tw.tr.blk
 have nu : ¬ (s.own u \/ u = x \/ u = y) := fun e => by
  rcases e with e | e | e
  · exact not_own k.tw.ar hub (by decide) (by decide) (by decide) e
  · exact hx e.symm
  · exact tag_ne hub hcy (by decide) e
 obtain ⟨a, c, q1, q2⟩ := k.st.row
 have nq : ¬ (s.own q \/ q = x \/ q = y) := fun e => by
  rcases e with e | e | e
  · exact not_own k.tw.ar q1 (by decide) (by decide) (by decide) e
  · exact tag_ne q1 hcx (by decide) e
  · exact hy e.symm
 refine ⟨⟨hA, hok, ⟨by rw [hp]; exact (ho.block u (Array.getElem?_eq_some_iff.1 hub).1 nu).trans hub⟩, k.tw.tp.frame hfr⟩, k.ru.frame k.tw.tp.sub.tall.2.2 hfr, ⟨k.st.low, a, c, (ho.block q (Array.getElem?_eq_some_iff.1 q1).1 nq).trans q1, L5.owns_of_block q2 fun g hg => ho.block g (q2.lt g hg).2 fun e => ?_⟩, hbel, hown, k.tl⟩
 obtain ⟨cs, hcs⟩ := L4.owns_tag q2 hg
 rcases e with e | e | e
 · exact not_own k.tw.ar hcs (by decide) (by decide) (by decide) e
 · exact tag_ne hcs hcx (by decide) e
 · exact tag_ne hcs hcy (by decide) e
theorem Pair.step {ins : Prop} {s' : Ar} {r' h' : Nat} {es' : List ByteArray} {ps' : List Nat} (k : Pair w0 s t p u q r h es ps r2 h2 fs qs w) (hB : Both w0 s' t p r' h' es' ps' es' W) (f : Flow ins s.abs s'.abs h h' es es' ps ps') (hp : s'.p = s.p) (ho : Only (fun z => s.own z \/ z = t \/ z = p) w W) : Pair w0 s' t p u q r' h' es' ps' r2 h2 fs qs W := by
 have huse : ∀ z ∈ qs, ∃ c, s.abs.at (z : Int) = some c := fun z hz => k.b.tw.tp.sub.pages z hz
 obtain ⟨_, _, q1, _⟩ := k.a.st.row
 refine ⟨hB, k.b.beside hB.tw.ar hB.tw.ok hp ho k.ne k.np ⟨_, k.a.tw.tr.blk⟩ ⟨_, q1⟩ (fun z hz => f.frame z (fun hz' => k.dj z hz' hz) (huse z hz)) hB.bel hB.own, fun z hz hz2 => ?_, k.ne, k.np⟩
 rcases f.fresh z hz with e | e
 · exact k.dj z e hz2
 · obtain ⟨c, hc⟩ := huse z hz2
   rw [e] at hc; cases hc
end
theorem Pair.new {w0 w1 w2 : World} {s1 s2 : Ar} {t u r r2 : Nat} (k : Lone w0 s1 t r 1 [] [r] w1) (hu : u = w1.heap.size) (t2 : TW s2 u r2 1 [] [r2] w2) (p2 : s2.p = s1.p) (g2 : Grew s1.abs s2.abs [] [r2]) (o2 : Only (fun z => s1.own z \/ z = u) w1 w2) (n2 : ∀ z, s2.own z -> s1.own z \/ w1.heap.size <= z) :
 Pair w0 s2 t w2.heap.size u (w2.heap.size + 1) r 1 [] [r] r2 1 [] [r2] ((w2.alloc (.cells #[.slice none 0 0] 35)).alloc (.cells #[.slice none 0 0] 35)) := by
 have hb1 := k.bel.size
 have htb := k.tw.tr.blk
 have htl := (Array.getElem?_eq_some_iff.1 htb).1
 have hne : t ≠ u := by omega
 have nt : ¬ (s1.own t \/ t = u) := fun e => by
  rcases e with e | e
  · exact not_own k.tw.ar htb (by decide) (by decide) (by decide) e
  · exact hne e
 have hfr : ∀ z ∈ [r], s2.abs.at (z : Int) = s1.abs.at (z : Int) := fun z hz => g2.frame z (by simp) (k.tw.tp.sub.pages z hz)
 have tw1 : TW s2 t r 1 [] [r] w2 := ⟨t2.ar, t2.ok, ⟨by rw [p2]; exact (o2.block t htl nt).trans htb⟩, k.tw.tp.frame hfr⟩
 have ru1 := k.ru.frame k.tw.tp.sub.tall.2.2 hfr
 have bel2 : Below w0.heap.size w0 w2 := k.bel.trans (o2.below k.bel.size fun z hz e => by
  rcases e with e | e
  · have := k.own z e; omega
  · omega)
 have own2 : ∀ z, s2.own z -> w0.heap.size <= z := fun z hz => by
  rcases n2 z hz with e | e
  · exact k.own z e
  · omega
 have ru2 : Ruly s2.abs r2 [r2] := ruly_one t2
 have B1 := tbelow w2 (.cells #[.slice none 0 0] 35)
 have B2 := tbelow (w2.alloc (.cells #[.slice none 0 0] 35)) (.cells #[.slice none 0 0] 35)
 have hs : (w2.alloc (.cells #[.slice none 0 0] 35)).heap.size = w2.heap.size + 1 := by simp
 have hw2 := bel2.size
 have q1 : SetP w0.heap.size (w2.heap.size + 1) [] ((w2.alloc (.cells #[.slice none 0 0] 35)).alloc (.cells #[.slice none 0 0] 35)) := by
  have := SetP.new (B := w0.heap.size) (w := w2.alloc (.cells #[.slice none 0 0] 35)) (by omega)
  rw [hs] at this
  exact this
 refine ⟨⟨(tw1.on B1).on B2, ru1, (SetP.new hw2).on B2, tbelow_on (tbelow_on bel2 B1) B2, own2, k.tl⟩, ⟨(t2.on B1).on B2, ru2, q1, tbelow_on (tbelow_on bel2 B1) B2, own2, by omega⟩, fun z hz hz2 => ?_, hne, by omega⟩
 have e1 : z = r := by simpa using hz
 have e2 : z = r2 := by simpa using hz2
 obtain ⟨c, hc⟩ := k.tw.tp.sub.pages r (by simp)
 rcases g2.fresh r2 (by simp) with e | e
 · cases e
 · rw [<- e2, e1] at e
   rw [e] at hc; cases hc
theorem Pair.drop {w0 w W : World} {s : Ar} {t p u q r h : Nat} {es : List ByteArray} {ps : List Nat} {r2 h2 : Nat} {fs : List ByteArray} {qs xs : List Nat} (k : Pair w0 s t p u q r h es ps r2 h2 fs qs w) (hx : xs.Perm ps) (d : Dropped w.heap.size s t xs w W) : ∃ s', s'.p = s.p /\ Both w0 s' u q r2 h2 fs qs fs W /\ s'.abs.used + ps.length = s.abs.used /\ (∀ z ∈ qs, s'.abs.at (z : Int) = s.abs.at (z : Int)) /\ W.heap[t]? = some (.cells #[.pointer none, .int .i64 0, .int .i64 0, .int .i64 0] 82 (0, 0)) := by
 obtain ⟨s', hp, hab, hok, hA, hT, ho, hown⟩ := d.ex
 have hpg : ∀ z ∈ xs, ∃ c, s.abs.at (z : Int) = some c := fun z hz => k.a.tw.tp.sub.pages z (hx.mem_iff.1 hz)
 have hnd : xs.Nodup := hx.nodup_iff.2 k.a.tw.tp.nodup
 obtain ⟨_, _, j3⟩ := frees_ok xs k.a.tw.ok hnd hpg
 have e : s'.abs = frees s.abs xs := hab
 have hfr : ∀ z ∈ qs, s'.abs.at (z : Int) = s.abs.at (z : Int) := fun z hz => by
  rw [e, frees_other xs (fun n hn => by obtain ⟨c, hc⟩ := hpg n hn; exact at_pos hc) fun hz' => k.dj z (hx.mem_iff.1 hz') hz]
 obtain ⟨_, _, q1, _⟩ := k.a.st.row
 have ho2 : Only (fun z => s.own z \/ z = t \/ z = p) w W := ⟨ho.os, ho.tape, ho.output, ho.size, fun z hz hn => ho.block z hz fun e => by
  rcases e with e | e | e
  · exact hn (Or.inl e)
  · exact hn (Or.inr (Or.inl e))
  · omega⟩
 have hbel : Below w0.heap.size w0 W := k.a.bel.trans (ho2.below k.a.bel.size fun z hz e => by
  rcases e with e | e | e
  · have := k.a.own z e; omega
  · have := k.a.tl; omega
  · have := k.a.st.low; omega)
 have hown2 : ∀ z, s'.own z -> w0.heap.size <= z := fun z hz => by
  rcases hown z hz with e | e
  · exact k.a.own z e
  · exact Nat.le_trans k.a.bel.size e
 refine ⟨s', hp, k.b.beside hA hok hp ho2 k.ne k.np ⟨_, k.a.tw.tr.blk⟩ ⟨_, q1⟩ hfr hbel hown2, ?_, hfr, hT⟩
 rw [e, <- hx.length_eq]
 exact j3
theorem all_ov {w : World} {v : Value} (k : Ov w v) : Calls Tryz.prog 19 #[v] w fun e w' => e = .returned (.slice none 0 0) /\ Below w.heap.size w w' := by
 have HB := thid (tbelow w (.cells #[.slice none 0 0] 33))
 have a1 := heap_alloc_new w (.cells #[.slice none 0 0] 33)
 have HEA := thid (fun f => each_ov (k.on HB.out) ⟨#[]⟩ ⟨#[]⟩ f)
 have hmf : ∀ (fn : Fn) (first cap : Array Value) (w : World), (Instr.makeFunc fn first cap).run Tryz.prog w = .ok (.func fn first cap) w := fun _ _ _ _ => rfl
 clear k
 go_enter Tryz.func19, Tryz.ntmps19
 go_wp2_with fail
 refine (HEA.out _).mono ?_
 rintro e w4 ⟨rfl, b4⟩
 have a4 := (b4.block _ (Array.getElem?_eq_some_iff.1 a1).1).trans a1
 have c0 : w4.cell? ⟨w.heap.size, 0, none⟩ = some (.slice none 0 0) := by rw [cell_of_row _ _ _ _ _ _ a4]; rfl
 have l4 := (Array.getElem?_eq_some_iff.1 a4).1
 have HF := thid (tbelow_on HB.out b4)
 clear HEA HB b4 a1 a4
 go_wp2
 go_ret
 exact ⟨rfl, HF.out⟩
def bC (b : Bool) : List Value := [.bool b]
theorem two_walk {x y : List TOp} {tn : List Bool} {ax ay an : Option Addr} {cx cy cn : Nat} {w : World} (hX : Rw.SlG oC 3 w ax x) (hY : Rw.SlG oC 3 w ay y) (hN : Rw.SlG bC 1 w an tn) :
 Calls Tryz.prog 7 #[.slice ax x.length cx, .slice ay y.length cy, .slice an tn.length cn] w fun e w' => e = .returned (.bool true) /\ Below w.heap.size w w' := by
 have HX := thid hX
 have HY := thid hY
 have HN := thid hN
 clear hX hY hN
 go_enter Tryz.func7, Tryz.ntmps7
 go_wp2_with fail
 refine (awake2_walk _).mono ?_
 rintro e w1 ⟨rfl, b1⟩
 have HB1 := thid b1
 clear b1
 have HGX := thid (great_walk (c := cx) (m := 100) (HX.out.below HB1.out) (by omega))
 cases hgx : greatB x 100
 · rw [hgx] at HGX
   go_wp2_with fail
   refine HGX.out.mono ?_
   rintro e w2 ⟨rfl, b2⟩
   have HB2 := thid (tbelow_on HB1.out b2)
   clear HGX HB1 b2
   have HGY := thid (great_walk (c := cy) (m := 100) (HY.out.below HB2.out) (by omega))
   cases hgy : greatB y 100
   · rw [hgy] at HGY
     obtain ⟨hx1, hx2⟩ := great_not hgx
     obtain ⟨hy1, hy2⟩ := great_not hgy
     go_wp2_with fail
     refine HGY.out.mono ?_
     rintro e w3 ⟨rfl, b3⟩
     have HB3 := thid (tbelow_on HB2.out b3)
     clear b3 HGY HB2
     go_wp2_with fail
     refine (L4.new_ok 4000 (by omega) _).mono ?_
     rintro e w4 ⟨s, rfl, hF⟩
     have HF := thid hF
     have hok0 : s.abs.Ok := by
      rw [hF.2.1]
      exact ⟨by simp, by simp, by simp, by simp, by simp, by simp⟩
     have hl0 : 0 < s.abs.left := by
      rw [hF.2.1]
      simp [L4.Abs.left, L4.Abs.used]
     have hq0 : s.abs.used = 0 /\ s.abs.q = 4000 := by
      rw [hF.2.1]
      exact ⟨rfl, rfl⟩
     have HNW := thid (tnew hF.1 hok0 hl0)
     unfold arV at HNW ⊢
     clear hF hok0 hl0 hgx hgy
     go_wp2_with fail
     refine HNW.out.mono ?_
     rintro e w5 ⟨rfl, s5, r5, t1, p1, g1, o1, n1⟩
     have HLO := thid (Lone.new HB3.out HF.out t1 o1 n1)
     have hu5 := g1.used
     have hq5 := g1.q
     simp at hu5
     have HBD := thid (Bnd.new t1.tp.sub)
     have hl5 : 0 < s5.abs.left := by unfold L4.Abs.left; omega
     have HNX := thid (tnew t1.ar t1.ok hl5)
     rw [p1] at HNX
     unfold arV at HNX
     clear HNW HF HB3 t1 g1 o1 n1 hl5
     generalize w4.heap.size = t at *
     go_wp2_with fail
     refine HNX.out.mono ?_
     rintro e w6 ⟨rfl, s6, r6, t2, p2, g2, o2, n2⟩
     have HPA := thid (Pair.new HLO.out rfl t2 (p2.trans p1.symm) g2 o2 n2)
     have HBD2 := thid (Bnd.new t2.tp.sub)
     have HBD1 := thid (HBD.out.frame (a' := s6.abs) fun z hz => g2.frame z (by simp) (HLO.out.tw.tp.sub.pages z hz))
     have hu6 := g2.used
     simp at hu6
     have hus : s6.abs.used = [r5].length + [r6].length := by simp; omega
     have hsp : s6.p = s.p := p2
     clear HNX HLO HBD t2 g2 o2 n2 p1 p2 hu5 hq5 hu6 hq0
     generalize w5.heap.size = u at *
     go_wp2_with fail
     generalize w6.heap.size = p at *
     generalize (w6.alloc (.cells #[.slice none 0 0] 35)).alloc (.cells #[.slice none 0 0] 35) = W6 at *
     go_loopw [15, 16] (fun iv kv wx => ∃ i k : Nat, i <= x.length /\ k <= y.length /\ iv = .int .i64 (i : Int) /\ kv = .int .i64 (k : Int) /\ ∃ (s7 : Ar) (r7 h7 : Nat) (es : List ByteArray) (ps : List Nat) (r8 h8 : Nat) (fs : List ByteArray) (qs : List Nat), Hid (Pair w s7 t p u (p + 1) r7 h7 es ps r8 h8 fs qs wx /\ Bnd s7.abs h7 es ps i /\ Bnd s7.abs h8 fs qs k /\ s7.p = s.p /\ s7.abs.used = ps.length + qs.length)) (fun i k _ => (x.length - (intOf i).toNat) + (y.length - (intOf k).toNat))
     case atStart => exact ⟨0, 0, Nat.zero_le _, Nat.zero_le _, rfl, rfl, s6, r5, 1, [], [r5], r6, 1, [], [r6], HPA.out, HBD1.out, HBD2.out, hsp, hus⟩
     case round =>
      clear HPA HBD1 HBD2 hsp hus
      obtain ⟨i, k, hi0, hk0, rfl, rfl, s7, r7, h7, es, ps, r8, h8, fs, qs, HI⟩ := hrel
      have HPR := thid HI.out.1
      have HBT := thid HI.out.2.1
      have HBU := thid HI.out.2.2.1
      have hsp7 := HI.out.2.2.2.1
      have hus7 := HI.out.2.2.2.2
      clear HI
      generalize wr = WR at *
      obtain ⟨bb, hbb⟩ : ∃ bb, Hid (decide (i < x.length \/ k < y.length) = bb) := ⟨_, rfl⟩
      go_upto_region 12 with fail
      go_cut [59] from 50 to 124 (fun s59 wx => s59 = .bool bb /\ wx = WR)
      case first =>
       by_cases hi : i < x.length
       · have hi' : (i : Int) < (x.length : Int) := by omega
         have hbt : bb = true := by rw [<- hbb.out]; simp [hi]
         clear hi hbb
         go_wp2
         go_meet
         case rel => exact ⟨by rw [hbt], rfl⟩
       · have hi' : ¬ (i : Int) < (x.length : Int) := by omega
         by_cases hk : k < y.length
         · have hk' : (k : Int) < (y.length : Int) := by omega
           have hbt : bb = true := by rw [<- hbb.out]; simp [hk]
           clear hi hk hbb
           go_wp2
           go_meet
           case rel => exact ⟨by rw [hbt], rfl⟩
         · have hk' : ¬ (k : Int) < (y.length : Int) := by omega
           have hbt : bb = false := by rw [<- hbb.out]; simp [hi, hk]
           clear hi hk hbb
           go_wp2
           go_meet
           case rel => exact ⟨by rw [hbt], rfl⟩
      case rest =>
       obtain ⟨rfl, hwc⟩ := hcut
       subst hwc
       generalize wc = WR at *
       cases bb
       · have hno := of_decide_eq_false hbb.out
         have hie : i = x.length := by omega
         have hke : k = y.length := by omega
         clear hbb hno
         obtain ⟨sa, sc, sl, pl, hsh1⟩ := HPR.out.a.shaped HBT.out (by omega)
         have HS1 := thid (hsh1 WR (Below.refl _ _))
         rw [hsp7] at HS1
         unfold arV at HS1
         clear hsh1
         go_wp2_with fail
         refine HS1.out.mono ?_
         rintro e w8 ⟨rfl, b8⟩
         have HP8 := thid (HPR.out.on b8)
         clear HS1 HPR b8 sl pl
         obtain ⟨sb, sd, sm, pm, hsh2⟩ := HP8.out.b.shaped HBU.out (by omega)
         have HS2 := thid (hsh2 w8 (Below.refl _ _))
         rw [hsp7] at HS2
         unfold arV at HS2
         clear hsh2
         go_wp2_with fail
         refine HS2.out.mono ?_
         rintro e w9 ⟨rfl, b9⟩
         have HP9 := thid (HP8.out.on b9)
         clear HS2 HP8 b9 sm pm
         have HUW := thid (L4.used_walk HP9.out.a.tw.ar HP9.out.a.tw.ok)
         rw [hsp7, hus7] at HUW
         unfold arV nv at HUW
         go_wp2_with fail
         refine HUW.out.mono ?_
         rintro e w10 ⟨rfl, b10⟩
         have HP10 := thid (HP9.out.on b10)
         have hle := HBT.out.len
         have hlf := HBU.out.len
         clear HUW HP9 b10
         go_wp2_with fail
         refine (tpages_any HP10.out.a.tw (by omega)).mono ?_
         rintro e w11 ⟨pa1, pc1, rfl, _, b11⟩
         have HP11 := thid (HP10.out.on b11)
         clear HP10 b11
         go_wp2_with fail
         refine (tpages_any HP11.out.b.tw (by omega)).mono ?_
         rintro e w12 ⟨pa2, pc2, rfl, _, b12⟩
         have HP12 := thid (HP11.out.on b12)
         clear HP11 b12
         have hp1 : ps.length <= 4096 := pages_le HP12.out.a.tw.ok HP12.out.a.tw.tp.nodup fun z hz => HP12.out.a.tw.tp.sub.pages z hz
         have hp2 : qs.length <= 4096 := pages_le HP12.out.b.tw.ok HP12.out.b.tw.tp.nodup fun z hz => HP12.out.b.tw.tp.sub.pages z hz
         have hwp : IntKind.i64.wrap ((ps.length : Int) + (qs.length : Int)) = ((ps.length + qs.length : Nat) : Int) := by rw [IntKind.wrap_i64]; omega
         have hne0 : (((ps.length + qs.length : Nat) : Int) != ((ps.length + qs.length : Nat) : Int)) = false := by simp
         have hne1 : ((ps.length : Int) + (qs.length : Int) != (ps.length : Int) + (qs.length : Int)) = false := by simp
         go_wp2_with fail
         refine (drop_any HP12.out.a.tw (by omega)).mono ?_
         rintro e w13 ⟨rfl, xs, hxs, hdr⟩
         obtain ⟨s13, hp13, hB13, hu13, hfr13, hz13⟩ := HP12.out.drop hxs hdr
         have HB13 := thid hB13
         have HOV : Hid (Ov w13 (.pointer (some ⟨t, 0, none⟩))) := Or.inr ⟨t, rfl, hz13⟩
         have HBD13 := thid (HBU.out.frame (a' := s13.abs) hfr13)
         have hsp13 : s13.p = s.p := hp13.trans hsp7
         have hus13 : s13.abs.used = qs.length := by omega
         clear HP12 hdr hB13 hz13 HBT HBU
         obtain ⟨se, sf, sg, pn, hsh3⟩ := HB13.out.shaped HBD13.out (by omega)
         have HS3 := thid (hsh3 w13 (Below.refl _ _))
         rw [hsp13] at HS3
         unfold arV at HS3
         clear hsh3
         go_wp2_with fail
         refine HS3.out.mono ?_
         rintro e w14 ⟨rfl, b14⟩
         have HB14 := thid (HB13.out.on b14)
         have HO14 := thid (HOV.out.on b14)
         clear HS3 HB13 HOV b14 sg pn
         have HUW := thid (L4.used_walk HB14.out.tw.ar HB14.out.tw.ok)
         rw [hsp13, hus13] at HUW
         unfold arV nv at HUW
         go_wp2_with fail
         refine HUW.out.mono ?_
         rintro e w15 ⟨rfl, b15⟩
         have HB15 := thid (HB14.out.on b15)
         have HO15 := thid (HO14.out.on b15)
         clear HUW HB14 HO14 b15
         go_wp2_with fail
         refine (tpages_any HB15.out.tw (by omega)).mono ?_
         rintro e w16 ⟨pa3, pc3, rfl, _, b16⟩
         have HO16 := thid (HO15.out.on b16)
         have HE16 := thid (tbelow_on HB15.out.bel b16)
         clear HB15 HO15 b16
         have heq0 : ((qs.length : Int) == (qs.length : Int)) = true := by simp
         go_wp2_with fail
         refine (len_ov HO16.out).mono ?_
         rintro e w17 ⟨rfl, b17⟩
         have HO17 := thid (HO16.out.on b17)
         have HE17 := thid (tbelow_on HE16.out b17)
         clear HO16 HE16 b17
         go_wp2_with fail
         refine (all_ov HO17.out).mono ?_
         rintro e w18 ⟨rfl, b18⟩
         have HO18 := thid (HO17.out.on b18)
         have HE18 := thid (tbelow_on HE17.out b18)
         clear HO17 HE17 b18
         go_wp2_with fail
         refine (insert_ov HO18.out _).mono ?_
         rintro e w19 ⟨rfl, b19⟩
         have HO19 := thid (HO18.out.on b19)
         have HE19 := thid (tbelow_on HE18.out b19)
         clear HO18 HE18 b19
         go_wp2_with fail
         refine (drop_ov HO19.out).mono ?_
         rintro e w20 ⟨rfl, b20⟩
         have HE20 := thid (tbelow_on HE19.out b20)
         clear HO19 HE19 b20
         go_wp2
         go_ret
         exact ⟨rfl, HE20.out⟩
       · have hco := of_decide_eq_true hbb.out
         clear hbb
         go_upto_region 13 with fail
         go_cut [17] from 50 to 124 (fun s17 wx => ∃ fb : Bool, s17 = .bool fb /\ (fb = true -> i < x.length) /\ (fb = false -> k < y.length) /\ wx = WR)
         case first =>
          by_cases hi : i < x.length
          · have hi' : (i : Int) < (x.length : Int) := by omega
            by_cases hk : k < y.length
            · have hk' : ¬ (y.length : Int) <= (k : Int) := by omega
              have hwk : IntKind.i64.wrap ((i : Int) + (k : Int)) = ((i + k : Nat) : Int) := by rw [IntKind.wrap_i64]; omega
              by_cases ht : i + k < tn.length
              · have ht' : ¬ (tn.length : Int) <= (i : Int) + (k : Int) := by omega
                obtain ⟨b, o, v, rfl, hbl, hv, hc⟩ := (HN.out.below HPR.out.a.bel).at ht
                have c0 : WR.cell? ⟨b, o + (i + k), none⟩ = some (.bool v) := by have := hc 0 _ rfl; simpa using this
                clear hc hv
                go_wp2
                go_meet
                case rel => exact ⟨v, rfl, fun _ => hi, fun _ => hk, rfl⟩
              · have ht' : (tn.length : Int) <= (i : Int) + (k : Int) := by omega
                go_wp2
                go_meet
                case rel => exact ⟨true, rfl, fun _ => hi, (fun h => by cases h), rfl⟩
            · have hk' : (y.length : Int) <= (k : Int) := by omega
              go_wp2
              go_meet
              case rel => exact ⟨true, rfl, fun _ => hi, (fun h => by cases h), rfl⟩
          · have hi' : ¬ (i : Int) < (x.length : Int) := by omega
            go_wp2
            go_meet
            case rel => exact ⟨false, rfl, (fun h => by cases h), (fun _ => by omega), rfl⟩
         case rest =>
          obtain ⟨fb, rfl, hf1, hf2, hwc⟩ := hcut
          subst hwc
          generalize wc = WR at *
          cases fb
          · have hk := hf2 rfl
            have hk' : (k : Int) < (y.length : Int) := by omega
            have hwi : IntKind.i64.wrap ((k : Int) + 1) = ((k + 1 : Nat) : Int) := by rw [IntKind.wrap_i64]; omega
            obtain ⟨b, o, m, rfl, hbl, hx, hc⟩ := (HY.out.below HPR.out.a.bel).at hk
            have hms := hy2 m (List.mem_of_getElem? hx)
            have c0 : WR.cell? ⟨b, o + k * 3, none⟩ = some (.int .i64 m.k) := hc 0 _ rfl
            have c1 : WR.cell? ⟨b, o + k * 3 + 1, none⟩ = some (.int .i64 m.n) := hc 1 _ rfl
            have c2 : WR.cell? ⟨b, o + k * 3 + 2, none⟩ = some (.string m.s) := hc 2 _ rfl
            have hel := HBU.out.len
            clear hc hx
            by_cases hk3 : m.k = 3
            · have hk3' : (m.k != 3) = false := by rw [hk3]; rfl
              have HD : Hid (Pair w s7 t p u (p + 1) r7 h7 es ps r8 h8 fs qs WR /\ Bnd s7.abs h7 es ps (i) /\ Bnd s7.abs h8 fs qs (k + 1) /\ s7.p = s.p /\ s7.abs.used = ps.length + qs.length) := ⟨HPR.out, HBT.out.more (by omega), HBU.out.more (by omega), hsp7, hus7⟩
              clear hk3 HPR HBT HBU
              go_wp2
              go_roundw
              case rel => exact ⟨i, k + 1, by omega, by omega, by go_num, by go_num, s7, r7, h7, es, ps, r8, h8, fs, qs, HD⟩
              case measure => simp [intOf]; omega
            · have hk3' : (m.k != 3) = true := by simpa using hk3
              have HSTP := thid (step_any (o := m) (HPR.out.swap).a (by omega) hms)
              rw [hsp7] at HSTP
              unfold arV oV at HSTP
              clear hk3
              go_wp2_with fail
              refine HSTP.out.mono ?_
              rintro e w8 ⟨rfl, s9, r9, h9, es9, ps9, hB9, hfl, hp9, hon⟩
              have hd1 : s9.p = s.p := hp9.trans hsp7
              have hd2 := hfl.used
              have HP9 := thid (((HPR.out.swap).step hB9 hfl hp9 hon).swap)
              have HB9 := thid (HBU.out.step hfl (by omega))
              have HO9 := thid (HBT.out.frame (a' := s9.abs) fun z hz => hfl.frame z (fun hz' => (HPR.out.swap).dj z hz' hz) ((HPR.out.swap).b.tw.tp.sub.pages z hz))
              clear HSTP hB9 hfl hp9 hon HPR HBT HBU
              go_wp2
              go_roundw
              case rel => exact ⟨i, k + 1, by omega, by omega, by go_num, by go_num, s9, r7, h7, es, ps, r9, h9, es9, ps9, HP9.out, HO9.out, HB9.out, hd1, by omega⟩
              case measure => simp [intOf]; omega
          · have hi := hf1 rfl
            have hi' : (i : Int) < (x.length : Int) := by omega
            have hwi : IntKind.i64.wrap ((i : Int) + 1) = ((i + 1 : Nat) : Int) := by rw [IntKind.wrap_i64]; omega
            obtain ⟨b, o, m, rfl, hbl, hx, hc⟩ := (HX.out.below HPR.out.a.bel).at hi
            have hms := hx2 m (List.mem_of_getElem? hx)
            have c0 : WR.cell? ⟨b, o + i * 3, none⟩ = some (.int .i64 m.k) := hc 0 _ rfl
            have c1 : WR.cell? ⟨b, o + i * 3 + 1, none⟩ = some (.int .i64 m.n) := hc 1 _ rfl
            have c2 : WR.cell? ⟨b, o + i * 3 + 2, none⟩ = some (.string m.s) := hc 2 _ rfl
            have hel := HBT.out.len
            clear hc hx
            by_cases hk3 : m.k = 3
            · have hk3' : (m.k != 3) = false := by rw [hk3]; rfl
              have HD : Hid (Pair w s7 t p u (p + 1) r7 h7 es ps r8 h8 fs qs WR /\ Bnd s7.abs h7 es ps (i + 1) /\ Bnd s7.abs h8 fs qs (k) /\ s7.p = s.p /\ s7.abs.used = ps.length + qs.length) := ⟨HPR.out, HBT.out.more (by omega), HBU.out.more (by omega), hsp7, hus7⟩
              clear hk3 HPR HBT HBU
              go_wp2
              go_roundw
              case rel => exact ⟨i + 1, k, by omega, by omega, by go_num, by go_num, s7, r7, h7, es, ps, r8, h8, fs, qs, HD⟩
              case measure => simp [intOf]; omega
            · have hk3' : (m.k != 3) = true := by simpa using hk3
              have HSTP := thid (step_any (o := m) (HPR.out).a (by omega) hms)
              rw [hsp7] at HSTP
              unfold arV oV at HSTP
              clear hk3
              go_wp2_with fail
              refine HSTP.out.mono ?_
              rintro e w8 ⟨rfl, s9, r9, h9, es9, ps9, hB9, hfl, hp9, hon⟩
              have hd1 : s9.p = s.p := hp9.trans hsp7
              have hd2 := hfl.used
              have HP9 := thid (((HPR.out).step hB9 hfl hp9 hon))
              have HB9 := thid (HBT.out.step hfl (by omega))
              have HO9 := thid (HBU.out.frame (a' := s9.abs) fun z hz => hfl.frame z (fun hz' => (HPR.out).dj z hz' hz) ((HPR.out).b.tw.tp.sub.pages z hz))
              clear HSTP hB9 hfl hp9 hon HPR HBT HBU
              go_wp2
              go_roundw
              case rel => exact ⟨i + 1, k, by omega, by omega, by go_num, by go_num, s9, r9, h9, es9, ps9, r8, h8, fs, qs, HP9.out, HB9.out, HO9.out, hd1, by omega⟩
              case measure => simp [intOf]; omega
   · rw [hgy] at HGY
     go_wp2_with fail
     refine HGY.out.mono ?_
     rintro e w3 ⟨rfl, b3⟩
     have HE := thid (tbelow_on HB2.out b3)
     clear HGY b3 HB2
     go_wp2
     go_ret
     exact ⟨rfl, HE.out⟩
 · rw [hgx] at HGX
   go_wp2_with fail
   refine HGX.out.mono ?_
   rintro e w3 ⟨rfl, b3⟩
   have HE := thid (tbelow_on HB1.out b3)
   clear HGX b3 HB1
   go_wp2
   go_ret
   exact ⟨rfl, HE.out⟩
end Go.Proofs.YtpcmiholbcmmjaaGreat
namespace Go.Proofs.YtpcmiholbcmmjaaGreat
open Go.RowKit Go.Deep
theorem bcells : Tryz.prog.cellsOf 4 = 1 := by kernel_rfl
theorem read_bool {H : Type} {enc : TypeId × Value -> H} {w : World} (fuel : Nat) (cs : List Value) (x : DataW H × List MemPlace) (h : DataW.trod enc Tryz.prog w 0 (fun _ => true) true fuel 4 cs = some x) (_hl : cs.length = 1) : ∃ b : Bool, cs = bC b /\ True := by
 obtain ⟨b, g0, -, -⟩ := DataW.trod_bool Tryz.underlying4 h
 exact ⟨b, g0, trivial⟩
theorem open_bools {H : Type} {enc : TypeId × Value -> H} {w : World} {base : Nat} {v : Value} {d : DataW H} {p : List MemPlace} (hv : Value.okWide Tryz.prog w .any base 62 v) (h : DataW.Trod enc Tryz.prog w 0 (fun _ => true) true 62 v d p) :
 ∃ a c, ∃ l : List Bool, v = .slice a l.length c /\ Rw.SlG bC 1 w a l := by
 obtain ⟨a, c, l, rfl, -, -, -, hS⟩ := Rw.open_row Tryz.underlying62 bcells (by decide) bC (fun _ => True) read_bool hv h
 exact ⟨a, c, l, rfl, hS⟩
end Go.Proofs.YtpcmiholbcmmjaaGreat
