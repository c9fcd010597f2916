import Derived.Test.YtiohkehcpkfleaaGreatMBV
import Derived.Test.YtiohkehcpkfleaaGreatMBX
set_option maxRecDepth 100000
set_option maxHeartbeats 4000000
namespace Go.Proofs.YtiohkehcpkfleaaGreat
open Go.RowKit
open L4 (Ar ArP Abs arV nv)
open L5 (ltP ltB leB)
def Bnd (a : Abs) (h : Nat) (es : List ByteArray) (ps : List Nat) (n : Nat) : Prop := h <= 30 /\ ∃ Z, Cov a ps Z /\ es.length + 2 * Z.length <= n
theorem full_le {h : Nat} (hf : fullH h <= 1000) : h <= 29 := by
 rcases Nat.lt_or_ge 29 h with e | e
 · exfalso
   unfold fullH at hf
   have h1 : 29 * 28 <= (h - 1) * (h - 2) := Nat.mul_le_mul (by omega) (by omega)
   omega
 · exact e
theorem Bnd.step {ins : Prop} {a A : Abs} {h h' n : Nat} {es es' : List ByteArray} {ps ps' : List Nat} (k : Bnd a h es ps n) (f : Flow ins a A h h' es es' ps ps') (hn : n <= 1000) : Bnd A h' es' ps' (n + 1) := by
 obtain ⟨k1, Z, k2, k3⟩ := k
 obtain ⟨Z', f1, f2⟩ := f.cov Z k2
 refine ⟨?_, Z', f1, by omega⟩
 rcases f.tall Z k2 with e | ⟨e, e2⟩
 · omega
 · have := full_le (h := h) (by omega)
   omega
theorem Bnd.more {a : Abs} {h n m : Nat} {es : List ByteArray} {ps : List Nat} (k : Bnd a h es ps n) (hm : n <= m) : Bnd a h es ps m := by
 obtain ⟨k1, Z, k2, k3⟩ := k
 exact ⟨k1, Z, k2, by omega⟩
theorem Bnd.len {a : Abs} {h n : Nat} {es : List ByteArray} {ps : List Nat} (k : Bnd a h es ps n) : es.length <= n := by
 obtain ⟨k1, Z, k2, k3⟩ := k
 omega
theorem Bnd.new {a : Abs} {r : Nat} (hs : Sub a 1 r e0 e0 [] [r]) : Bnd a 1 [] [r] 0 := by
 refine ⟨by omega, [], fun p hp hz => ?_, by simp⟩
 obtain ⟨n, ps', hn, _, _, hc⟩ := hs
 rcases hc with ⟨_, hl, _⟩ | ⟨h0, _⟩
 · obtain ⟨m, hm, hml, _⟩ := hz
   have e : p = r := by simpa using hp
   rw [e] at hm
   rw [hm.uniq hn, hl] at hml
   cases hml
 · exact absurd rfl h0
theorem Both.shaped {w0 : World} {s : Ar} {t p r h n : Nat} {es : List ByteArray} {ps : List Nat} {w : World} (k : Both w0 s t p r h es ps es w) (hb : Bnd s.abs h es ps n) (hn : n <= 1000) : ∃ a c, w.cell? ⟨p, 0, none⟩ = some (.slice a es.length c) /\ p < w.heap.size /\ ∀ W, Below w.heap.size w W -> Calls Tryz.prog 13 #[arV s.p, .pointer (some ⟨t, 0, none⟩), .slice a es.length c] W fun e W' => e = .returned (.bool true) /\ Below W.heap.size W W' := by
 obtain ⟨a, c, q1, q2⟩ := k.st.row
 have hl := hb.len
 refine ⟨a, c, by rw [cell_of_row _ _ _ _ _ _ q1]; rfl, (Array.getElem?_eq_some_iff.1 q1).1, fun W hW => ?_⟩
 exact shaped_walk (k.tw.on hW) k.ru hb.1 (by omega) ((L5.owns_rd_slice q2).below hW)
theorem sorted_ext : ∀ {l m : List ByteArray}, l.Pairwise ltP -> m.Pairwise ltP -> (∀ x, x ∈ l ↔ x ∈ m) -> l = m := by
 intro l
 induction l with
 | nil =>
  intro m _ _ h
  cases m with
  | nil => rfl
  | cons b m => exact absurd ((h b).2 (by simp)) (by simp)
 | cons a l ih =>
  intro m h1 h2 h
  cases m with
  | nil => exact absurd ((h a).1 (by simp)) (by simp)
  | cons b m =>
   rw [List.pairwise_cons] at h1 h2
   have hab : a = b := by
    rcases List.mem_cons.1 ((h a).1 (by simp)) with e | e
    · exact e
    · rcases List.mem_cons.1 ((h b).2 (by simp)) with e2 | e2
      · exact e2.symm
      · exact absurd (lt_tr (h1.1 b e2) (h2.1 a e)) (lt_irr a)
   subst hab
   rw [ih h1.2 h2.2 fun x => ?_]
   constructor
   · intro hx
     rcases List.mem_cons.1 ((h x).1 (by simp [hx])) with e | e
     · exact absurd (e ▸ h1.1 x hx) (lt_irr _)
     · exact e
   · intro hx
     rcases List.mem_cons.1 ((h x).2 (by simp [hx])) with e | e
     · exact absurd (e ▸ h2.1 x hx) (lt_irr _)
     · exact e
theorem delK_mem {k : ByteArray} {es : List ByteArray} (hs : es.Pairwise ltP) (hk : k ∈ es) (x : ByteArray) : x ∈ delK k es ↔ x ∈ es /\ x ≠ k := by
 obtain ⟨A, B, rfl⟩ := List.append_of_mem hk
 rw [List.pairwise_append, List.pairwise_cons] at hs
 obtain ⟨_, ⟨hB, _⟩, hAB⟩ := hs
 have hA : ∀ e ∈ A, ltP e k := fun e he => hAB e he k (by simp)
 have h0 : [k].countP (ltB k) = 0 := by
  have : ltB k k = false := ltB_no.2 (le_rf k)
  simp [this]
 have e : delK k (A ++ k :: B) = A ++ B := by
  have := delK_mid (k := k) (a := A) (b := [k]) (c := B) hA hB (by rw [h0]; simp)
  rw [List.append_assoc, List.singleton_append] at this
  rw [this]
  have : delK k [k] = [] := by unfold delK; rw [h0]; rfl
  rw [this]
  simp
 rw [e]
 simp only [List.mem_append, List.mem_cons]
 constructor
 · rintro (h | h)
   · exact ⟨Or.inl h, fun e => lt_irr k (e ▸ hA x h)⟩
   · exact ⟨Or.inr (Or.inr h), fun e => lt_irr k (e ▸ hB x h)⟩
 · rintro ⟨h | h | h, hne⟩
   · exact Or.inl h
   · exact absurd h hne
   · exact Or.inr h
structure Puts (es0 es P : List ByteArray) : Prop where
 mem : ∀ x, x ∈ es ↔ x ∈ es0 \/ x ∈ P
 nodup : P.Nodup
 dj : ∀ x ∈ P, x ∉ es0
theorem Puts.new (es : List ByteArray) : Puts es es [] := ⟨fun x => by simp, List.nodup_nil, fun x h => by cases h⟩
theorem Puts.more {es0 es P : List ByteArray} {k : ByteArray} (h : Puts es0 es P) (hk : k ∉ es) : Puts es0 (insK k es) (P ++ [k]) := by
 have h1 : k ∉ es0 /\ k ∉ P := ⟨fun e => hk ((h.mem k).2 (Or.inl e)), fun e => hk ((h.mem k).2 (Or.inr e))⟩
 refine ⟨fun x => ?_, ?_, fun x hx => ?_⟩
 · rw [insK_mem, h.mem]
   simp only [List.mem_append, List.mem_singleton]
   constructor
   · rintro (e | e | e)
     · exact Or.inr (Or.inr e)
     · exact Or.inl e
     · exact Or.inr (Or.inl e)
   · rintro (e | e | e)
     · exact Or.inr (Or.inl e)
     · exact Or.inr (Or.inr e)
     · exact Or.inl e
 · rw [List.nodup_append]
   exact ⟨h.nodup, by simp, fun a ha b hb e => by simp at hb; subst hb; exact h1.2 (e ▸ ha)⟩
 · rcases List.mem_append.1 hx with e | e
   · exact h.dj x e
   · simp at e; subst e; exact h1.1
theorem Puts.less {es0 es P : List ByteArray} {k : ByteArray} (h : Puts es0 es (k :: P)) (hs : es.Pairwise ltP) : k ∈ es /\ Puts es0 (delK k es) P := by
 have hk : k ∈ es := (h.mem k).2 (Or.inr (by simp))
 have hn := List.nodup_cons.1 h.nodup
 refine ⟨hk, fun x => ?_, hn.2, fun x hx => h.dj x (by simp [hx])⟩
 rw [delK_mem hs hk, h.mem]
 simp only [List.mem_cons]
 constructor
 · rintro ⟨e | e | e, hne⟩
   · exact Or.inl e
   · exact absurd e hne
   · exact Or.inr e
 · rintro (e | e)
   · exact ⟨Or.inl e, fun e2 => h.dj k (by simp) (e2 ▸ e)⟩
   · exact ⟨Or.inr (Or.inr e), fun e2 => hn.1 (e2 ▸ e)⟩
theorem Puts.done {es0 es : List ByteArray} (h : Puts es0 es []) (h1 : es0.Pairwise ltP) (h2 : es.Pairwise ltP) : es = es0 := sorted_ext h2 h1 fun x => by simpa using h.mem x
structure Trio (w0 : World) (s : Ar) (t p r h : Nat) (es : List ByteArray) (ps : List Nat) (fs : List ByteArray) (pv : Value) (P : List ByteArray) (w : World) : Prop where
 a : Both w0 s t p r h es ps fs w
 row : w.ownsRow w0.heap.size 9 1 pv P.length (L5.svs P)
 dj : ∀ g c m n, pv.ownBlock = some g -> w.heap[p]? = some (.cells #[.slice (some ⟨g, m, none⟩) n c] 35 (0, 0)) -> False
section
variable {w0 : World} {s : Ar} {t p r h : Nat} {es : List ByteArray} {ps : List Nat} {fs : List ByteArray} {pv : Value} {P : List ByteArray} {w W : World}
theorem Trio.on (k : Trio w0 s t p r h es ps fs pv P w) (hb : Below w.heap.size w W) : Trio w0 s t p r h es ps fs pv P W := by
 obtain ⟨_, _, q1, _⟩ := k.a.st.row
 refine ⟨k.a.on hb, L5.owns_below k.row hb, fun g c m n h1 h2 => k.dj g c m n h1 ?_⟩
 rw [<- hb.block p (Array.getElem?_eq_some_iff.1 q1).1]
 exact h2
theorem Trio.new (k : Both w0 s t p r h es ps fs w) : Trio w0 s t p r h es ps fs (.slice none 0 0) [] w := ⟨k, ⟨rfl, Or.inl ⟨rfl, rfl⟩⟩, fun g _ _ _ h1 => by simp [Value.ownBlock] at h1⟩
theorem Trio.tree {ins : Prop} {s' : Ar} {r' h' : Nat} {es' : List ByteArray} {ps' : List Nat} (k : Trio w0 s t p r h es ps fs pv P w) (g : TTo ins s t h es ps w s' r' h' es' ps' W) : Trio w0 s' t p r' h' es' ps' fs pv P W := by
 have g5 := g.2.2.2.2.1
 obtain ⟨_, _, q1, _⟩ := k.a.st.row
 refine ⟨k.a.tree g, L5.owns_of_block k.row fun q hq => g5.block q (k.row.lt q hq).2 fun e => ?_, fun b c m n h1 h2 => k.dj b c m n h1 ?_⟩
 · obtain ⟨cs, hcs⟩ := L4.owns_tag k.row hq
   rcases e with e | e
   · exact not_own k.a.tw.ar hcs (by decide) (by decide) (by decide) e
   · exact tag_ne hcs k.a.tw.tr.blk (by decide) e
 · rw [<- g5.block p (Array.getElem?_eq_some_iff.1 q1).1 fun e => ?_]
   · exact h2
   · rcases e with e | e
     · exact not_own k.a.tw.ar q1 (by decide) (by decide) (by decide) e
     · exact tag_ne q1 k.a.tw.tr.blk (by decide) e
theorem Trio.grow {v' : Value} {x : ByteArray} (k : Trio w0 s t p r h es ps fs pv P w) (hg : w.grownBy W pv.ownBlock) (ho : W.ownsRow w0.heap.size 9 1 v' (P.length + 1) (L5.svs P ++ L5.svs [x])) (hat : v'.ownBlock = pv.ownBlock \/ v'.ownBlock = some w.heap.size) : Trio w0 s t p r h es ps fs v' (P ++ [x]) W := by
 obtain ⟨a, c, q1, q2⟩ := k.a.st.row
 have oth : ∀ g, g < w.heap.size -> pv.ownBlock ≠ some g -> W.heap[g]? = w.heap[g]? := fun g h1 h2 => hg.block g h1 fun e => h2 e.symm
 have far : ∀ {g : Nat} {cs : Array Value} {e : TypeId}, w.heap[g]? = some (.cells cs e (0, 0)) -> 9 ≠ e -> W.heap[g]? = w.heap[g]? := fun hg hne => oth _ (Array.getElem?_eq_some_iff.1 hg).1 (Rw.owns_far k.row hg hne)
 have hp := far q1 (by decide)
 have ha : ArP s W := L4.arSt.keep s w W k.a.tw.ar (fun q hq => oth q (L4.arSt.lt s w q k.a.tw.ar hq) fun e => by
  obtain ⟨cs, hcs⟩ := L4.owns_tag k.row e
  exact not_own k.a.tw.ar hcs (by decide) (by decide) (by decide) hq) (fun q cs hq => far hq (by decide))
 have hset : W.ownsRow w0.heap.size 9 1 (.slice a fs.length c) fs.length (L5.svs fs) := L5.owns_of_block q2 fun q hq => oth q (q2.lt q hq).2 fun e => by
  rcases q2.2 with ⟨e1, _⟩ | ⟨g, cap, cur, e1, _⟩
  · rw [e1] at hq; simp [Value.ownBlock] at hq
  · injection e1 with e1 e2 e3
    subst e1
    simp [Value.ownBlock] at hq
    subst hq
    exact k.dj g c 0 fs.length e q1
 refine ⟨⟨⟨ha, k.a.tw.ok, ⟨(far k.a.tw.tr.blk (by decide)).trans k.a.tw.tr.blk⟩, k.a.tw.tp⟩, k.a.ru, ⟨k.a.st.low, a, c, hp.trans q1, hset⟩, ⟨hg.os.trans k.a.bel.os, hg.tape.trans k.a.bel.tape, hg.output.trans k.a.bel.output, Nat.le_trans k.a.bel.size hg.size, fun g hgl => ?_⟩, k.a.own, k.a.tl⟩, ?_, fun g c' m n h1 h2 => ?_⟩
 · rw [oth g (Nat.lt_of_lt_of_le hgl k.a.bel.size) fun e => by have := (k.row.lt g e).1; omega]
   exact k.a.bel.block g hgl
 · have e : L5.svs (P ++ [x]) = L5.svs P ++ L5.svs [x] := by simp [L5.svs]
   rw [e, List.length_append]
   exact ho
 · rw [hp] at h2
   rcases hat with e | e
   · rw [e] at h1
     exact k.dj g c' m n h1 h2
   · rw [e] at h1
     have hgw : w.heap.size = g := Option.some.inj h1
     rw [q1] at h2
     rcases q2.2 with ⟨e1, _⟩ | ⟨g2, cap, cur, e1, _⟩
     · rw [e1] at h2; simp at h2
     · have hl := (q2.lt g2 (by rw [e1]; rfl)).2
       rw [e1] at h2
       injection h2 with h2
       injection h2 with h2
       injection h2 with h2
       injection h2 with h2
       injection h2 with h2
       injection h2 with h2
       injection h2 with h2
       omega
end
theorem Both.drop {w0 w W : World} {s : Ar} {t p r h : Nat} {es : List ByteArray} {ps xs : List Nat} {fs : List ByteArray} (k : Both w0 s t p r h es ps fs w) (hus : s.abs.used = ps.length) (hx : xs.Perm ps) (d : Dropped w.heap.size s t xs w W) : ∃ s', s'.p = s.p /\ ArP s' W /\ s'.abs.Ok /\ s'.abs.used = 0 /\ W.heap[p]? = w.heap[p]? /\ Below w0.heap.size w0 W := by
 obtain ⟨s', hp, hab, hok, hA, hT, ho, hown⟩ := d.ex
 have hpg : ∀ z ∈ xs, ∃ c, s.abs.at (z : Int) = some c := fun z hz => k.tw.tp.sub.pages z (hx.mem_iff.1 hz)
 have hnd : xs.Nodup := hx.nodup_iff.2 k.tw.tp.nodup
 obtain ⟨_, _, j3⟩ := frees_ok xs k.tw.ok hnd hpg
 have e : s'.abs = frees s.abs xs := hab
 have hle := hx.length_eq
 obtain ⟨_, _, q1, _⟩ := k.st.row
 have hpl := (Array.getElem?_eq_some_iff.1 q1).1
 refine ⟨s', hp, hA, hok, by rw [e]; omega, ho.block p hpl fun z => ?_, k.bel.trans (ho.below k.bel.size fun z hz e => ?_)⟩
 · rcases z with z | z | z
   · exact not_own k.tw.ar q1 (by decide) (by decide) (by decide) z
   · exact tag_ne q1 k.tw.tr.blk (by decide) z
   · omega
 · rcases e with e | e | e
   · have := k.own z e; omega
   · have := k.tl; omega
   · have := k.bel.size; omega
theorem turns_walk {l : List TOp} {a : Option Addr} {c : Nat} {y : List ByteArray} {b0 : Option Addr} {d0 : Nat} {w : World} (hS : Rw.SlG oC 3 w a l) (hY : L5.Rd w b0 d0 (L5.svs y)) :
 Calls Tryz.prog 3 #[.slice a l.length c, .slice b0 y.length d0] w fun e w' => e = .returned (.bool true) /\ Below w.heap.size w w' := by
 have HS := thid hS
 have HY := thid hY
 clear hS hY
 go_enter Tryz.func3, Tryz.ntmps3
 go_wp2_with fail
 refine (awake2_walk _).mono ?_
 rintro e w1 ⟨rfl, b1⟩
 have HB1 := thid b1
 clear b1
 have HGR := thid (great_walk (c := c) (m := 100) (HS.out.below HB1.out) (by omega))
 cases hg : greatB l 100
 · rw [hg] at HGR
   by_cases hy1 : 100 < y.length
   · have hy1' : (100 : Int) < (y.length : Int) := by omega
     go_wp2_with fail
     refine HGR.out.mono ?_
     rintro e w3 ⟨rfl, b3⟩
     have HE := thid (tbelow_on HB1.out b3)
     clear HGR b3 HB1
     go_wp2
     go_ret
     exact ⟨rfl, HE.out⟩
   have hy1' : ¬ (100 : Int) < (y.length : Int) := by omega
   obtain ⟨hn1, hn2⟩ := great_not hg
   go_wp2_with fail
   refine HGR.out.mono ?_
   rintro e w3 ⟨rfl, b3⟩
   have HB3 := thid (tbelow_on HB1.out b3)
   clear b3 HGR HB1
   go_wp2_with fail
   refine (L4.new_ok 4000 (by omega) _).mono ?_
   rintro e w4 ⟨s, rfl, hF⟩
   have HF := thid hF
   have hok0 : s.abs.Ok := by
    rw [hF.2.1]
    exact ⟨by simp, by simp, by simp, by simp, by simp, by simp⟩
   have hl0 : 0 < s.abs.left := by
    rw [hF.2.1]
    simp [L4.Abs.left, L4.Abs.used]
   have hu0 : s.abs.used = 0 := by
    rw [hF.2.1]
    rfl
   have HN := thid (tnew hF.1 hok0 hl0)
   unfold arV at HN ⊢
   clear hF hok0 hl0 hg
   go_wp2_with fail
   refine HN.out.mono ?_
   rintro e w5 ⟨rfl, s5, r5, t1, p1, g1, o1, n1⟩
   have HBO := thid (Both.new HB3.out HF.out t1 o1 n1)
   have HPP := thid p1
   have HU5 := thid (show s5.abs.used = [r5].length by have := g1.used; rw [hu0] at this; simpa using this)
   have HBD := thid (Bnd.new t1.tp.sub)
   clear HN HF HB3 t1 g1 o1 n1 p1 hu0
   generalize w4.heap.size = t at *
   go_wp2_with fail
   generalize w5.heap.size = p at *
   generalize w5.alloc (.cells #[.slice none 0 0] 35) = W5 at *
   go_loopw [41] (fun i wr => ∃ j : Nat, j <= l.length /\ i = .int .i64 (j : Int) /\ ∃ (s5 : Ar) (r5 h5 : Nat) (es : List ByteArray) (ps : List Nat), Hid (Both w s5 t p r5 h5 es ps es wr /\ Bnd s5.abs h5 es ps j /\ s5.p = s.p /\ s5.abs.used = ps.length)) (fun i _ => l.length - (intOf i).toNat)
   case atStart => exact ⟨0, Nat.zero_le _, rfl, s5, r5, 1, [], [r5], HBO.out, HBD.out, HPP.out, HU5.out⟩
   case round =>
    clear HBO HPP HU5 HBD
    obtain ⟨j, hj, rfl, s6, r6, h6, es0, ps, HI⟩ := hrel
    obtain ⟨hT, hbd, hsp, hus⟩ := HI.out
    by_cases hlt : j < l.length
    · have hlt' : (j : Int) < (l.length : Int) := by omega
      obtain ⟨b, o, k, rfl, hbl, hx, hc⟩ := (HS.out.below hT.bel).at hlt
      have hks := hn2 k (List.mem_of_getElem? hx)
      have c0 : wr.cell? ⟨b, o + j * 3, none⟩ = some (.int .i64 k.k) := hc 0 _ rfl
      have c1 : wr.cell? ⟨b, o + j * 3 + 1, none⟩ = some (.int .i64 k.n) := hc 1 _ rfl
      have c2 : wr.cell? ⟨b, o + j * 3 + 2, none⟩ = some (.string k.s) := hc 2 _ rfl
      have HT1 := thid (hT.on (tbelow wr (.cells #[.int .i64 k.k, .int .i64 k.n, .string k.s] 37)))
      have HBD := thid hbd
      have hel := hbd.len
      clear hc hx hT HI hbd
      by_cases hk3 : k.k = 3
      · have hk : (k.k != 3) = false := by rw [hk3]; rfl
        have HD : Hid (Both w s6 t p r6 h6 es0 ps es0 (wr.alloc (.cells #[.int .i64 k.k, .int .i64 k.n, .string k.s] 37)) /\ Bnd s6.abs h6 es0 ps (j + 1) /\ s6.p = s.p /\ s6.abs.used = ps.length) := ⟨HT1.out, HBD.out.more (by omega), hsp, hus⟩
        clear hk3 HT1 HBD
        go_wp2
        go_roundw
        case rel => exact ⟨j + 1, hlt, by go_num, s6, r6, h6, es0, ps, HD⟩
        case measure => simp [intOf]; omega
      · have hk : (k.k != 3) = true := by simpa using hk3
        have HSTP := thid (step_any (o := k) HT1.out (by omega) hks)
        rw [hsp] at HSTP
        unfold arV oV at HSTP
        clear hk3
        go_wp2_with fail
        refine HSTP.out.mono ?_
        rintro e w6 ⟨rfl, s8, r8, h8, es8, ps8, hB8, hfl, hp8, hon⟩
        have HD : Hid (Both w s8 t p r8 h8 es8 ps8 es8 w6 /\ Bnd s8.abs h8 es8 ps8 (j + 1) /\ s8.p = s.p /\ s8.abs.used = ps8.length) := ⟨hB8, HBD.out.step hfl (by omega), hp8.trans hsp, by have := hfl.used; omega⟩
        clear HSTP hB8 hfl hp8 hon HT1 HBD
        go_wp2
        go_roundw
        case rel => exact ⟨j + 1, hlt, by go_num, s8, r8, h8, es8, ps8, HD⟩
        case measure => simp [intOf]; omega
    · have hlt' : ¬ (j : Int) < (l.length : Int) := by omega
      have hri := hT.rise
      have HTR := thid (Trio.new hT)
      have HBD := thid (hbd.more (show j <= 100 by omega))
      clear HI hT hbd
      go_wp2_with fail
      generalize wr = W6 at *
      go_loopw [12, 59] (fun pvv i wx => ∃ j : Nat, j <= y.length /\ i = .int .i64 (j : Int) /\ ∃ (s7 : Ar) (r7 h7 : Nat) (es : List ByteArray) (ps : List Nat) (pa : Option Addr) (pc : Nat) (P : List ByteArray), pvv = .slice pa P.length pc /\ P.length <= j /\ Hid (Trio w s7 t p r7 h7 es ps es0 (.slice pa P.length pc) P wx /\ Puts es0 es P /\ Bnd s7.abs h7 es ps (100 + j) /\ s7.p = s.p /\ s7.abs.used = ps.length)) (fun _ i _ => y.length - (intOf i).toNat)
      case atStart => exact ⟨0, Nat.zero_le _, rfl, s6, r6, h6, es0, ps, none, 0, [], rfl, by simp, HTR.out, Puts.new es0, HBD.out, hsp, hus⟩
      case round =>
       clear HTR HBD hsp hus
       obtain ⟨i, hi, rfl, s7, r7, h7, es, ps, pa, pc, P, rfl, hPl, HI⟩ := hrel
       have HTR := thid HI.out.1
       have HPU := thid HI.out.2.1
       have HBD := thid HI.out.2.2.1
       have hsp := HI.out.2.2.2.1
       have hus := HI.out.2.2.2.2
       have hel := HBD.out.len
       clear HI
       by_cases hlt2 : i < y.length
       · have hlt2' : (i : Int) < (y.length : Int) := by omega
         obtain ⟨x1, o1, rfl, l1, c1⟩ := (HY.out.below HTR.out.a.bel).str i hlt2
         generalize y[i] = x at *
         go_wp2_with fail
         refine (tinsert_ruly (k := x) HTR.out.a.tw HTR.out.a.ru (by omega)).mono ?_
         rintro e w7 ⟨c7, s8, r8, h8, es8, ps8, rfl, i8, t8⟩
         have HT8 := thid (HTR.out.tree t8)
         have HB8 := thid (HBD.out.step t8.2.2.2.2.2.2 (by omega))
         have hp8 : s8.p = s.p := t8.2.2.1.trans hsp
         have hu8 := t8.2.2.2.2.2.2.used
         by_cases hc7 : c7 = 0
         · have hfa : x ∉ es /\ es8 = insK x es := by
            rcases i8 with ⟨_, e1, _⟩ | ⟨_, ⟨_, e1, _⟩ | ⟨h1, ⟨_, e1, _⟩ | ⟨_, _, e2⟩⟩⟩
            · omega
            · omega
            · omega
            · exact ⟨h1, e2⟩
           obtain ⟨hx1, rfl⟩ := hfa
           subst hc7
           have HP8 := thid (HPU.out.more hx1)
           clear i8 t8 HTR HPU HBD c1 l1
           have HT9 := thid (HT8.out.on (tbelow w7 (.cells #[.string x] 9)))
           have HSR := thid (Rw.src_new w7 [.string x] 9 1 1 (q := w7.heap.size) rfl)
           go_wp2_with (first
            | (at_builtin
               revert HT9)
            | fail)
           intro HT9
           refine Rw.append_src (P := Tryz.prog) (size := 1) (bytes := 16) (z := .string ⟨#[]⟩) Tryz.underlying23 (by kernel_rfl) rfl (by decide) (by decide) rfl _ _ rfl w.heap.size HT9.out.a.bel.size (.slice pa P.length pc) P.length (L5.svs P) rfl HT9.out.row (some ⟨w7.heap.size, 0, none⟩) 1 1 (L5.svs [x]) rfl HSR.out rfl (svs_oneC _) (by omega) ?_
           intro v9 w9 hown hg hat
           have HTA := thid (HT9.out.grow hg hown hat)
           obtain ⟨a9, c9, rfl⟩ := Rw.owns_slice hown
           have hn9 : (P ++ [x]).length = P.length + 1 := by simp
           have hPl2 : (P ++ [x]).length <= i + 1 := by rw [hn9]; omega
           generalize P.length + 1 = m9 at HTA hn9 ⊢
           clear hown hg hat HT9 HSR HT8
           go_wp2
           go_roundw
           case rel => exact ⟨i + 1, hlt2, by go_num, s8, r8, h8, insK x es, ps8, a9, c9, P ++ [x], by rw [hn9], hPl2, by rw [hn9]; exact HTA.out, HP8.out, HB8.out, hp8, by omega⟩
           case measure => simp [intOf]; omega
         · have hfa : es8 = es := by
            rcases i8 with ⟨_, _, e2⟩ | ⟨_, ⟨_, _, e2⟩ | ⟨_, ⟨_, _, e2⟩ | ⟨_, e1, _⟩⟩⟩
            · exact e2
            · exact e2
            · exact e2
            · exact absurd e1 hc7
           subst hfa
           have hc7' : (c7 == 0) = false := by simpa using hc7
           clear i8 t8 HTR HBD c1 l1 hc7
           go_wp2
           go_roundw
           case rel => exact ⟨i + 1, hlt2, by go_num, s8, r8, h8, es8, ps8, pa, pc, P, rfl, by omega, HT8.out, HPU.out, HB8.out, hp8, by omega⟩
           case measure => simp [intOf]; omega
       · have hlt2' : ¬ (i : Int) < (y.length : Int) := by omega
         have HRP := thid (L5.owns_rd_slice HTR.out.row)
         have hPn : P.length <= 100 := by omega
         have HTRR := HTR
         have HBD2 := thid (HBD.out.more (show 100 + i <= 200 by omega))
         clear HTR HBD
         go_wp2_with fail
         generalize wr = W7 at *
         go_loopw [74] (fun i wx => ∃ j : Nat, j <= P.length /\ i = .int .i64 (j : Int) /\ ∃ (s8 : Ar) (r8 h8 : Nat) (es8 : List ByteArray) (ps8 : List Nat), Hid (Trio w s8 t p r8 h8 es8 ps8 es0 (.slice pa P.length pc) P wx /\ Puts es0 es8 (P.drop j) /\ Bnd s8.abs h8 es8 ps8 (200 + j) /\ s8.p = s.p /\ s8.abs.used = ps8.length)) (fun i _ => P.length - (intOf i).toNat)
         case atStart => exact ⟨0, Nat.zero_le _, rfl, s7, r7, h7, es, ps, HTRR.out, HPU.out, HBD2.out, hsp, hus⟩
         case round =>
          clear HPU HBD2 hsp hus HTRR HRP
          obtain ⟨j, hj, rfl, s8, r8, h8, es8, ps8, HI⟩ := hrel
          have HTR := thid HI.out.1
          have HPU := thid HI.out.2.1
          have HBD := thid HI.out.2.2.1
          have hsp := HI.out.2.2.2.1
          have hus := HI.out.2.2.2.2
          have hel := HBD.out.len
          clear HI
          by_cases hlt3 : j < P.length
          · have hlt3' : (j : Int) < (P.length : Int) := by omega
            obtain ⟨x1, o1, rfl, l1, c1⟩ := (L5.owns_rd_slice HTR.out.row).str j hlt3
            have hdr : P.drop j = P[j] :: P.drop (j + 1) := List.drop_eq_getElem_cons hlt3
            rw [hdr] at HPU
            generalize P[j] = x at *
            obtain ⟨hxe, hPU2⟩ := HPU.out.less HTR.out.a.rise
            have HP2 := thid hPU2
            go_wp2_with fail
            refine (tdelete_tree (k := x) HTR.out.a.tw HTR.out.a.ru (by omega)).mono ?_
            rintro e w9 ⟨c9, s9, r9, h9, es9, ps9, rfl, i9, t9⟩
            have hfa : c9 = 0 /\ es9 = delK x es8 := by
             rcases i9 with ⟨h1, _⟩ | ⟨_, e1, e2⟩
             · exact absurd hxe h1
             · exact ⟨e1, e2⟩
            obtain ⟨rfl, rfl⟩ := hfa
            have HT9 := thid (HTR.out.tree t9)
            have HB9 := thid (HBD.out.step t9.2.2.2.2.2.2 (by omega))
            have hp9 : s9.p = s.p := t9.2.2.1.trans hsp
            have hu9 := t9.2.2.2.2.2.2.used
            clear i9 t9 HTR HPU HBD c1 l1 hdr hPU2
            go_wp2
            go_roundw
            case rel => exact ⟨j + 1, hlt3, by go_num, s9, r9, h9, delK x es8, ps9, HT9.out, HP2.out, HB9.out, hp9, by omega⟩
            case measure => simp [intOf]; omega
          · have hlt3' : ¬ (j : Int) < (P.length : Int) := by omega
            rw [List.drop_of_length_le (by omega)] at HPU
            obtain rfl := HPU.out.done hri HTR.out.a.rise
            have HB := thid HTR.out.a
            obtain ⟨sa, sc, sl, pl, hsh⟩ := HB.out.shaped HBD.out (by omega)
            obtain ⟨a7, c7, q1, q2⟩ := HB.out.st.row
            have p0 : wr.cell? ⟨p, 0, none⟩ = some (.slice a7 es8.length c7) := by rw [cell_of_row _ _ _ _ _ _ q1]; rfl
            have hee := Option.some.inj (p0.symm.trans sl)
            injection hee with e1 e2 e3
            subst e1
            subst e3
            have KS : Hid (∀ W, Below wr.heap.size wr W -> W.cell? ⟨p, 0, none⟩ = some (.slice a7 es8.length c7)) := fun W hb => (hb.cell (p := ⟨p, 0, none⟩) pl).trans sl
            have HAL : Hid (∀ W, Below wr.heap.size wr W -> Calls Tryz.prog 12 #[.pointer (some ⟨t, 0, none⟩)] W fun e w' => ∃ a c, e = .returned (.slice a es8.length c) /\ Hid (L5.Rd w' a c (L5.svs es8) /\ L5.Rd w' a7 c7 (L5.svs es8)) /\ Below wr.heap.size wr w') := fun W hb => (all_any (HB.out.on hb).tw (by omega)).mono (by
             rintro e w' ⟨a, c, rfl, ho, hb'⟩
             exact ⟨a, c, rfl, ⟨L5.owns_rd_slice ho, L5.owns_rd_slice (L5.owns_below q2 (tbelow_on hb hb'))⟩, tbelow_on hb hb'⟩)
            have HSH := thid hsh
            rw [hsp] at HSH
            have HDR : Hid (∀ W, Below wr.heap.size wr W -> Calls Tryz.prog 14 #[.pointer (some ⟨t, 0, none⟩)] W fun e w' => e = .returned (.int .i64 0) /\ w'.cell? ⟨p, 0, none⟩ = some (.slice a7 es8.length c7) /\ Hid (Calls Tryz.prog 15 #[.pointer (some ⟨s.p, 0, none⟩)] w' fun e w'' => e = .returned (.int .i64 0) /\ w''.cell? ⟨p, 0, none⟩ = some (.slice a7 es8.length c7) /\ Below w.heap.size w w'')) := fun W hb => (drop_any (HB.out.on hb).tw (by omega)).mono (by
             rintro e w' ⟨rfl, xs, hxs, hdr⟩
             obtain ⟨s', d1, d2, d3, d4, d5, d6⟩ := (HB.out.on hb).drop hus hxs hdr
             have hpw : w'.cell? ⟨p, 0, none⟩ = some (.slice a7 es8.length c7) := by
              rw [World.cell?_of_block (w := W) (w' := w') (a := ⟨p, 0, none⟩) d5]
              exact KS.out W hb
             have hpl : p < w'.heap.size := Nat.lt_of_lt_of_le (Nat.lt_of_lt_of_le pl hb.size) (hdr.ex.elim fun _ h => h.2.2.2.2.2.1.size)
             refine ⟨rfl, hpw, (show Calls _ _ _ _ _ from ?_)⟩
             have := L4.used_walk d2 d3
             rw [d1, hsp, d4] at this
             exact this.mono (by rintro e w'' ⟨rfl, b⟩; exact ⟨rfl, (b.cell (p := ⟨p, 0, none⟩) hpl).trans hpw, tbelow_on d6 b⟩))
            unfold arV at HSH
            have hes : es8.length <= 100000 := by omega
            have k0 : Below wr.heap.size wr wr := Below.refl _ _
            have k1 : Below wr.heap.size wr wr.drew := (Below.refl _ _).drew
            clear HTR HB HPU HBD q1 q2 pl sl hsh p0 e2 hri
            go_wp2_with fail
            go_region_held (fun W => W.cell? ⟨p, 0, none⟩ = some (.slice a7 es8.length c7)) (first | exact KS.out _ (by with_reducible assumption) | with_reducible assumption) (first
             | (go_at_call 12; refine (HAL.out _ k1).mono ?_; rintro e w8 ⟨a8, c8, rfl, HR8, k8⟩)
             | (go_at_call 11; refine (same_strs HR8.out.1 HR8.out.2 hes).mono ?_; rintro e w9 ⟨rfl, b9⟩; have k9 := tbelow_on k8 b9)
             | (go_at_call 13; refine (HSH.out _ k9).mono ?_; rintro e w10 ⟨rfl, b10⟩; have k10 := tbelow_on k9 b10)
             | (go_at_call 14; refine (HDR.out _ k10).mono ?_; rintro e w11 ⟨rfl, k11, HU11⟩)
             | (go_at_call 15; refine HU11.out.mono ?_; rintro e w12 ⟨rfl, k12, HE12⟩))
            all_goals
             go_wp2
             go_ret
             exact ⟨rfl, HE12⟩
 · rw [hg] at HGR
   go_wp2_with fail
   refine HGR.out.mono ?_
   rintro e w3 ⟨rfl, b3⟩
   have HE := thid (tbelow_on HB1.out b3)
   clear HGR b3 HB1
   go_wp2
   go_ret
   exact ⟨rfl, HE.out⟩
end Go.Proofs.YtiohkehcpkfleaaGreat
