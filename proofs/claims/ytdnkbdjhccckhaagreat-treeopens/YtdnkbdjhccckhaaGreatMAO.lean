import Derived.Test.YtdnkbdjhccckhaaGreatMAI
import Derived.Test.YtdnkbdjhccckhaaGreatMAK
import Derived.Test.YtdnkbdjhccckhaaGreatMAN
set_option maxRecDepth 100000
set_option maxHeartbeats 4000000
namespace Go.Proofs.YtdnkbdjhccckhaaGreat.L5
open Go.RowKit
def No.lo (n: No) (k: Nat): No := ⟨n.leaf,n.recs.take k,if n.leaf then [] else n.kids.take (k + 1)⟩
def No.hi (n: No) (k: Nat): No := ⟨n.leaf,n.recs.drop (k + n.gap),if n.leaf then [] else n.kids.drop (k + 1)⟩
theorem Halves.weaken {w W0 W: World} {x y: No} {r1 k1 r2 k2: Value} (h: Halves W0 x y r1 k1 r2 k2 W) (hb: Below w.heap.size w W0): Halves w x y r1 k1 r2 k2 W :=
 ⟨owns_base h.a1 hb.size,owns_base h.a2 hb.size,owns_base h.b1 hb.size,owns_base h.b2 hb.size,h.ap1,h.ap2,below_on hb h.below⟩
theorem split_out {w W: World} {x y: No} {r1 k1 r2 k2: Value} (z2: W.heap[w.heap.size + 1]? = some zNode) (z4: W.heap[w.heap.size + 2]? = some zNode) (h: Halves w x y r1 k1 r2 k2 W) (u v: Value) :
 Out w x y u v r1 k1 r2 k2 (put3 (put3 W (w.heap.size + 1) u r1 k1) (w.heap.size + 2) v r2 k2) := by
 have b2 := put3_block z2 u r1 k1
 have b4: (put3 W (w.heap.size + 1) u r1 k1).heap[w.heap.size + 2]? = some zNode := by rw [put3_other (by omega)]; exact z4
 have d4 := put3_block b4 v r2 k2
 have d2: (put3 (put3 W (w.heap.size + 1) u r1 k1) (w.heap.size + 2) v r2 k2).heap[w.heap.size + 1]? = some (.cells #[u,r1,k1] 69 (0,0)) := by rw [put3_other (by omega)]; exact b2
 have h1 := (h.put3 z2 (by omega) u r1 k1).put3 b4 (by omega) v r2 k2
 generalize put3 (put3 W (w.heap.size + 1) u r1 k1) (w.heap.size + 2) v r2 k2 = X at *
 have n2 := node_cells d2
 have n4 := node_cells d4
 exact ⟨n2.1,n2.2.1,n2.2.2,n4.1,n4.2.1,n4.2.2,h1⟩
theorem Halves.slices {w W: World} {x y: No} {r1 k1 r2 k2: Value} (h: Halves w x y r1 k1 r2 k2 W): ∃ a1 c1 a2 c2 a3 c3 a4 c4,r1 = .slice a1 x.recs.length c1 /\ k1 = .slice a2 x.kids.length c2 /\ r2 = .slice a3 y.recs.length c3 /\ k2 = .slice a4 y.kids.length c4 := by
 obtain ⟨a1,c1,e1,_⟩ := owns_rd h.a1
 obtain ⟨a2,c2,e2,_⟩ := owns_rd h.a2
 obtain ⟨a3,c3,e3,_⟩ := owns_rd h.b1
 obtain ⟨a4,c4,e4,_⟩ := owns_rd h.b2
 exact ⟨a1,c1,a2,c2,a3,c3,a4,c4,e1,e2,e3,e4⟩
theorem split_leaf {n: No} {a: Option Addr} {c: Nat} {a': Option Addr} {c': Nat} {w: World} (hr: NR w n a c a' c') (hs: n.small) (hlf: n.leaf = true) (h2: 2 <= n.recs.length) (k: Nat) (hk: k = cutN 4 0 n.recs) (s: ByteArray) (hsk: n.recs[k]? = some s) :
 Calls Tryz.prog 90 #[nodeV n a c a' c'] w fun e w' => ∃ r1 k1 r2 k2,e = .returned (.tuple #[.agg #[.bool true,r1,k1], .string s, .agg #[.bool true,r2,k2]]) /\ Halves w (leafL n k) (leafR n k) r1 k1 r2 k2 w' := by
 have HN: Hid (SW w n a c a' c' (((w.alloc (.cells #[.bool n.leaf, .slice a n.recs.length c, .slice a' n.kids.length c'] 69)).alloc (.cells #[.bool false, .slice none 0 0, .slice none 0 0] 69)).alloc (.cells #[.bool false, .slice none 0 0, .slice none 0 0] 69))) := SW.new _ _ _ _ _ _
 have HC := hid (splitLeaf_walk (hr.below HN.out.bx.below) hs hlf h2  k hk s hsk)
 unfold nodeV at HC
 rw [hlf] at HC HN
 clear hk hr
 go_enter Tryz.func90,Tryz.ntmps90
 unfold nodeV
 rw [hlf]
 go_wp2_with fail
 generalize ((w.alloc (.cells #[.bool true, .slice a n.recs.length c, .slice a' n.kids.length c'] 69)).alloc (.cells #[.bool false, .slice none 0 0, .slice none 0 0] 69)).alloc (.cells #[.bool false, .slice none 0 0, .slice none 0 0] 69) = W0 at *
 refine HC.out.mono ?_
 rintro e w1 ⟨r1,k1,r2,k2,rfl,hh⟩
 have HS1: Hid (SW w n a c a' c' w1) := HN.out.on hh.below
 have HH: Hid (Halves w (leafL n k) (leafR n k) r1 k1 r2 k2 w1) := hh.weaken HN.out.bx.below
 clear hh HC HN
 obtain ⟨y1,t1,y2,t2,y3,t3,y4,t4,rfl,rfl,rfl,rfl⟩ := HH.out.slices
 obtain ⟨l20,l21,l22⟩ := node_cells HS1.out.z2
 obtain ⟨l40,l41,l42⟩ := node_cells HS1.out.z4
 have f2: ∀ i,w1.frozen? ⟨w.heap.size + 1,i,none⟩ = false := fun i => frozen_of_row _ _ _ _ _ HS1.out.z2
 have f4: ∀ i,w1.frozen? ⟨w.heap.size + 2,i,none⟩ = false := fun i => frozen_of_row _ _ _ _ _ HS1.out.z4
 have e9 := set_far (p := w.heap.size + 1) (q := w.heap.size + 2) (by omega)
 generalize (leafL n k).recs.length = q1 at *
 generalize (leafL n k).kids.length = q2 at *
 generalize (leafR n k).recs.length = q3 at *
 generalize (leafR n k).kids.length = q4 at *
 go_wp2_with fail
 refine to_letter (split_out HS1.out.z2 HS1.out.z4 HH.out (.bool true) (.bool true)) ?_
 clear l20 l21 l22 l40 l41 l42 f2 f4 e9 HS1 HH
 intro Wf hF
 obtain ⟨g20,g21,g22,g40,g41,g42,hF⟩ := hF
 refine bodyPost_ret (v := .tuple #[.agg #[.bool true, .slice y1 q1 t1, .slice y2 q2 t2], .string s, .agg #[.bool true, .slice y3 q3 t3, .slice y4 q4 t4]]) ?_ rfl ?_
 · simp [results,Tryz.results90,go_sem,g20,g21,g22,g40,g41,g42]
 · exact ⟨_,_,_,_,rfl,hF⟩
theorem split_inner {n: No} {a: Option Addr} {c: Nat} {a': Option Addr} {c': Nat} {w: World} (hr: NR w n a c a' c') (hs: n.small) (hlf: n.leaf = false) (h2: 3 <= n.recs.length) (hkl: n.kids.length = n.recs.length + 1) (k: Nat) (hk: k = cutN 8 1 n.recs) (s: ByteArray) (hsk: n.recs[k]? = some s) :
 Calls Tryz.prog 90 #[nodeV n a c a' c'] w fun e w' => ∃ r1 k1 r2 k2,e = .returned (.tuple #[.agg #[.bool false,r1,k1], .string s, .agg #[.bool false,r2,k2]]) /\ Halves w (innL n k) (innR n k) r1 k1 r2 k2 w' := by
 have HN: Hid (SW w n a c a' c' (((w.alloc (.cells #[.bool n.leaf, .slice a n.recs.length c, .slice a' n.kids.length c'] 69)).alloc (.cells #[.bool false, .slice none 0 0, .slice none 0 0] 69)).alloc (.cells #[.bool false, .slice none 0 0, .slice none 0 0] 69))) := SW.new _ _ _ _ _ _
 have HC := hid (splitInner_walk (hr.below HN.out.bx.below) hs hlf h2 hkl k hk s hsk)
 unfold nodeV at HC
 rw [hlf] at HC HN
 clear hk hr hkl
 go_enter Tryz.func90,Tryz.ntmps90
 unfold nodeV
 rw [hlf]
 go_wp2_with fail
 generalize ((w.alloc (.cells #[.bool false, .slice a n.recs.length c, .slice a' n.kids.length c'] 69)).alloc (.cells #[.bool false, .slice none 0 0, .slice none 0 0] 69)).alloc (.cells #[.bool false, .slice none 0 0, .slice none 0 0] 69) = W0 at *
 refine HC.out.mono ?_
 rintro e w1 ⟨r1,k1,r2,k2,rfl,hh⟩
 have HS1: Hid (SW w n a c a' c' w1) := HN.out.on hh.below
 have HH: Hid (Halves w (innL n k) (innR n k) r1 k1 r2 k2 w1) := hh.weaken HN.out.bx.below
 clear hh HC HN
 obtain ⟨y1,t1,y2,t2,y3,t3,y4,t4,rfl,rfl,rfl,rfl⟩ := HH.out.slices
 obtain ⟨l20,l21,l22⟩ := node_cells HS1.out.z2
 obtain ⟨l40,l41,l42⟩ := node_cells HS1.out.z4
 have f2: ∀ i,w1.frozen? ⟨w.heap.size + 1,i,none⟩ = false := fun i => frozen_of_row _ _ _ _ _ HS1.out.z2
 have f4: ∀ i,w1.frozen? ⟨w.heap.size + 2,i,none⟩ = false := fun i => frozen_of_row _ _ _ _ _ HS1.out.z4
 have e9 := set_far (p := w.heap.size + 1) (q := w.heap.size + 2) (by omega)
 generalize (innL n k).recs.length = q1 at *
 generalize (innL n k).kids.length = q2 at *
 generalize (innR n k).recs.length = q3 at *
 generalize (innR n k).kids.length = q4 at *
 go_wp2_with fail
 refine to_letter (split_out HS1.out.z2 HS1.out.z4 HH.out (.bool false) (.bool false)) ?_
 clear l20 l21 l22 l40 l41 l42 f2 f4 e9 HS1 HH
 intro Wf hF
 obtain ⟨g20,g21,g22,g40,g41,g42,hF⟩ := hF
 refine bodyPost_ret (v := .tuple #[.agg #[.bool false, .slice y1 q1 t1, .slice y2 q2 t2], .string s, .agg #[.bool false, .slice y3 q3 t3, .slice y4 q4 t4]]) ?_ rfl ?_
 · simp [results,Tryz.results90,go_sem,g20,g21,g22,g40,g41,g42]
 · exact ⟨_,_,_,_,rfl,hF⟩
theorem split_walk {n: No} {a: Option Addr} {c: Nat} {a': Option Addr} {c': Nat} {w: World} (hr: NR w n a c a' c') (hs: n.small) (h2: n.gap + 2 <= n.recs.length) (hkl: n.leaf = false -> n.kids.length = n.recs.length + 1) (s: ByteArray) (hsk: n.recs[n.cut]? = some s) :
 Calls Tryz.prog 90 #[nodeV n a c a' c'] w fun e w' => ∃ r1 k1 r2 k2,e = .returned (.tuple #[.agg #[.bool n.leaf,r1,k1], .string s, .agg #[.bool n.leaf,r2,k2]]) /\ Halves w (n.lo n.cut) (n.hi n.cut) r1 k1 r2 k2 w' := by
 have hg: n.gap = if n.leaf then 0 else 1 := rfl
 cases hlf: n.leaf
 · have hg1: n.gap = 1 := by rw [hg,hlf]; rfl
   have e1: n.lo n.cut = innL n n.cut := by unfold No.lo innL; rw [hlf]; rfl
   have e2: n.hi n.cut = innR n n.cut := by unfold No.hi innR; rw [hlf,hg1]; rfl
   rw [e1,e2]
   exact split_inner hr hs hlf (by omega) (hkl hlf) n.cut (cut_inner hlf) s hsk
 · have hg0: n.gap = 0 := by rw [hg,hlf]; rfl
   have e1: n.lo n.cut = leafL n n.cut := by unfold No.lo leafL; rw [hlf]; rfl
   have e2: n.hi n.cut = leafR n n.cut := by unfold No.hi leafR; rw [hlf,hg0]; rfl
   rw [e1,e2]
   exact split_leaf hr hs hlf (by omega) n.cut (cut_leaf hlf) s hsk
end Go.Proofs.YtdnkbdjhccckhaaGreat.L5
namespace Go.Proofs.YtdnkbdjhccckhaaGreat
open Go.RowKit
open L4 (Abs)
open L5 (ltP ltB leB)
structure Pl where
 at_: Nat
 n: L5.No
 kid: Nat
structure Holds (a: Abs) (at_: Nat) (n: L5.No): Prop where
 page: a.at (at_: Int) = some (L5.pageL n.toNd)
 shaped: n.shaped = true
 size: n.size <= 1024
 small: n.small
inductive Path (a: Abs) (k: ByteArray): Nat -> Nat -> List Pl -> Prop
 | leaf {at_: Nat} {n: L5.No} (h: Holds a at_ n) (hl: n.leaf = true): Path a k 1 at_ [⟨at_,n,0⟩]
 | inner {h at_ at': Nat} {n: L5.No} {rest: List Pl} (hn: Holds a at_ n) (hl: n.leaf = false) (hk: n.kids[n.recs.countP (L5.leB k)]? = some (at': Int)) (hr: Path a k h at' rest): Path a k (h + 1) at_ (⟨at_,n,n.recs.countP (L5.leB k)⟩ :: rest)
theorem Path.pos {a: Abs} {k: ByteArray} {h at_: Nat} {l: List Pl} (p: Path a k h at_ l): l.length = h /\ 1 <= h := by
 induction p with
 | leaf => exact ⟨rfl,Nat.le_refl _⟩
 | inner _ _ _ _ ih => exact ⟨by simp [ih.1],by omega⟩
def leP (x y: ByteArray): Prop := Op.bytesLess y.toList x.toList = false
theorem ba_ext {x y: ByteArray} (h: x.toList = y.toList): x = y := by
 rw [ByteArray.toList_eq,ByteArray.toList_eq] at h
 exact ByteArray.ext (Array.toList_inj.1 h)
theorem lt_tr {x y z: ByteArray} (h1: ltP x y) (h2: ltP y z): ltP x z := L5.lt_trans_b h1 h2
theorem lt_irr (x: ByteArray): ¬ ltP x x := fun h => by unfold ltP at h; rw [L5.lt_irrefl_b] at h; cases h
theorem le_lt {x y z: ByteArray} (h1: leP x y) (h2: ltP y z): ltP x z := L5.le_lt_b h1 h2
theorem le_or {x y: ByteArray}: leP x y ↔ ltP x y \/ x = y := by
 have := L5.le_not_lt x.toList y.toList
 unfold leP ltP
 constructor
 · intro h
   rw [h] at this
   simp only [Bool.not_false,Bool.or_eq_true,beq_iff_eq] at this
   exact this.imp id ba_ext
 · rintro (h | h)
   · rw [h] at this
     simpa using this.symm
   · rw [h]; exact L5.lt_irrefl_b _
theorem lt_le {x y z: ByteArray} (h1: ltP x y) (h2: leP y z): ltP x z := by
 rcases le_or.1 h2 with h | h
 · exact lt_tr h1 h
 · exact h ▸ h1
theorem le_tr {x y z: ByteArray} (h1: leP x y) (h2: leP y z): leP x z := by
 rcases le_or.1 h1 with h | h
 · exact le_or.2 (Or.inl (lt_le h h2))
 · exact h ▸ h2
theorem le_rf (x: ByteArray): leP x x := L5.lt_irrefl_b _
theorem le_of {x y: ByteArray} (h: ltP x y): leP x y := le_or.2 (Or.inl h)
theorem not_lt {x y: ByteArray}: ¬ ltP x y ↔ leP y x := by unfold ltP leP; simp
theorem lt_or (x y: ByteArray): ltP x y \/ leP y x := by
 by_cases h: ltP x y
 · exact Or.inl h
 · exact Or.inr (not_lt.1 h)
theorem ltB_iff {k r: ByteArray}: ltB k r = true ↔ ltP r k := Iff.rfl
theorem ltB_no {k r: ByteArray}: ltB k r = false ↔ leP k r := Iff.rfl
theorem leB_iff {k r: ByteArray}: leB k r = true ↔ leP r k := by
 unfold leB leP
 rw [L5.le_not_lt]
 simp
theorem leB_no {k r: ByteArray}: leB k r = false ↔ ltP k r := by
 unfold leB ltP
 rw [L5.le_not_lt]
 simp
def e0: ByteArray := ⟨#[]⟩
theorem e0_size: e0.size = 0 := rfl
theorem le_e0 (x: ByteArray): leP e0 x := by
 unfold leP
 rw [show e0.toList = [] by rw [ByteArray.toList_eq]; rfl]
 cases x.toList <;> rfl
def inB (lo hi k: ByteArray): Prop := leP lo k /\ (hi.size = 0 \/ ltP k hi)
inductive Subs (P: Nat -> ByteArray -> ByteArray -> List ByteArray -> List Nat -> Prop) (hi: ByteArray): ByteArray -> List ByteArray -> List Int -> List ByteArray -> List Nat -> Prop
 | one {lo: ByteArray} {c: Nat} {es: List ByteArray} {ps: List Nat} (h: P c lo hi es ps): Subs P hi lo [] [(c: Int)] es ps
 | more {lo r: ByteArray} {c: Nat} {es1 es2 rs: List ByteArray} {cs: List Int} {ps1 ps2: List Nat} (h: P c lo r es1 ps1) (t: Subs P hi r rs cs es2 ps2): Subs P hi lo (r :: rs) ((c: Int) :: cs) (es1 ++ es2) (ps1 ++ ps2)
def Body (P: Nat -> ByteArray -> ByteArray -> List ByteArray -> List Nat -> Prop) (h: Nat) (n: L5.No) (lo hi: ByteArray) (es: List ByteArray) (ps: List Nat): Prop :=
 (∀ r ∈ n.recs,inB lo hi r) /\ ((h = 0 /\ n.leaf = true /\ es = n.recs /\ ps = []) \/ (h ≠ 0 /\ n.leaf = false /\ Subs P hi lo n.recs n.kids es ps))
def Sub (a: Abs): Nat -> Nat -> ByteArray -> ByteArray -> List ByteArray -> List Nat -> Prop
 | 0,_,_,_,_,_ => False
 | h + 1,at_,lo,hi,es,ps => ∃ n ps',Holds a at_ n /\ ps = at_ :: ps' /\ Body (Sub a h) h n lo hi es ps'
theorem Subs.mono {P P': Nat -> ByteArray -> ByteArray -> List ByteArray -> List Nat -> Prop} {hi lo: ByteArray} {rs es: List ByteArray} {cs: List Int} {ps: List Nat} (k: Subs P hi lo rs cs es ps) (h: ∀ c lo hi es q,(∀ p ∈ q,p ∈ ps) -> P c lo hi es q -> P' c lo hi es q): Subs P' hi lo rs cs es ps := by
 induction k with
 | one hP => exact .one (h _ _ _ _ _ (fun p hp => hp) hP)
 | more hP _ ih => exact .more (h _ _ _ _ _ (fun p hp => List.mem_append_left _ hp) hP) (ih fun c lo hi es q hq => h c lo hi es q fun p hp => List.mem_append_right _ (hq p hp))
theorem Sub.frame {a a': Abs}: ∀ {h at_: Nat} {lo hi: ByteArray} {es: List ByteArray} {ps: List Nat},Sub a h at_ lo hi es ps -> (∀ p ∈ ps,a'.at (p: Int) = a.at (p: Int)) -> Sub a' h at_ lo hi es ps := by
 intro h
 induction h with
 | zero => intro _ _ _ _ _ k; exact k.elim
 | succ h ih =>
  intro at_ lo hi es ps k hp
  obtain ⟨n,ps',hn,rfl,hb,hc⟩ := k
  refine ⟨n,ps',⟨(hp at_ (by simp)).trans hn.page,hn.shaped,hn.size,hn.small⟩,rfl,hb,hc.imp id fun ⟨h1,h2,h3⟩ => ⟨h1,h2,h3.mono fun c lo hi es q hq hP => ih hP fun p hpq => hp p (by simp [hq p hpq])⟩⟩
theorem Subs.each {P: Nat -> ByteArray -> ByteArray -> List ByteArray -> List Nat -> Prop} {Q: Nat -> Prop} (hP: ∀ c lo hi es q,P c lo hi es q -> ∀ p ∈ q,Q p) {hi lo: ByteArray} {rs es: List ByteArray} {cs: List Int} {ps: List Nat} (k: Subs P hi lo rs cs es ps): ∀ p ∈ ps,Q p := by
 induction k with
 | one h => exact hP _ _ _ _ _ h
 | more h _ ih =>
  intro p hp
  rcases List.mem_append.1 hp with hp | hp
  · exact hP _ _ _ _ _ h p hp
  · exact ih p hp
theorem Sub.pages {a: Abs}: ∀ {h at_: Nat} {lo hi: ByteArray} {es: List ByteArray} {ps: List Nat},Sub a h at_ lo hi es ps -> ∀ p ∈ ps,∃ c,a.at (p: Int) = some c := by
 intro h
 induction h with
 | zero => intro _ _ _ _ _ k; exact k.elim
 | succ h ih =>
  intro at_ lo hi es ps k p hp
  obtain ⟨n,ps',hn,rfl,hb,hc⟩ := k
  rcases List.mem_cons.1 hp with rfl | hp
  · exact ⟨_,hn.page⟩
  · rcases hc with ⟨_,_,_,rfl⟩ | ⟨_,_,hs⟩
    · cases hp
    · exact hs.each (fun c lo hi es q k => ih k) p hp
theorem inB.sub {lo hi lo' hi' k: ByteArray} (h: inB lo' hi' k) (h1: leP lo lo') (h2: hi.size = 0 \/ (hi'.size ≠ 0 /\ leP hi' hi)): inB lo hi k := by
 refine ⟨le_tr h1 h.1, ?_⟩
 rcases h2 with h2 | ⟨h2,h3⟩
 · exact Or.inl h2
 · exact Or.inr (lt_le (h.2.resolve_left h2) h3)
theorem Subs.bounds {P: Nat -> ByteArray -> ByteArray -> List ByteArray -> List Nat -> Prop} (hP: ∀ c lo hi es ps,P c lo hi es ps -> ∀ e ∈ es,inB lo hi e) {hi lo: ByteArray} {rs es: List ByteArray} {cs: List Int} {ps: List Nat} (k: Subs P hi lo rs cs es ps): (∀ r ∈ rs,r.size ≠ 0 /\ inB lo hi r) -> rs.Pairwise ltP -> ∀ e ∈ es,inB lo hi e := by
 induction k with
 | one h => intro _ _; exact hP _ _ _ _ _ h
 | @more lo r c es1 es2 rs cs ps1 ps2 h t ih =>
  intro hr hw e he
  obtain ⟨z,hb⟩ := hr r (by simp)
  rcases List.mem_append.1 he with he | he
  · refine (hP _ _ _ _ _ h e he).sub (le_rf _) ?_
    rcases hb.2 with h2 | h2
    · exact Or.inl h2
    · exact Or.inr ⟨z,le_of h2⟩
  · refine (ih (fun q hq => ⟨(hr q (by simp [hq])).1,le_of ((List.pairwise_cons.1 hw).1 q hq),(hr q (by simp [hq])).2.2⟩) (List.pairwise_cons.1 hw).2 e he).sub hb.1 ?_
    by_cases h0: hi.size = 0
    · exact Or.inl h0
    · exact Or.inr ⟨h0,le_rf _⟩
theorem shaped_recs {n: L5.No} (h: n.shaped = true): (∀ s ∈ n.recs,1 <= s.size /\ s.size <= 400) /\ n.recs.Pairwise ltP := by
 rw [L5.shaped_eq] at h
 exact (L5.rises_iff _).1 (by simpa using (Bool.and_eq_true_iff.1 h).1)
theorem Sub.bounds {a: Abs}: ∀ {h at_: Nat} {lo hi: ByteArray} {es: List ByteArray} {ps: List Nat},Sub a h at_ lo hi es ps -> ∀ e ∈ es,inB lo hi e := by
 intro h
 induction h with
 | zero => intro _ _ _ _ _ k; exact k.elim
 | succ h ih =>
  intro at_ lo hi es ps k
  obtain ⟨n,ps',hn,rfl,hb,hc⟩ := k
  rcases hc with ⟨_,_,rfl,_⟩ | ⟨_,_,hs⟩
  · exact hb
  · obtain ⟨h1,h2⟩ := shaped_recs hn.shaped
    exact hs.bounds (fun c lo hi es ps k => ih k) (fun r hr => ⟨by have := (h1 r hr).1; omega,hb r hr⟩) h2
theorem Subs.rising {P: Nat -> ByteArray -> ByteArray -> List ByteArray -> List Nat -> Prop} (hP: ∀ c lo hi es ps,P c lo hi es ps -> (∀ e ∈ es,inB lo hi e /\ 1 <= e.size /\ e.size <= 400) /\ es.Pairwise ltP) {hi lo: ByteArray} {rs es: List ByteArray} {cs: List Int} {ps: List Nat} (k: Subs P hi lo rs cs es ps): (∀ r ∈ rs,r.size ≠ 0 /\ inB lo hi r) -> rs.Pairwise ltP -> (∀ e ∈ es,1 <= e.size /\ e.size <= 400) /\ es.Pairwise ltP := by
 induction k with
 | one h => intro _ _; exact ⟨fun e he => ((hP _ _ _ _ _ h).1 e he).2,(hP _ _ _ _ _ h).2⟩
 | @more lo r c es1 es2 rs cs ps1 ps2 h t ih =>
  intro hr hw
  obtain ⟨z,hb⟩ := hr r (by simp)
  have hr': ∀ q ∈ rs,q.size ≠ 0 /\ inB r hi q := fun q hq => ⟨(hr q (by simp [hq])).1,le_of ((List.pairwise_cons.1 hw).1 q hq),(hr q (by simp [hq])).2.2⟩
  have i2 := ih hr' (List.pairwise_cons.1 hw).2
  have b2 := t.bounds (fun c lo hi es ps k e he => ((hP _ _ _ _ _ k).1 e he).1) hr' (List.pairwise_cons.1 hw).2
  obtain ⟨h1,h2⟩ := hP _ _ _ _ _ h
  refine ⟨fun e he => ?_, ?_⟩
  · rcases List.mem_append.1 he with he | he
    · exact (h1 e he).2
    · exact i2.1 e he
  · rw [List.pairwise_append]
    exact ⟨h2,i2.2,fun x hx y hy => lt_le ((h1 x hx).1.2.resolve_left z) (b2 y hy).1⟩
theorem Sub.rising {a: Abs}: ∀ {h at_: Nat} {lo hi: ByteArray} {es: List ByteArray} {ps: List Nat},Sub a h at_ lo hi es ps -> (∀ e ∈ es,inB lo hi e /\ 1 <= e.size /\ e.size <= 400) /\ es.Pairwise ltP := by
 intro h
 induction h with
 | zero => intro _ _ _ _ _ k; exact k.elim
 | succ h ih =>
  intro at_ lo hi es ps k
  have kb := k.bounds
  obtain ⟨n,ps',hn,rfl,hb,hc⟩ := k
  obtain ⟨h1,h2⟩ := shaped_recs hn.shaped
  rcases hc with ⟨_,_,rfl,_⟩ | ⟨_,_,hs⟩
  · exact ⟨fun e he => ⟨hb e he,h1 e he⟩,h2⟩
  · have := hs.rising (fun c lo hi es ps k => ih k) (fun r hr => ⟨by have := (h1 r hr).1; omega,hb r hr⟩) h2
    exact ⟨fun e he => ⟨kb e he,this.1 e he⟩,this.2⟩
inductive SubL (P: Nat -> ByteArray -> ByteArray -> List ByteArray -> List Nat -> Prop) (lo': ByteArray): ByteArray -> List ByteArray -> List Int -> List ByteArray -> List Nat -> Prop
 | nil: SubL P lo' lo' [] [] [] []
 | cons {lo r: ByteArray} {c: Nat} {es1 es2 rs: List ByteArray} {cs: List Int} {ps1 ps2: List Nat} (h: P c lo r es1 ps1) (t: SubL P lo' r rs cs es2 ps2): SubL P lo' lo (r :: rs) ((c: Int) :: cs) (es1 ++ es2) (ps1 ++ ps2)
def SubR (P: Nat -> ByteArray -> ByteArray -> List ByteArray -> List Nat -> Prop) (hi' hi: ByteArray) (rr: List ByteArray) (kr: List Int) (es: List ByteArray) (ps: List Nat): Prop :=
 (rr = [] /\ kr = [] /\ es = [] /\ ps = [] /\ hi' = hi) \/ ∃ rs,rr = hi' :: rs /\ Subs P hi hi' rs kr es ps
theorem SubL.mono {P P': Nat -> ByteArray -> ByteArray -> List ByteArray -> List Nat -> Prop} {lo' lo: ByteArray} {rs es: List ByteArray} {cs: List Int} {ps: List Nat} (k: SubL P lo' lo rs cs es ps) (h: ∀ c lo hi es q,(∀ p ∈ q,p ∈ ps) -> P c lo hi es q -> P' c lo hi es q): SubL P' lo' lo rs cs es ps := by
 induction k with
 | nil => exact .nil
 | cons hP _ ih => exact .cons (h _ _ _ _ _ (fun p hp => List.mem_append_left _ hp) hP) (ih fun c lo hi es q hq => h c lo hi es q fun p hp => List.mem_append_right _ (hq p hp))
theorem SubR.mono {P P': Nat -> ByteArray -> ByteArray -> List ByteArray -> List Nat -> Prop} {hi' hi: ByteArray} {rs es: List ByteArray} {cs: List Int} {ps: List Nat} (k: SubR P hi' hi rs cs es ps) (h: ∀ c lo hi es q,(∀ p ∈ q,p ∈ ps) -> P c lo hi es q -> P' c lo hi es q): SubR P' hi' hi rs cs es ps :=
 k.imp id fun ⟨rs,e,t⟩ => ⟨rs,e,t.mono h⟩
theorem SubL.low {P: Nat -> ByteArray -> ByteArray -> List ByteArray -> List Nat -> Prop} {lo' lo: ByteArray} {rs es: List ByteArray} {cs: List Int} {ps: List Nat} (k: SubL P lo' lo rs cs es ps): lo' = lo /\ rs = [] \/ rs.getLast? = some lo' := by
 induction k with
 | nil => exact Or.inl ⟨rfl,rfl⟩
 | @cons lo r c es1 es2 rs cs ps1 ps2 _ t ih =>
  right
  rcases ih with ⟨rfl,rfl⟩ | ih
  · rfl
  · rw [List.getLast?_cons]; simp [ih]
theorem subs_tail {P: Nat -> ByteArray -> ByteArray -> List ByteArray -> List Nat -> Prop} {lo' lo hi: ByteArray} {rl rs es1 es2: List ByteArray} {kl ks: List Int} {ps1 ps2: List Nat} (k: SubL P lo' lo rl kl es1 ps1) (t: Subs P hi lo' rs ks es2 ps2): Subs P hi lo (rl ++ rs) (kl ++ ks) (es1 ++ es2) (ps1 ++ ps2) := by
 induction k with
 | nil => exact t
 | cons h _ ih => rw [List.append_assoc,List.append_assoc]; exact .more h ih
theorem subs_head {P: Nat -> ByteArray -> ByteArray -> List ByteArray -> List Nat -> Prop} {lo' hi' hi: ByteArray} {rr es es2: List ByteArray} {c: Nat} {kr: List Int} {ps ps2: List Nat} (h: P c lo' hi' es ps) (t: SubR P hi' hi rr kr es2 ps2): Subs P hi lo' rr ((c: Int) :: kr) (es ++ es2) (ps ++ ps2) := by
 rcases t with ⟨rfl,rfl,rfl,rfl,rfl⟩ | ⟨rs,rfl,t⟩
 · rw [List.append_nil,List.append_nil]; exact .one h
 · exact .more h t
theorem subs_find {P: Nat -> ByteArray -> ByteArray -> List ByteArray -> List Nat -> Prop} (hP: ∀ c lo hi es ps,P c lo hi es ps -> ∀ e ∈ es,inB lo hi e) {hi lo k: ByteArray} {rs es: List ByteArray} {cs: List Int} {ps: List Nat} (h: Subs P hi lo rs cs es ps): (∀ r ∈ rs,r.size ≠ 0 /\ inB lo hi r) -> rs.Pairwise ltP -> inB lo hi k ->
 ∃ (c: Nat) (lo' hi': ByteArray) (rl rr: List ByteArray) (kl kr: List Int) (es1 es' es2: List ByteArray) (ps1 ps' ps2: List Nat),rs = rl ++ rr /\ cs = kl ++ (c: Int) :: kr /\ rl.length = rs.countP (leB k) /\ kl.length = rs.countP (leB k) /\ SubL P lo' lo rl kl es1 ps1 /\ P c lo' hi' es' ps' /\ SubR P hi' hi rr kr es2 ps2 /\ es = es1 ++ es' ++ es2 /\ ps = ps1 ++ ps' ++ ps2 /\ inB lo' hi' k /\ (∀ e ∈ es1,ltP e k) /\ (∀ e ∈ es2,ltP k e) := by
 induction h with
 | @one lo c es ps h =>
  intro _ _ hk
  exact ⟨c,lo,hi,[],[],[],[],[],es,[],[],ps,[],rfl,rfl,rfl,rfl, .nil,h,Or.inl ⟨rfl,rfl,rfl,rfl,rfl⟩,by simp,by simp,hk,by simp,by simp⟩
 | @more lo r c es1 es2 rs cs ps1 ps2 h t ih =>
  intro hr hw hk
  have hr': ∀ q ∈ rs,q.size ≠ 0 /\ inB r hi q := fun q hq => ⟨(hr q (by simp [hq])).1,le_of ((List.pairwise_cons.1 hw).1 q hq),(hr q (by simp [hq])).2.2⟩
  obtain ⟨z,hb⟩ := hr r (by simp)
  rcases lt_or k r with hkr | hkr
  · have hz: (r :: rs).countP (leB k) = 0 := by
     rw [List.countP_eq_zero]
     intro q hq
     rw [show leB k q = false from leB_no.2 (by
      rcases List.mem_cons.1 hq with rfl | hq
      · exact hkr
      · exact lt_tr hkr ((List.pairwise_cons.1 hw).1 q hq))]
     decide
    refine ⟨c,lo,r,[],r :: rs,[],cs,[],es1,es2,[],ps1,ps2,rfl,rfl,hz.symm,hz.symm, .nil,h,Or.inr ⟨rs,rfl,t⟩,by simp,by simp,⟨hk.1,Or.inr hkr⟩,by simp,fun e he => ?_⟩
    exact lt_le hkr (t.bounds hP hr' (List.pairwise_cons.1 hw).2 e he).1
  · obtain ⟨c',lo',hi',rl,rr,kl,kr,f1,f',f2,p1,p',p2,e1,e2,e3,e4,e5,e6,e7,e8,e9,e10,e11,e12⟩ := ih hr' (List.pairwise_cons.1 hw).2 ⟨hkr,hk.2⟩
    have hc: (r :: rs).countP (leB k) = rs.countP (leB k) + 1 := by
     rw [List.countP_cons,if_pos (leB_iff.2 hkr)]
    refine ⟨c',lo',hi',r :: rl,rr,(c: Int) :: kl,kr,es1 ++ f1,f',f2,ps1 ++ p1,p',p2,by rw [e1]; rfl,by rw [e2]; rfl,by rw [hc]; simp [e3],by rw [hc]; simp [e4], .cons h e5,e6,e7,by rw [e8]; simp,by rw [e9]; simp,e10,fun e he => ?_,e12⟩
    rcases List.mem_append.1 he with he | he
    · exact lt_le ((hP _ _ _ _ _ h e he).2.resolve_left z) hkr
    · exact e11 e he
inductive Ctx (a: Abs) (H R: Nat): List Pl -> Nat -> Nat -> ByteArray -> ByteArray -> List ByteArray -> List ByteArray -> List Nat -> Prop
 | root: Ctx a H R [] H R e0 e0 [] [] []
 | up {u: Pl} {us: List Pl} {h at_: Nat} {lo hi lo' hi': ByteArray} {rl rr esl esr esL esR: List ByteArray} {kl kr: List Int} {psl psr psO: List Nat} (hn: Holds a u.at_ u.n) (hl: u.n.leaf = false) (hb: ∀ r ∈ u.n.recs,inB lo hi r) (er: u.n.recs = rl ++ rr) (ek: u.n.kids = kl ++ (at_: Int) :: kr) (e1: rl.length = u.kid) (e2: kl.length = u.kid) (hh: h ≠ 0) (hL: SubL (Sub a h) lo' lo rl kl esl psl) (hR: SubR (Sub a h) hi' hi rr kr esr psr) (t: Ctx a H R us (h + 1) u.at_ lo hi esL esR psO): Ctx a H R (u :: us) h at_ lo' hi' (esL ++ esl) (esr ++ esR) (u.at_ :: (psl ++ psr ++ psO))
theorem Ctx.frame {a a': Abs} {H R: Nat} {us: List Pl} {h at_: Nat} {lo hi: ByteArray} {esL esR: List ByteArray} {psO: List Nat} (k: Ctx a H R us h at_ lo hi esL esR psO): (∀ p ∈ psO,a'.at (p: Int) = a.at (p: Int)) -> Ctx a' H R us h at_ lo hi esL esR psO := by
 induction k with
 | root => intro _; exact .root
 | up hn hl hb er ek e1 e2 hh hL hR _ ih =>
  intro hp
  exact .up ⟨(hp _ (by simp)).trans hn.page,hn.shaped,hn.size,hn.small⟩ hl hb er ek e1 e2 hh (hL.mono fun c lo hi es q hq k => k.frame fun p hpq => hp p (by simp [hq p hpq])) (hR.mono fun c lo hi es q hq k => k.frame fun p hpq => hp p (by simp [hq p hpq])) (ih fun p hpp => hp p (by simp [hpp]))
theorem SubL.pages {a: Abs} {h: Nat} {lo' lo: ByteArray} {rs es: List ByteArray} {cs: List Int} {ps: List Nat} (k: SubL (Sub a h) lo' lo rs cs es ps): ∀ p ∈ ps,∃ c,a.at (p: Int) = some c := by
 induction k with
 | nil => intro p hp; cases hp
 | cons hP _ ih =>
  intro p hp
  rcases List.mem_append.1 hp with hp | hp
  · exact hP.pages p hp
  · exact ih p hp
theorem Subs.pages {a: Abs} {h: Nat} {hi lo: ByteArray} {rs es: List ByteArray} {cs: List Int} {ps: List Nat} (k: Subs (Sub a h) hi lo rs cs es ps): ∀ p ∈ ps,∃ c,a.at (p: Int) = some c := by
 induction k with
 | one hP => exact fun p hp => hP.pages p hp
 | more hP _ ih =>
  intro p hp
  rcases List.mem_append.1 hp with hp | hp
  · exact hP.pages p hp
  · exact ih p hp
theorem Ctx.pages {a: Abs} {H R: Nat} {us: List Pl} {h at_: Nat} {lo hi: ByteArray} {esL esR: List ByteArray} {psO: List Nat} (k: Ctx a H R us h at_ lo hi esL esR psO): ∀ p ∈ psO,∃ c,a.at (p: Int) = some c := by
 induction k with
 | root => intro p hp; cases hp
 | up hn _ _ _ _ _ _ _ hL hR _ ih =>
  intro p hp
  rcases List.mem_cons.1 hp with rfl | hp
  · exact ⟨_,hn.page⟩
  · rcases List.mem_append.1 hp with hp | hp
    · rcases List.mem_append.1 hp with hp | hp
      · exact hL.pages p hp
      · rcases hR with ⟨_,_,_,rfl,_⟩ | ⟨_,_,t⟩
        · cases hp
        · exact t.pages p hp
    · exact ih p hp
theorem Sub.find {a: Abs} {H R: Nat} {k: ByteArray}: ∀ {h at_: Nat} {lo hi: ByteArray} {es esL esR: List ByteArray} {ps psO: List Nat} {ups: List Pl},Sub a h at_ lo hi es ps -> Ctx a H R ups h at_ lo hi esL esR psO -> inB lo hi k -> (∀ e ∈ esL,ltP e k) -> (∀ e ∈ esR,ltP k e) ->
 ∃ (mid: List Pl) (y: Pl) (lo' hi': ByteArray) (fL fR: List ByteArray) (qO: List Nat),Path a k h at_ (mid ++ [y]) /\ Ctx a H R (mid.reverse ++ ups) 1 y.at_ lo' hi' fL fR qO /\ Holds a y.at_ y.n /\ y.n.leaf = true /\ (∀ r ∈ y.n.recs,inB lo' hi' r) /\ inB lo' hi' k /\ esL ++ es ++ esR = fL ++ y.n.recs ++ fR /\ (ps ++ psO).Perm (y.at_ :: qO) /\ (∀ e ∈ fL,ltP e k) /\ (∀ e ∈ fR,ltP k e) := by
 intro h
 induction h with
 | zero => intro _ _ _ _ _ _ _ _ _ k; exact k.elim
 | succ h ih =>
  intro at_ lo hi es esL esR ps psO ups k hC hk hL hR
  obtain ⟨n,ps',hn,rfl,hb,hc⟩ := k
  rcases hc with ⟨rfl,hl,rfl,rfl⟩ | ⟨h0,hl,hs⟩
  · exact ⟨[],⟨at_,n,0⟩,lo,hi,esL,esR,psO, .leaf hn hl,hC,hn,hl,hb,hk,rfl,by simp,hL,hR⟩
  · obtain ⟨r1,r2⟩ := shaped_recs hn.shaped
    obtain ⟨c,lo',hi',rl,rr,kl,kr,es1,es',es2,ps1,ps2,ps3,q1,q2,q3,q4,q5,q6,q7,q8,q9,q10,q11,q12⟩ := subs_find (fun c lo hi es ps k => Sub.bounds k) hs (fun r hr => ⟨by have := (r1 r hr).1; omega,hb r hr⟩) r2 hk
    have hC2: Ctx a H R (⟨at_,n,n.recs.countP (leB k)⟩ :: ups) h c lo' hi' (esL ++ es1) (es2 ++ esR) (at_ :: (ps1 ++ ps3 ++ psO)) := .up (u := ⟨at_,n,n.recs.countP (leB k)⟩) hn hl hb q1 q2 q3 q4 h0 q5 q7 hC
    obtain ⟨mid,y,lo2,hi2,fL,fR,qO,p1,p2,p3,p4,p5,p6,p7,p8,p9,p10⟩ := ih q6 hC2 q10 (fun e he => by
     rcases List.mem_append.1 he with he | he
     · exact hL e he
     · exact q11 e he) (fun e he => by
     rcases List.mem_append.1 he with he | he
     · exact q12 e he
     · exact hR e he)
    refine ⟨⟨at_,n,n.recs.countP (leB k)⟩ :: mid,y,lo2,hi2,fL,fR,qO, .inner hn hl ?_ p1, ?_,p3,p4,p5,p6, ?_, ?_,p9,p10⟩
    · rw [q2,List.getElem?_append_right (by omega),q4]
      simp
    · rw [List.reverse_cons,List.append_assoc]; exact p2
    · rw [<- p7,q8]; simp
    · refine List.Perm.trans ?_ p8
      subst q9
      rw [List.perm_iff_count]
      intro z
      simp only [List.count_append,List.count_cons]
      omega
end Go.Proofs.YtdnkbdjhccckhaaGreat
