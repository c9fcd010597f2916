import Derived.Test.YtdnkbdjhccckhaaGreatMAH
set_option maxRecDepth 100000
set_option maxHeartbeats 4000000
namespace Go.Proofs.YtdnkbdjhccckhaaGreat.L5
open Go.RowKit
def innL (n: No) (k: Nat): No := ⟨false,n.recs.take k,n.kids.take (k + 1)⟩
def innR (n: No) (k: Nat): No := ⟨false,n.recs.drop (k + 1),n.kids.drop (k + 1)⟩
theorem hid {p: Prop} (h: p): Hid p := h
structure Mid (w: World) (n: No) (a: Option Addr) (c: Nat) (a': Option Addr) (c': Nat) (p: Nat) (r k: Value) (l: List ByteArray) (ks: List Int) (W: World): Prop where
 sw: SW w n a c a' c' W
 o1: W.ownsRow w.heap.size 9 1 r l.length (svs l)
 o2: W.ownsRow w.heap.size 3 1 k ks.length (ivs ks)
 blk: W.heap[p]? = some (.cells #[.bool false,r,k] 69 (0,0))
 far: w.heap.size + 2 < p
theorem Mid.on {w: World} {n: No} {a: Option Addr} {c: Nat} {a': Option Addr} {c': Nat} {p: Nat} {r k: Value} {l: List ByteArray} {ks: List Int} {W W': World} (h: Mid w n a c a' c' p r k l ks W) (hb: Below W.heap.size W W'): Mid w n a c a' c' p r k l ks W' :=
 ⟨h.sw.on hb,owns_below h.o1 hb,owns_below h.o2 hb,(hb.block _ (Array.getElem?_eq_some_iff.1 h.blk).1).trans h.blk,h.far⟩
theorem mid_alloc {w: World} {n: No} {a: Option Addr} {c: Nat} {a': Option Addr} {c': Nat} {r k: Value} {l: List ByteArray} {ks: List Int} {W: World} (h: SW w n a c a' c' W) {m1 m2: Nat} (o1: W.ownsRow w.heap.size 9 1 r m1 (svs l)) (o2: W.ownsRow w.heap.size 3 1 k m2 (ivs ks)) (e1: l.length = m1) (e2: ks.length = m2): Mid w n a c a' c' W.heap.size r k l ks (W.alloc (.cells #[.bool false,r,k] 69)) := by
 subst e1 e2
 exact ⟨h.on (below_alloc _ _),owns_below o1 (below_alloc _ _),owns_below o2 (below_alloc _ _),heap_alloc_last _ _,(Array.getElem?_eq_some_iff.1 h.z4).1⟩
theorem SW.puts {w: World} {n: No} {a: Option Addr} {c: Nat} {a': Option Addr} {c': Nat} {W: World} (h: SW w n a c a' c' W) {p: Nat} (hp: w.heap.size + 2 < p) (x y z: Value): SW w n a c a' c' (put3 W p x y z) := by
 have e: ∀ k,k ≠ p -> (put3 W p x y z).heap[k]? = W.heap[k]? := fun k hk => put3_other hk x y z
 have hs: (put3 W p x y z).heap.size = W.heap.size := by unfold put3; simp [World.setCell]
 refine ⟨⟨put3_below h.bx.below (by omega) _ _ _, ?_, ?_, ?_,by rw [hs]; exact h.bx.lt⟩, ?_, ?_⟩
 · rw [World.cell?_of_block (w := W) (a := ⟨w.heap.size,0,none⟩) (e w.heap.size (by omega))]; exact h.bx.c0
 · rw [World.cell?_of_block (w := W) (a := ⟨w.heap.size,1,none⟩) (e w.heap.size (by omega))]; exact h.bx.c1
 · rw [World.cell?_of_block (w := W) (a := ⟨w.heap.size,2,none⟩) (e w.heap.size (by omega))]; exact h.bx.c2
 · rw [e _ (by omega)]; exact h.z2
 · rw [e _ (by omega)]; exact h.z4
theorem mid_put {w: World} {n: No} {a: Option Addr} {c: Nat} {a': Option Addr} {c': Nat} {r k: Value} {l: List ByteArray} {ks: List Int} {W: World} {p: Nat} (h: SW w n a c a' c' W) {m1 m2: Nat} (o1: W.ownsRow w.heap.size 9 1 r m1 (svs l)) (o2: W.ownsRow w.heap.size 3 1 k m2 (ivs ks)) (e1: l.length = m1) (e2: ks.length = m2) (hp: W.heap[p]? = some zNode) (hf: w.heap.size + 2 < p): Mid w n a c a' c' p r k l ks (put3 W p (.bool false) r k) := by
 subst e1 e2
 exact ⟨h.puts hf _ _ _,owns_put3 o1 (by decide) hp _ _ _,owns_put3 o2 (by decide) hp _ _ _,put3_block hp _ _ _,hf⟩
structure Fin2 (w: World) (n: No) (a: Option Addr) (c: Nat) (a': Option Addr) (c': Nat) (p q: Nat) (r1 k1 r2 k2: Value) (x y: No) (W: World): Prop where
 sw: SW w n a c a' c' W
 hv: Halves w x y r1 k1 r2 k2 W
 b1: W.heap[p]? = some (.cells #[.bool false,r1,k1] 69 (0,0))
 b2: W.heap[q]? = some (.cells #[.bool false,r2,k2] 69 (0,0))
 f1: w.heap.size + 2 < p
 f2: w.heap.size + 2 < q
theorem fin_of {w: World} {n: No} {a: Option Addr} {c: Nat} {a': Option Addr} {c': Nat} {p q: Nat} {r1 k1 r2 k2: Value} {l1 l2: List ByteArray} {s1 s2: List Int} {W4 W: World} (h4: Mid w n a c a' c' p r1 k1 l1 s1 W4) (h: Mid w n a c a' c' p r1 k1 l1 s1 W) (h': Mid w n a c a' c' q r2 k2 l2 s2 W) {B1 B2: Nat} (hB1: W4.heap.size <= B1) (hB2: W4.heap.size <= B2) (o1: W.ownsRow B1 9 1 r2 l2.length (svs l2)) (o2: W.ownsRow B2 3 1 k2 s2.length (ivs s2)): Fin2 w n a c a' c' p q r1 k1 r2 k2 ⟨false,l1,s1⟩ ⟨false,l2,s2⟩ W :=
 ⟨h.sw,⟨h.o1,h.o2,h'.o1,h'.o2,fun g hg hg2 => by have := (h4.o1.lt g hg).2; have := (o1.lt g hg2).1; omega,fun g hg hg2 => by have := (h4.o2.lt g hg).2; have := (o2.lt g hg2).1; omega,h.sw.bx.below⟩,h.blk,h'.blk,h.far,h'.far⟩
theorem fin_alloc {w: World} {n: No} {a: Option Addr} {c: Nat} {a': Option Addr} {c': Nat} {p: Nat} {r1 k1 r2 k2: Value} {l1 l2: List ByteArray} {s1 s2: List Int} {W4 W: World} (h4: Mid w n a c a' c' p r1 k1 l1 s1 W4) (h: Mid w n a c a' c' p r1 k1 l1 s1 W) {m1 m2 m3 m4: Nat} (o1: W.ownsRow W4.heap.size 9 1 r2 m3 (svs l2)) (o2: W.ownsRow W4.heap.size 3 1 k2 m4 (ivs s2)) (_e1: l1.length = m1) (_e2: s1.length = m2) (e3: l2.length = m3) (e4: s2.length = m4) :
 Fin2 w n a c a' c' p W.heap.size r1 k1 r2 k2 ⟨false,l1,s1⟩ ⟨false,l2,s2⟩ (W.alloc (.cells #[.bool false,r2,k2] 69)) := by
 have hw: w.heap.size <= W4.heap.size := Nat.le_of_lt h4.sw.bx.lt
 have m := mid_alloc h.sw (owns_base o1 hw) (owns_base o2 hw) e3 e4
 subst e3 e4
 exact fin_of h4 (h.on (below_alloc _ _)) m (Nat.le_refl _) (Nat.le_refl _) (owns_below o1 (below_alloc _ _)) (owns_below o2 (below_alloc _ _))
theorem fin_put {w: World} {n: No} {a: Option Addr} {c: Nat} {a': Option Addr} {c': Nat} {p q: Nat} {r1 k1 r2 k2: Value} {l1 l2: List ByteArray} {s1 s2: List Int} {W4 W: World} (h4: Mid w n a c a' c' p r1 k1 l1 s1 W4) (h: Mid w n a c a' c' p r1 k1 l1 s1 W) {m1 m2 m3 m4: Nat} (o1: W.ownsRow W4.heap.size 9 1 r2 m3 (svs l2)) (o2: W.ownsRow W4.heap.size 3 1 k2 m4 (ivs s2)) (_e1: l1.length = m1) (_e2: s1.length = m2) (e3: l2.length = m3) (e4: s2.length = m4) (hq: W.heap[q]? = some zNode) (hf: w.heap.size + 2 < q) (hq4: W4.heap.size <= q) :
 Fin2 w n a c a' c' p q r1 k1 r2 k2 ⟨false,l1,s1⟩ ⟨false,l2,s2⟩ (put3 W q (.bool false) r2 k2) := by
 have hw: w.heap.size <= W4.heap.size := Nat.le_of_lt h4.sw.bx.lt
 have m := mid_put h.sw (owns_base o1 hw) (owns_base o2 hw) e3 e4 hq hf
 have hpq: p ≠ q := fun e => by have := (Array.getElem?_eq_some_iff.1 h4.blk).1; omega
 have m1: Mid w n a c a' c' p r1 k1 l1 s1 (put3 W q (.bool false) r2 k2) := ⟨m.sw,owns_put3 h.o1 (by decide) hq _ _ _,owns_put3 h.o2 (by decide) hq _ _ _,(put3_other hpq _ _ _).trans h.blk,h.far⟩
 subst e3 e4
 exact fin_of h4 m1 m (Nat.le_refl _) (Nat.le_refl _) (owns_put3 o1 (by decide) hq _ _ _) (owns_put3 o2 (by decide) hq _ _ _)
theorem fin_names {w: World} {n: No} {a: Option Addr} {c: Nat} {a': Option Addr} {c': Nat} {p q: Nat} {r1 k1 r2 k2: Value} {x y: No} {W: World} (_: Fin2 w n a c a' c' p q r1 k1 r2 k2 x y W): ∃ P Q,P = p /\ Q = q := ⟨p,q,rfl,rfl⟩
theorem splitInner_walk {n: No} {a: Option Addr} {c: Nat} {a': Option Addr} {c': Nat} {w: World} (hr: NR w n a c a' c') (hs: n.small) (hlf: n.leaf = false) (h3: 3 <= n.recs.length) (hkl: n.kids.length = n.recs.length + 1) (k: Nat) (hk: k = cutN 8 1 n.recs) (s: ByteArray) (hsk: n.recs[k]? = some s) :
 Calls Tryz.prog 104 #[nodeV n a c a' c'] w fun e w' => ∃ r1 k1 r2 k2,e = .returned (.tuple #[.agg #[.bool false,r1,k1], .string s, .agg #[.bool false,r2,k2]]) /\ Halves w (innL n k) (innR n k) r1 k1 r2 k2 w' := by
 have h1 := hs.recs
 have h2 := hs.kids
 obtain ⟨kl,kr⟩ := cutN_le 8 1 n.recs (by omega)
 rw [<- hk] at kl kr
 have HKC: Hid (k = cutN 8 1 n.recs) := hk
 clear hk
 obtain ⟨b,o,rfl,hb,hc⟩ := hr.recs.2.2 k (.string s) (by simp [svs,hsk])
 obtain ⟨b',o',rfl,hb',hxx⟩ := hr.kids.int k (by omega)
 clear hxx
 have hcap: n.recs.length <= c := by have := hr.recs.1; rwa [svs_length] at this
 have hcm := hr.recs.2.1
 have hcap': n.kids.length <= c' := by have := hr.kids.1; rwa [ivs_length] at this
 have hcm' := hr.kids.2.1
 unfold maxLen at hcm hcm'
 have HN: Hid (SW w n (some ⟨b,o,none⟩) c (some ⟨b',o',none⟩) c' (((w.alloc (.cells #[.bool n.leaf, .slice (some ⟨b,o,none⟩) n.recs.length c, .slice (some ⟨b',o',none⟩) n.kids.length c'] 69)).alloc (.cells #[.bool false, .slice none 0 0, .slice none 0 0] 69)).alloc (.cells #[.bool false, .slice none 0 0, .slice none 0 0] 69))) := SW.new _ _ _ _ _ _
 have HR: Hid (NR w n (some ⟨b,o,none⟩) c (some ⟨b',o',none⟩) c') := hr
 have HC1: Hid (∀ w': World,Below w.heap.size w w' -> Calls Tryz.prog 126 #[.slice (some ⟨b,o,none⟩) k c] w' fun e w'' => ∃ v,e = .returned v /\ w''.ownsRow w'.heap.size 9 1 v k (svs (n.recs.take k)) /\ Below w'.heap.size w' w'') := fun w' hb => clone_str (l := n.recs.take k) (by have := hr.recs.take k; unfold svs at this ⊢; rw [<- List.map_take] at this; exact this.below hb) (by simp; omega) (by omega)
 have HC2: Hid (∀ w': World,Below w.heap.size w w' -> Calls Tryz.prog 57 #[.slice (some ⟨b',o',none⟩) (k + 1) c'] w' fun e w'' => ∃ v,e = .returned v /\ w''.ownsRow w'.heap.size 3 1 v (k + 1) (ivs (n.kids.take (k + 1))) /\ Below w'.heap.size w' w'') := fun w' hb => clone_int (l := n.kids.take (k + 1)) (by have := hr.kids.take (k + 1); unfold ivs at this ⊢; rw [<- List.map_take] at this; exact this.below hb) (by simp; omega) (by omega)
 have HC3: Hid (∀ w': World,Below w.heap.size w w' -> Calls Tryz.prog 126 #[.slice (some ⟨b,o + (k + 1),none⟩) (n.recs.length - (k + 1)) (c - (k + 1))] w' fun e w'' => ∃ v,e = .returned v /\ w''.ownsRow w'.heap.size 9 1 v (n.recs.length - (k + 1)) (svs (n.recs.drop (k + 1))) /\ Below w'.heap.size w' w'') := fun w' hb => clone_str (l := n.recs.drop (k + 1)) (by have := hr.recs.drop (k + 1); unfold svs at this ⊢; rw [<- List.map_drop] at this; exact this.below hb) (by simp) (by omega)
 have HC4: Hid (∀ w': World,Below w.heap.size w w' -> Calls Tryz.prog 57 #[.slice (some ⟨b',o' + (k + 1),none⟩) (n.kids.length - (k + 1)) (c' - (k + 1))] w' fun e w'' => ∃ v,e = .returned v /\ w''.ownsRow w'.heap.size 3 1 v (n.kids.length - (k + 1)) (ivs (n.kids.drop (k + 1))) /\ Below w'.heap.size w' w'') := fun w' hb => clone_int (l := n.kids.drop (k + 1)) (by have := hr.kids.drop (k + 1); unfold ivs at this ⊢; rw [<- List.map_drop] at this; exact this.below hb) (by simp) (by omega)
 have HKL: Hid (n.kids.length = n.recs.length + 1) := hkl
 have k1: k + 1 <= n.kids.length := by omega
 have k1': (k: Int) + 1 <= (n.kids.length: Int) := by omega
 have k2': (k: Int) <= (c: Int) := by omega
 have k3': (k: Int) + 1 <= (c': Int) := by omega
 have h3': (3: Int) <= (n.recs.length: Int) := by omega
 clear hr hkl
 go_enter Tryz.func104,Tryz.ntmps104
 unfold nodeV
 rw [hlf] at HN ⊢
 go_wp2_with fail
 generalize ((w.alloc (.cells #[.bool false, .slice (some ⟨b,o,none⟩) n.recs.length c, .slice (some ⟨b',o',none⟩) n.kids.length c'] 69)).alloc (.cells #[.bool false, .slice none 0 0, .slice none 0 0] 69)).alloc (.cells #[.bool false, .slice none 0 0, .slice none 0 0] 69) = W0 at *
 refine (middle_walk (HR.out.recs.below HN.out.bx.below) 8 1 (by decide) (by decide) h1 (by omega) hs.each).mono ?_
 rintro e w1 ⟨rfl,B1⟩
 rw [<- HKC.out]
 have HN1: Hid (SW w n (some ⟨b,o,none⟩) c (some ⟨b',o',none⟩) c' w1) := HN.out.on B1
 clear HN B1
 have c1 := HN1.out.bx.c1
 have c2 := HN1.out.bx.c2
 have xl := HN1.out.bx.lt
 have hB0: Below w.heap.size w w1 := HN1.out.bx.below
 have hal: ∀ (W: World) (ob: Obj) (o: Nat),w.heap.size < W.heap.size -> (W.alloc ob).cell? ⟨w.heap.size,o,none⟩ = W.cell? ⟨w.heap.size,o,none⟩ := fun W ob o h => (below_alloc W ob).cell h
 have hst: ∀ (W: World) (p o: Nat) (u: Value) (o': Nat),w.heap.size < p -> (W.setCell ⟨p,o,none⟩ u).cell? ⟨w.heap.size,o',none⟩ = W.cell? ⟨w.heap.size,o',none⟩ := fun W p o u o' h => set_far (by omega) W o u o'
 have i1: IntKind.i64.wrap ((k: Int) + 1) = (k: Int) + 1 := by rw [IntKind.wrap_i64]; omega
 have i2: ((k: Int) + 1).toNat = k + 1 := by omega
 have i3: (0: Int) <= (k: Int) + 1 := by omega
 go_wp2_with fail
 go_region_held (fun w' => w'.cell? ⟨w.heap.size,1,none⟩ = some (.slice (some ⟨b,o,none⟩) n.recs.length c) /\ w'.cell? ⟨w.heap.size,2,none⟩ = some (.slice (some ⟨b',o',none⟩) n.kids.length c')) (simp [*]) (first
  | (go_at_call 126
     refine (HC1.out _ (by first | exact hB0.drew | exact hB0.drew.alloc (Nat.le_of_lt xl) _)).mono ?_
     rintro e w2 ⟨v1,rfl,O1,B2⟩
     have HS2: Hid (SW w n (some ⟨b,o,none⟩) c (some ⟨b',o',none⟩) c' w2) := (by first | exact (HN1.out.on (below_drew _)).on B2 | exact ((HN1.out.on (below_drew _)).on (below_alloc _ _)).on B2)
     have hB2: Below w.heap.size w w2 := HS2.out.bx.below
     have d1 := HS2.out.bx.c1
     have d2 := HS2.out.bx.c2
     have dl := HS2.out.bx.lt
     obtain ⟨x1,q1,rfl,_,_,_⟩ := owns_rd O1
     have HO1: Hid (w2.ownsRow w.heap.size 9 1 (.slice x1 k q1) k (svs (n.recs.take k))) := (by first | exact owns_base O1 (Nat.le_of_lt xl) | exact owns_base O1 (hB0.drew.alloc (Nat.le_of_lt xl) _).size)
     first | (have N2: Hid (w2.heap[w1.heap.size]? = some zNode) := (B2.block _ (by simp)).trans (heap_alloc_last w1.drew _)) | skip
     clear O1)
  | (go_at_call 57
     refine (HC2.out _ (by first | exact hB2 | exact hB2.alloc (Nat.le_of_lt dl) _)).mono ?_
     rintro e w3 ⟨v2,rfl,O2,B3⟩
     have HS3: Hid (SW w n (some ⟨b,o,none⟩) c (some ⟨b',o',none⟩) c' w3) := (by first | exact HS2.out.on B3 | exact (HS2.out.on (below_alloc _ _)).on B3)
     have f1 := HS3.out.bx.c1
     have f2 := HS3.out.bx.c2
     have fl := HS3.out.bx.lt
     obtain ⟨x2,q2,rfl,_,_,_⟩ := owns_rd O2
     have HO2: Hid (w3.ownsRow w.heap.size 3 1 (.slice x2 (k + 1) q2) (k + 1) (ivs (n.kids.take (k + 1)))) := (by first | exact owns_base O2 (Nat.le_of_lt dl) | exact owns_base O2 (hB2.alloc (Nat.le_of_lt dl) _).size)
     have HO3: Hid (w3.ownsRow w.heap.size 9 1 (.slice x1 k q1) k (svs (n.recs.take k))) := (by first | exact owns_below HO1.out B3 | exact owns_below (owns_below HO1.out (below_alloc _ _)) B3)
     first
      | (have N3: w3.heap[w1.heap.size]? = some zNode := (B3.block _ (Array.getElem?_eq_some_iff.1 N2.out).1).trans N2.out
         obtain ⟨m0,m1,m2⟩ := node_cells N3
         have mf: ∀ i,w3.frozen? ⟨w1.heap.size,i,none⟩ = false := (fun i => frozen_of_row _ _ _ _ _ N3)
         have HN3: Hid (w3.heap[w1.heap.size]? = some zNode) := N3
         clear N3)
      | (have N3: w3.heap[w2.heap.size]? = some zNode := (B3.block _ (by simp)).trans (heap_alloc_last w2 _)
         obtain ⟨m0,m1,m2⟩ := node_cells N3
         have mf: ∀ i,w3.frozen? ⟨w2.heap.size,i,none⟩ = false := (fun i => frozen_of_row _ _ _ _ _ N3)
         have HN3: Hid (w3.heap[w2.heap.size]? = some zNode) := N3
         clear N3)
      | skip
     clear O2))
 all_goals
  have l1: Hid ((n.recs.take k).length = k) := (by show (n.recs.take k).length = k; simp; omega)
  have l2: Hid ((n.kids.take (k + 1)).length = k + 1) := (by show (n.kids.take (k + 1)).length = k + 1; simp; omega)
  have z1: w.heap.size + 2 < w1.heap.size := (Array.getElem?_eq_some_iff.1 HN1.out.z4).1
  have z2: w.heap.size + 2 < w2.heap.size := (Array.getElem?_eq_some_iff.1 HS2.out.z4).1
  first
   | refine to_letter (mid_alloc HS3.out HO3.out HO2.out l1.out l2.out) ?_
   | refine to_letter (mid_put HS3.out HO3.out HO2.out l1.out l2.out HN3.out (by assumption)) ?_
  clear c1 c2 xl hB0 hB2 d1 d2 dl f1 f2 fl B2 B3 HS2 HS3 HO1 HO2 HO3 HN1 z1 z2
  intro W4 M4
  have HM4: Hid _ := M4
  have c1 := M4.sw.bx.c1
  have c2 := M4.sw.bx.c2
  have xl := M4.sw.bx.lt
  have hB0: Below w.heap.size w W4 := M4.sw.bx.below
  clear M4
  have j1: ¬ c = k + 1 := (by omega)
  have j2: ¬ c' = k + 1 := (by have := HKL.out; omega)
  have j3: (k: Int) + 1 <= (n.recs.length: Int) := (by omega)
  have j4: (n.recs.length: Int) <= (c: Int) := (by omega)
  have j5: (n.kids.length: Int) <= (c': Int) := (by omega)
  go_wp2_with fail
  go_region_held (fun w' => w'.cell? ⟨w.heap.size,1,none⟩ = some (.slice (some ⟨b,o,none⟩) n.recs.length c) /\ w'.cell? ⟨w.heap.size,2,none⟩ = some (.slice (some ⟨b',o',none⟩) n.kids.length c')) (simp [*]) (first
   | (go_at_call 126
      refine (HC3.out _ (by first | exact hB0.drew | exact hB0.drew.alloc (Nat.le_of_lt xl) _)).mono ?_
      rintro e w5 ⟨v1,rfl,O1,B2⟩
      first | (have HS2 := hid ((HM4.out.on (below_drew _)).on B2)) | (have HS2 := hid (((HM4.out.on (below_drew _)).on (below_alloc _ _)).on B2))
      have hW5: W4.heap.size <= w5.heap.size := (by first | exact B2.size | exact Nat.le_trans (below_alloc W4.drew _).size B2.size)
      have hB2: Below w.heap.size w w5 := HS2.out.sw.bx.below
      have d1 := HS2.out.sw.bx.c1
      have d2 := HS2.out.sw.bx.c2
      have dl := HS2.out.sw.bx.lt
      obtain ⟨y1,t1,rfl,_,_,_⟩ := owns_rd O1
      have HO1: Hid (w5.ownsRow W4.heap.size 9 1 (.slice y1 (n.recs.length - (k + 1)) t1) (n.recs.length - (k + 1)) (svs (n.recs.drop (k + 1)))) := (by first | exact O1 | exact owns_base O1 (below_alloc W4.drew _).size)
      first | (have N2: Hid (w5.heap[W4.heap.size]? = some zNode) := (B2.block _ (by simp)).trans (heap_alloc_last W4.drew _)) | skip
      clear O1)
   | (go_at_call 57
      refine (HC4.out _ (by first | exact hB2 | exact hB2.alloc (Nat.le_of_lt dl) _)).mono ?_
      rintro e w6 ⟨v2,rfl,O2,B3⟩
      first | (have HS3 := hid (HS2.out.on B3)) | (have HS3 := hid ((HS2.out.on (below_alloc _ _)).on B3))
      have f1 := HS3.out.sw.bx.c1
      have f2 := HS3.out.sw.bx.c2
      have fl := HS3.out.sw.bx.lt
      obtain ⟨y2,t2,rfl,_,_,_⟩ := owns_rd O2
      have HO2: Hid (w6.ownsRow W4.heap.size 3 1 (.slice y2 (n.kids.length - (k + 1)) t2) (n.kids.length - (k + 1)) (ivs (n.kids.drop (k + 1)))) := (by first | exact owns_base O2 hW5 | exact owns_base O2 (Nat.le_trans hW5 (below_alloc w5 _).size))
      have HO3: Hid (w6.ownsRow W4.heap.size 9 1 (.slice y1 (n.recs.length - (k + 1)) t1) (n.recs.length - (k + 1)) (svs (n.recs.drop (k + 1)))) := (by first | exact owns_below HO1.out B3 | exact owns_below (owns_below HO1.out (below_alloc _ _)) B3)
      first
       | (have N3: w6.heap[W4.heap.size]? = some zNode := (B3.block _ (Array.getElem?_eq_some_iff.1 N2.out).1).trans N2.out
          obtain ⟨m0,m1,m2⟩ := node_cells N3
          have mf: ∀ i,w6.frozen? ⟨W4.heap.size,i,none⟩ = false := (fun i => frozen_of_row _ _ _ _ _ N3)
          have HN3: Hid (w6.heap[W4.heap.size]? = some zNode) := N3
          clear N3)
       | (have N3: w6.heap[w5.heap.size]? = some zNode := (B3.block _ (by simp)).trans (heap_alloc_last w5 _)
          obtain ⟨m0,m1,m2⟩ := node_cells N3
          have mf: ∀ i,w6.frozen? ⟨w5.heap.size,i,none⟩ = false := (fun i => frozen_of_row _ _ _ _ _ N3)
          have HN3: Hid (w6.heap[w5.heap.size]? = some zNode) := N3
          clear N3)
       | skip
      clear O2))
  all_goals
   have l3: Hid ((n.recs.drop (k + 1)).length = n.recs.length - (k + 1)) := List.length_drop
   have l4: Hid ((n.kids.drop (k + 1)).length = n.kids.length - (k + 1)) := List.length_drop
   have z1: w.heap.size + 2 < W4.heap.size := (Array.getElem?_eq_some_iff.1 HM4.out.sw.z4).1
   have z2: w.heap.size + 2 < w5.heap.size := (Array.getElem?_eq_some_iff.1 HS2.out.sw.z4).1
   first
    | refine to_letter (fin_alloc HM4.out HS3.out HO3.out HO2.out l1.out l2.out l3.out l4.out) ?_
    | refine to_letter (fin_put HM4.out HS3.out HO3.out HO2.out l1.out l2.out l3.out l4.out HN3.out (by assumption) (by first | exact Nat.le_refl _ | exact hW5)) ?_
   clear c1 c2 xl hB0 hB2 d1 d2 dl f1 f2 fl B2 B3 HS2 HS3 HO1 HO2 HO3 z1 z2 hal hst HM4
   intro W7 M7
   obtain ⟨p6,p7,hp6,hp7⟩ := fin_names M7
   rw [<- hp6, <- hp7] at M7 ⊢
   clear hp6 hp7 HC1 HC2 HC3 HC4 i1 i2 i3 j1 j2 j3 j4 j5 l1 l2 l3 l4 HR hW5
   have HM7: Hid (Fin2 w n (some ⟨b,o,none⟩) c (some ⟨b',o',none⟩) c' p6 p7 (.slice x1 k q1) (.slice x2 (k + 1) q2) (.slice y1 (n.recs.length - (k + 1)) t1) (.slice y2 (n.kids.length - (k + 1)) t2) (innL n k) (innR n k) W7) := M7
   have hz6 := M7.f1
   have hz7 := M7.f2
   obtain ⟨l60,l61,l62⟩ := node_cells M7.b1
   obtain ⟨l70,l71,l72⟩ := node_cells M7.b2
   obtain ⟨l20,l21,l22⟩ := node_cells M7.sw.z2
   obtain ⟨l40,l41,l42⟩ := node_cells M7.sw.z4
   have f2: ∀ i,W7.frozen? ⟨w.heap.size + 1,i,none⟩ = false := fun i => frozen_of_row _ _ _ _ _ M7.sw.z2
   have f4: ∀ i,W7.frozen? ⟨w.heap.size + 2,i,none⟩ = false := fun i => frozen_of_row _ _ _ _ _ M7.sw.z4
   have c1 := M7.sw.bx.c1
   have cb: W7.cell? ⟨b,o + k,none⟩ = some (.string s) := by rw [M7.sw.bx.below.cell hb]; exact hc
   have hkl: (k: Int) < (n.recs.length: Int) := by omega
   have e1 := set_far (p := w.heap.size + 1) (q := p6) (by omega)
   have e2 := set_far (p := w.heap.size + 1) (q := p7) (by omega)
   have e3 := set_far (p := w.heap.size + 1) (q := w.heap.size) (by omega)
   have e4 := set_far (p := w.heap.size + 1) (q := b) (by omega)
   have e5 := set_far (p := w.heap.size + 2) (q := p6) (by omega)
   have e6 := set_far (p := w.heap.size + 2) (q := p7) (by omega)
   have e7 := set_far (p := w.heap.size + 2) (q := w.heap.size) (by omega)
   have e8 := set_far (p := w.heap.size + 2) (q := b) (by omega)
   have e9 := set_far (p := w.heap.size + 1) (q := w.heap.size + 2) (by omega)
   clear M7
   go_wp2_with fail
   go_region_held (fun w' => w'.cell? ⟨p6,0,none⟩ = some (.bool false) /\ w'.cell? ⟨p6,1,none⟩ = some (.slice x1 k q1) /\ w'.cell? ⟨p6,2,none⟩ = some (.slice x2 (k + 1) q2) /\ w'.cell? ⟨p7,0,none⟩ = some (.bool false) /\ w'.cell? ⟨p7,1,none⟩ = some (.slice y1 (n.recs.length - (k + 1)) t1) /\ w'.cell? ⟨p7,2,none⟩ = some (.slice y2 (n.kids.length - (k + 1)) t2) /\ w'.cell? ⟨w.heap.size,1,none⟩ = some (.slice (some ⟨b,o,none⟩) n.recs.length c) /\ w'.cell? ⟨b,o + k,none⟩ = some (.string s)) (simp [*]) (fail)
   refine to_letter (split_end (HM7.out.sw.z2) (HM7.out.sw.z4) HM7.out.hv (.bool false) (.bool false)) ?_
   clear l60 l61 l62 l70 l71 l72 l20 l21 l22 l40 l41 l42 f2 f4 c1 cb e1 e2 e3 e4 e5 e6 e7 e8 e9 HM7
   intro Wf hF
   obtain ⟨g20,g21,g22,g40,g41,g42,hF⟩ := hF
   have HF: Hid _ := hF
   clear hF
   go_wp2
   refine bodyPost_ret (v := .tuple #[.agg #[.bool false, .slice x1 k q1, .slice x2 (k + 1) q2], .string s, .agg #[.bool false, .slice y1 (n.recs.length - (k + 1)) t1, .slice y2 (n.kids.length - (k + 1)) t2]]) ?_ rfl ?_
   · simp [results,Tryz.results104,go_sem,g20,g21,g22,g40,g41,g42]
   · exact ⟨_,_,_,_,rfl,HF.out⟩
end Go.Proofs.YtdnkbdjhccckhaaGreat.L5
