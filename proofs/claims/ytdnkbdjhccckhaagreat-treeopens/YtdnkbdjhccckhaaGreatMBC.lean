import Derived.Test.YtdnkbdjhccckhaaGreatMBB
set_option maxRecDepth 100000
set_option maxHeartbeats 4000000
namespace Go.Proofs.YtdnkbdjhccckhaaGreat.L5
open Go.RowKit
theorem qcs_two {w: World} {a1 a2: Option Addr} {c1 c2: Nat} {l1 l2: List Value} (r1: Rd w a1 c1 l1) (r2: Rd w a2 c2 l2) (h1: ∀ u ∈ l1,u.oneCell' = true) (h2: ∀ u ∈ l2,u.oneCell' = true) (t: TypeId): Qcs (w.alloc (.cells #[.slice a1 l1.length c1, .slice a2 l2.length c2] t)) w.heap.size [⟨a1,c1,l1⟩,⟨a2,c2,l2⟩] := by
 have hb := below_alloc w (.cells #[.slice a1 l1.length c1, .slice a2 l2.length c2] t)
 refine ⟨fun j hj => ?_,by simp,fun j hj => ?_,fun j hj => ?_⟩
 all_goals
  have: j = 0 \/ j = 1 := by simp at hj; omega
 · rcases this with rfl | rfl <;> simp [go_sem]
 · rcases this with rfl | rfl
   · exact r1.below hb
   · exact r2.below hb
 · rcases this with rfl | rfl
   · exact h1
   · exact h2
theorem join_leaf_wide {a1 a2: Option Addr} {c1 c2: Nat} {l1 l2: List ByteArray} {ka kb: Option Addr} {kn kc km kd: Nat} {lf2: Bool} {w: World} (r1: Rd w a1 c1 (svs l1)) (r2: Rd w a2 c2 (svs l2)) (h1: l1.length <= 1000) (h2: l2.length <= 1000) (s: ByteArray) :
 Calls Tryz.prog 132 #[.agg #[.bool true, .slice a1 l1.length c1, .slice ka kn kc], .string s, .agg #[.bool lf2, .slice a2 l2.length c2, .slice kb km kd]] w fun e w' => ∃ r k,e = .returned (.agg #[.bool true,r,k]) /\ JR w (l1 ++ l2) [] r k w' := by
 have HJ: Hid (JW w #[.bool true, .slice a1 l1.length c1, .slice ka kn kc] #[.bool lf2, .slice a2 l2.length c2, .slice kb km kd] (((w.alloc (.cells #[.bool true, .slice a1 l1.length c1, .slice ka kn kc] 69)).alloc (.cells #[.bool lf2, .slice a2 l2.length c2, .slice kb km kd] 69)).alloc (.cells #[.bool false, .slice none 0 0, .slice none 0 0] 69))) := JW.new _ _ _
 have HC := hid (fun (W: World) (hb: Below w.heap.size w W) => concatS_wide (cap := 2) (qcs_two (r1.below hb) (r2.below hb) (one_svs l1) (one_svs l2) 33) (by simp) (by simp [totQ,svs]; omega))
 clear r1 r2
 have e1: totQ [⟨a1,c1,svs l1⟩,⟨a2,c2,svs l2⟩] = (l1 ++ l2).length := by simp [totQ,svs]
 have e2: flatQ [⟨a1,c1,svs l1⟩,⟨a2,c2,svs l2⟩] = svs (l1 ++ l2) := by simp [flatQ,svs]
 rw [e1,e2] at HC
 simp only [svs_length,List.length_cons,List.length_nil,Nat.zero_add,Nat.reduceAdd] at HC
 clear e1 e2
 go_enter Tryz.func132,Tryz.ntmps132
 go_wp2_with fail
 have HC0 := HC.out _ HJ.out.below
 have hz: (((w.alloc (.cells #[.bool true, .slice a1 l1.length c1, .slice ka kn kc] 69)).alloc (.cells #[.bool lf2, .slice a2 l2.length c2, .slice kb km kd] 69)).alloc (.cells #[.bool false, .slice none 0 0, .slice none 0 0] 69)).heap.size = w.heap.size + 1 + 1 + 1 := by simp
 rw [hz] at HC0
 clear HC
 generalize ((w.alloc (.cells #[.bool true, .slice a1 l1.length c1, .slice ka kn kc] 69)).alloc (.cells #[.bool lf2, .slice a2 l2.length c2, .slice kb km kd] 69)).alloc (.cells #[.bool false, .slice none 0 0, .slice none 0 0] 69) = W0 at *
 have HJ1 := hid (HJ.out.on (below_alloc W0 (.cells #[.slice a1 l1.length c1, .slice a2 l2.length c2] 33)))
 generalize W0.alloc (.cells #[.slice a1 l1.length c1, .slice a2 l2.length c2] 33) = W1 at *
 refine HC0.mono ?_
 rintro e w1 ⟨r,rfl,O1,B1⟩
 obtain ⟨x1,q1,rfl,_,_,_⟩ := owns_rd O1
 have HJ2 := hid (HJ1.out.on B1)
 have HR: Hid (JR w (l1 ++ l2) [] (.slice x1 (l1 ++ l2).length q1) (.slice none 0 0) w1) := ⟨owns_base O1 HJ1.out.below.size,World.ownsRow_nil _ _ _ _,HJ2.out.below⟩
 obtain ⟨m0,m1,m2⟩ := node_cells HJ2.out.z
 have mf: ∀ i,w1.frozen? ⟨w.heap.size + 2,i,none⟩ = false := fun i => frozen_of_row _ _ _ _ _ HJ2.out.z
 clear O1 B1 HC0 HJ HJ1 hz
 generalize (l1 ++ l2).length = q at *
 go_wp2_with fail
 refine to_letter (join_end HJ2.out.z HR.out (.bool true)) ?_
 clear m0 m1 m2 mf HJ2 HR
 intro Wf hF
 obtain ⟨q0,q1',q2',hF⟩ := hF
 refine bodyPost_ret (v := .agg #[.bool true, .slice x1 q q1, .slice none 0 0]) ?_ rfl ?_
 · simp [results,Tryz.results132,go_sem,q0,q1',q2']
 · exact ⟨_,_,rfl,hF⟩
theorem qcs_three {W: World} {p: Nat} {a1 a2 a3: Option Addr} {c1 c2 c3: Nat} {l1 l2 l3: List Value} {t: TypeId} (hp: W.heap[p]? = some (.cells #[.slice a1 l1.length c1, .slice a2 l2.length c2, .slice a3 l3.length c3] t (0,0))) (r1: Rd W a1 c1 l1) (r2: Rd W a2 c2 l2) (r3: Rd W a3 c3 l3) (h1: ∀ u ∈ l1,u.oneCell' = true) (h2: ∀ u ∈ l2,u.oneCell' = true) (h3: ∀ u ∈ l3,u.oneCell' = true): Qcs W p [⟨a1,c1,l1⟩,⟨a2,c2,l2⟩,⟨a3,c3,l3⟩] := by
 refine ⟨fun j hj => ?_,(Array.getElem?_eq_some_iff.1 hp).1,fun j hj => ?_,fun j hj => ?_⟩
 all_goals
  have: j = 0 \/ j = 1 \/ j = 2 := by simp at hj; omega
 · rw [cell_of_row _ _ _ _ _ _ hp]
   rcases this with rfl | rfl | rfl <;> rfl
 · rcases this with rfl | rfl | rfl
   · exact r1
   · exact r2
   · exact r3
 · rcases this with rfl | rfl | rfl
   · exact h1
   · exact h2
   · exact h3
theorem qcs_pair {W: World} {p: Nat} {a1 a2: Option Addr} {c1 c2: Nat} {l1 l2: List Value} {t: TypeId} (hp: W.heap[p]? = some (.cells #[.slice a1 l1.length c1, .slice a2 l2.length c2] t (0,0))) (r1: Rd W a1 c1 l1) (r2: Rd W a2 c2 l2) (h1: ∀ u ∈ l1,u.oneCell' = true) (h2: ∀ u ∈ l2,u.oneCell' = true): Qcs W p [⟨a1,c1,l1⟩,⟨a2,c2,l2⟩] := by
 refine ⟨fun j hj => ?_,(Array.getElem?_eq_some_iff.1 hp).1,fun j hj => ?_,fun j hj => ?_⟩
 all_goals
  have: j = 0 \/ j = 1 := by simp at hj; omega
 · rw [cell_of_row _ _ _ _ _ _ hp]
   rcases this with rfl | rfl <;> rfl
 · rcases this with rfl | rfl
   · exact r1
   · exact r2
 · rcases this with rfl | rfl
   · exact h1
   · exact h2
theorem join_inner_wide {a1 a2: Option Addr} {c1 c2: Nat} {l1 l2: List ByteArray} {g1 g2: Option Addr} {f1 f2: Nat} {k1 k2: List Int} {lf2: Bool} {w: World} (r1: Rd w a1 c1 (svs l1)) (r2: Rd w a2 c2 (svs l2)) (r3: Rd w g1 f1 (ivs k1)) (r4: Rd w g2 f2 (ivs k2)) (h1: l1.length <= 1000) (h2: l2.length <= 1000) (h3: k1.length <= 1001) (h4: k2.length <= 1001) (s: ByteArray) :
 Calls Tryz.prog 132 #[.agg #[.bool false, .slice a1 l1.length c1, .slice g1 k1.length f1], .string s, .agg #[.bool lf2, .slice a2 l2.length c2, .slice g2 k2.length f2]] w fun e w' => ∃ r k,e = .returned (.agg #[.bool false,r,k]) /\ JR w (l1 ++ [s] ++ l2) (k1 ++ k2) r k w' := by
 have HJ: Hid (JW w #[.bool false, .slice a1 l1.length c1, .slice g1 k1.length f1] #[.bool lf2, .slice a2 l2.length c2, .slice g2 k2.length f2] (((w.alloc (.cells #[.bool false, .slice a1 l1.length c1, .slice g1 k1.length f1] 69)).alloc (.cells #[.bool lf2, .slice a2 l2.length c2, .slice g2 k2.length f2] 69)).alloc (.cells #[.bool false, .slice none 0 0, .slice none 0 0] 69))) := JW.new _ _ _
 have HS := hid (fun (W: World) (p q: Nat) (hb: Below w.heap.size w W) (ho: OneT W p s) (hq: W.heap[q]? = some (.cells #[.slice a1 (svs l1).length c1, .slice (some ⟨p,0,none⟩) (svs [s]).length 1, .slice a2 (svs l2).length c2] 33 (0,0))) => concatS_wide (cap := 3) (qcs_three hq (r1.below hb) ho.rd (r2.below hb) (one_svs l1) (one_svs [s]) (one_svs l2)) (by simp) (by simp [totQ,svs]; omega))
 have HI := hid (fun (W: World) (q: Nat) (hb: Below w.heap.size w W) (hq: W.heap[q]? = some (.cells #[.slice g1 (ivs k1).length f1, .slice g2 (ivs k2).length f2] 55 (0,0))) => concatI_wide (cap := 2) (qcs_pair hq (r3.below hb) (r4.below hb) (one_ivs k1) (one_ivs k2)) (by simp) (by simp [totQ,ivs]; omega))
 clear r1 r2 r3 r4
 obtain ⟨q,hq⟩: ∃ q,Hid ((l1 ++ [s] ++ l2).length = q) := ⟨_,rfl⟩
 obtain ⟨qk,hqk⟩: ∃ qk,Hid ((k1 ++ k2).length = qk) := ⟨_,rfl⟩
 have e1: ∀ p,totQ [⟨a1,c1,svs l1⟩,⟨some ⟨p,0,none⟩,1,svs [s]⟩,⟨a2,c2,svs l2⟩] = q := fun p => by rw [<- hq.out]; simp [totQ,svs]; omega
 have e2: ∀ p,flatQ [⟨a1,c1,svs l1⟩,⟨some ⟨p,0,none⟩,1,svs [s]⟩,⟨a2,c2,svs l2⟩] = svs (l1 ++ [s] ++ l2) := fun p => by simp [flatQ,svs]
 have e3: totQ [⟨g1,f1,ivs k1⟩,⟨g2,f2,ivs k2⟩] = qk := by rw [<- hqk.out]; simp [totQ,ivs]
 have e4: flatQ [⟨g1,f1,ivs k1⟩,⟨g2,f2,ivs k2⟩] = ivs (k1 ++ k2) := by simp [flatQ,ivs]
 simp only [e1,e2,svs_length,List.length_cons,List.length_nil,Nat.zero_add,Nat.reduceAdd] at HS
 simp only [e3,e4,ivs_length,List.length_cons,List.length_nil,Nat.zero_add,Nat.reduceAdd] at HI
 clear e1 e2 e3 e4
 go_enter Tryz.func132,Tryz.ntmps132
 obtain ⟨m10,m11,m12⟩ := node_cells HJ.out.b1
 obtain ⟨m20,m21,m22⟩ := node_cells HJ.out.b2
 have hzz := (Array.getElem?_eq_some_iff.1 HJ.out.z).1
 go_wp2_with fail
 generalize ((w.alloc (.cells #[.bool false, .slice a1 l1.length c1, .slice g1 k1.length f1] 69)).alloc (.cells #[.bool lf2, .slice a2 l2.length c2, .slice g2 k2.length f2] 69)).alloc (.cells #[.bool false, .slice none 0 0, .slice none 0 0] 69) = W0 at *
 have hal: ∀ (W: World) (ob: Obj) (o: Nat),w.heap.size < W.heap.size -> (W.alloc ob).cell? ⟨w.heap.size,o,none⟩ = W.cell? ⟨w.heap.size,o,none⟩ := fun W ob o h => (below_alloc W ob).cell h
 have hal1: ∀ (W: World) (ob: Obj) (o: Nat),w.heap.size + 1 < W.heap.size -> (W.alloc ob).cell? ⟨w.heap.size + 1,o,none⟩ = W.cell? ⟨w.heap.size + 1,o,none⟩ := fun W ob o h => (below_alloc W ob).cell h
 have v0: w.heap.size < W0.heap.size := by omega
 have v1: w.heap.size < W0.heap.size + 1 := by omega
 have v2: w.heap.size < W0.heap.size + 1 + 1 := by omega
 have u0: w.heap.size + 1 < W0.heap.size := by omega
 have u1: w.heap.size + 1 < W0.heap.size + 1 := by omega
 have u2: w.heap.size + 1 < W0.heap.size + 1 + 1 := by omega
 have KA := hid (blocks2 W0 (.cells #[.string s] 9) (.cells #[.slice a1 l1.length c1, .slice (some ⟨W0.heap.size,0,none⟩) 1 1, .slice a2 l2.length c2] 33))
 have JA := hid (HJ.out.on ((KA.out.2.2).drew))
 have CA := hid (HS.out ((W0.alloc (.cells #[.string s] 9)).alloc (.cells #[.slice a1 l1.length c1, .slice (some ⟨W0.heap.size,0,none⟩) 1 1, .slice a2 l2.length c2] 33)).drew (W0.heap.size) (W0.heap.size + 1) JA.out.below KA.out.1 KA.out.2.1)
 have KB := hid (blocks3 W0 (.cells #[.string s] 9) (.cells #[.slice a1 l1.length c1, .slice (some ⟨W0.heap.size,0,none⟩) 1 1, .slice a2 l2.length c2] 33) (.cells #[.slice g1 k1.length f1, .slice g2 k2.length f2] 55))
 have JB := hid (HJ.out.on ((KB.out.2.2.2).drew))
 have CB := hid (HS.out (((W0.alloc (.cells #[.string s] 9)).alloc (.cells #[.slice a1 l1.length c1, .slice (some ⟨W0.heap.size,0,none⟩) 1 1, .slice a2 l2.length c2] 33)).alloc (.cells #[.slice g1 k1.length f1, .slice g2 k2.length f2] 55)).drew (W0.heap.size) (W0.heap.size + 1) JB.out.below KB.out.1 KB.out.2.1)
 have KC := hid (blocks3 W0 (.cells #[.string s] 9) (.cells #[.slice g1 k1.length f1, .slice g2 k2.length f2] 55) (.cells #[.slice a1 l1.length c1, .slice (some ⟨W0.heap.size,0,none⟩) 1 1, .slice a2 l2.length c2] 33))
 have JC := hid (HJ.out.on ((KC.out.2.2.2).drew))
 have CC := hid (HS.out (((W0.alloc (.cells #[.string s] 9)).alloc (.cells #[.slice g1 k1.length f1, .slice g2 k2.length f2] 55)).alloc (.cells #[.slice a1 l1.length c1, .slice (some ⟨W0.heap.size,0,none⟩) 1 1, .slice a2 l2.length c2] 33)).drew (W0.heap.size) (W0.heap.size + 1 + 1) JC.out.below KC.out.1 KC.out.2.2.1)
 have KD := hid (blocks3 W0 (.cells #[.slice g1 k1.length f1, .slice g2 k2.length f2] 55) (.cells #[.string s] 9) (.cells #[.slice a1 l1.length c1, .slice (some ⟨W0.heap.size + 1,0,none⟩) 1 1, .slice a2 l2.length c2] 33))
 have JD := hid (HJ.out.on ((KD.out.2.2.2).drew))
 have CD := hid (HS.out (((W0.alloc (.cells #[.slice g1 k1.length f1, .slice g2 k2.length f2] 55)).alloc (.cells #[.string s] 9)).alloc (.cells #[.slice a1 l1.length c1, .slice (some ⟨W0.heap.size + 1,0,none⟩) 1 1, .slice a2 l2.length c2] 33)).drew (W0.heap.size + 1) (W0.heap.size + 1 + 1) JD.out.below KD.out.2.1 KD.out.2.2.1)
 clear hzz
 go_region_held (fun w' => w'.cell? ⟨w.heap.size,1,none⟩ = some (.slice a1 l1.length c1) /\ w'.cell? ⟨w.heap.size,2,none⟩ = some (.slice g1 k1.length f1) /\ w'.cell? ⟨w.heap.size + 1,1,none⟩ = some (.slice a2 l2.length c2) /\ w'.cell? ⟨w.heap.size + 1,2,none⟩ = some (.slice g2 k2.length f2)) (simp [*]) (first
  | (go_at_call 144
     with_reducible refine CA.out.mono ?_
     rintro e w1 ⟨r,rfl,O1,B1⟩
     obtain ⟨x1,q1,rfl,_,_,_⟩ := owns_rd O1
     have HJ1 := hid (JA.out.on B1)
     have HO1: Hid (w1.ownsRow w.heap.size 9 1 (.slice x1 q q1) q (svs (l1 ++ [s] ++ l2))) := owns_base O1 JA.out.below.size
     have JI := hid (HJ1.out.on (below_alloc w1 (.cells #[.slice g1 k1.length f1, .slice g2 k2.length f2] 55)))
     have CI := hid (HI.out (w1.alloc (.cells #[.slice g1 k1.length f1, .slice g2 k2.length f2] 55)) w1.heap.size JI.out.below (heap_alloc_last w1 _))
     obtain ⟨a10,a11,a12⟩ := node_cells HJ1.out.b1
     obtain ⟨a20,a21,a22⟩ := node_cells HJ1.out.b2
     have al := (Array.getElem?_eq_some_iff.1 HJ1.out.z).1
     have al0: w.heap.size < w1.heap.size := (by omega)
     have al1: w.heap.size + 1 < w1.heap.size := (by omega)
     clear O1 B1)
  | (go_at_call 144
     with_reducible refine CB.out.mono ?_
     rintro e w1 ⟨r,rfl,O1,B1⟩
     obtain ⟨x1,q1,rfl,_,_,_⟩ := owns_rd O1
     have HJ1 := hid (JB.out.on B1)
     have HO1: Hid (w1.ownsRow w.heap.size 9 1 (.slice x1 q q1) q (svs (l1 ++ [s] ++ l2))) := owns_base O1 JB.out.below.size
     have HP28: Hid (w1.heap[W0.heap.size + 1 + 1]? = some (.cells #[.slice g1 k1.length f1, .slice g2 k2.length f2] 55)) := (B1.block _ (Array.getElem?_eq_some_iff.1 KB.out.2.2.1).1).trans KB.out.2.2.1
     have CI := hid (HI.out w1 (W0.heap.size + 1 + 1) HJ1.out.below HP28.out)
     have JI := hid HJ1.out
     obtain ⟨a10,a11,a12⟩ := node_cells HJ1.out.b1
     obtain ⟨a20,a21,a22⟩ := node_cells HJ1.out.b2
     have al := (Array.getElem?_eq_some_iff.1 HJ1.out.z).1
     have al0: w.heap.size < w1.heap.size := (by omega)
     have al1: w.heap.size + 1 < w1.heap.size := (by omega)
     clear O1 B1)
  | (go_at_call 144
     with_reducible refine CC.out.mono ?_
     rintro e w1 ⟨r,rfl,O1,B1⟩
     obtain ⟨x1,q1,rfl,_,_,_⟩ := owns_rd O1
     have HJ1 := hid (JC.out.on B1)
     have HO1: Hid (w1.ownsRow w.heap.size 9 1 (.slice x1 q q1) q (svs (l1 ++ [s] ++ l2))) := owns_base O1 JC.out.below.size
     have HP28: Hid (w1.heap[W0.heap.size + 1]? = some (.cells #[.slice g1 k1.length f1, .slice g2 k2.length f2] 55)) := (B1.block _ (Array.getElem?_eq_some_iff.1 KC.out.2.1).1).trans KC.out.2.1
     have CI := hid (HI.out w1 (W0.heap.size + 1) HJ1.out.below HP28.out)
     have JI := hid HJ1.out
     obtain ⟨a10,a11,a12⟩ := node_cells HJ1.out.b1
     obtain ⟨a20,a21,a22⟩ := node_cells HJ1.out.b2
     have al := (Array.getElem?_eq_some_iff.1 HJ1.out.z).1
     have al0: w.heap.size < w1.heap.size := (by omega)
     have al1: w.heap.size + 1 < w1.heap.size := (by omega)
     clear O1 B1)
  | (go_at_call 144
     with_reducible refine CD.out.mono ?_
     rintro e w1 ⟨r,rfl,O1,B1⟩
     obtain ⟨x1,q1,rfl,_,_,_⟩ := owns_rd O1
     have HJ1 := hid (JD.out.on B1)
     have HO1: Hid (w1.ownsRow w.heap.size 9 1 (.slice x1 q q1) q (svs (l1 ++ [s] ++ l2))) := owns_base O1 JD.out.below.size
     have HP28: Hid (w1.heap[W0.heap.size]? = some (.cells #[.slice g1 k1.length f1, .slice g2 k2.length f2] 55)) := (B1.block _ (Array.getElem?_eq_some_iff.1 KD.out.1).1).trans KD.out.1
     have CI := hid (HI.out w1 (W0.heap.size) HJ1.out.below HP28.out)
     have JI := hid HJ1.out
     obtain ⟨a10,a11,a12⟩ := node_cells HJ1.out.b1
     obtain ⟨a20,a21,a22⟩ := node_cells HJ1.out.b2
     have al := (Array.getElem?_eq_some_iff.1 HJ1.out.z).1
     have al0: w.heap.size < w1.heap.size := (by omega)
     have al1: w.heap.size + 1 < w1.heap.size := (by omega)
     clear O1 B1)
  | (go_at_call 145
     with_reducible refine CI.out.mono ?_
     rintro e w2 ⟨r2,rfl,O2,B2⟩
     obtain ⟨x2,q2,rfl,_,_,_⟩ := owns_rd O2
     have HJ2 := hid (JI.out.on B2)
     have HJR: Hid (JR w (l1 ++ [s] ++ l2) (k1 ++ k2) (.slice x1 q q1) (.slice x2 qk q2) w2) := ⟨by rw [hq.out]; first | exact owns_below HO1.out B2 | exact owns_below (owns_below HO1.out (below_alloc _ _)) B2,by rw [hqk.out]; exact owns_base O2 JI.out.below.size,HJ2.out.below⟩
     obtain ⟨e10,e11,e12⟩ := node_cells HJ2.out.b1
     obtain ⟨e20,e21,e22⟩ := node_cells HJ2.out.b2
     obtain ⟨n0,n1,n2⟩ := node_cells HJ2.out.z
     have nf: ∀ i,w2.frozen? ⟨w.heap.size + 2,i,none⟩ = false := fun i => frozen_of_row _ _ _ _ _ HJ2.out.z
     have gg1 := set_far (p := w.heap.size + 2) (q := w.heap.size) (by omega)
     have gg2 := set_far (p := w.heap.size + 2) (q := w.heap.size + 1) (by omega)
     clear O2 B2))
 all_goals
  refine to_letter (join_end HJ2.out.z HJR.out (.bool false)) ?_
  clear n0 n1 n2 nf gg1 gg2 HJ2 HJR HJ1 HO1 e10 e11 e12 e20 e21 e22 a10 a11 a12 a20 a21 a22 m10 m11 m12 m20 m21 m22 hal hal1
  intro Wf hF
  obtain ⟨t0,t1,t2,hF⟩ := hF
  go_wp2
  refine bodyPost_ret (v := .agg #[.bool false, .slice x1 q q1, .slice x2 qk q2]) ?_ rfl ?_
  · simp [results,Tryz.results132,go_sem,t0,t1,t2]
  · exact ⟨_,_,rfl,hF⟩
end Go.Proofs.YtdnkbdjhccckhaaGreat.L5
