/-
  Join of inner nodes.
-/
import Derived.Test.YtgpahhlmpdnbpaaSpJ
namespace Go.Proofs.Ytgpahhlmpdnbpaa
open Go.RowKit

/-- A text in a row of its own. -/
def OneT (W : World) (p : Nat) (s : ByteArray) : Prop := W.heap[p]? = some (.cells #[.string s] 9 (0, 0))

theorem OneT.rd {W : World} {p : Nat} {s : ByteArray} (h : OneT W p s) : Rd W (some ⟨p, 0, none⟩) 1 (svs [s]) := by
  refine ⟨by simp [svs], by unfold maxLen; omega, fun j u hj => ⟨p, 0, rfl, (Array.getElem?_eq_some_iff.1 h).1, ?_⟩⟩
  have : j = 0 := by
    have := (List.getElem?_eq_some_iff.1 hj).1
    simpa [svs] using this
  subst this
  simp [svs] at hj
  subst hj
  rw [cell_of_row _ _ _ _ _ _ h]
  rfl

theorem pcs_three {W : World} {p : Nat} {b1 o1 c1 b2 o2 c2 b3 o3 c3 : Nat} {l1 l2 l3 : List Value} {t : TypeId} (hp : W.heap[p]? = some (.cells #[.slice (some ⟨b1, o1, none⟩) l1.length c1, .slice (some ⟨b2, o2, none⟩) l2.length c2, .slice (some ⟨b3, o3, none⟩) l3.length c3] t (0, 0))) (r1 : Rd W (some ⟨b1, o1, none⟩) c1 l1) (r2 : Rd W (some ⟨b2, o2, none⟩) c2 l2) (r3 : Rd W (some ⟨b3, o3, none⟩) c3 l3) (h1 : ∀ u ∈ l1, u.oneCell' = true) (h2 : ∀ u ∈ l2, u.oneCell' = true) (h3 : ∀ u ∈ l3, u.oneCell' = true) : Pcs W p [⟨b1, o1, c1, l1⟩, ⟨b2, o2, c2, l2⟩, ⟨b3, o3, c3, l3⟩] := by
  refine ⟨fun j hj => ?_, (Array.getElem?_eq_some_iff.1 hp).1, fun j hj => ?_, fun j hj => ?_⟩
  all_goals
    have : j = 0 ∨ j = 1 ∨ j = 2 := by simp at hj; omega
  · rw [cell_of_row _ _ _ _ _ _ hp]
    rcases this with rfl | rfl | rfl <;> rfl
  · rcases this with rfl | rfl | rfl
    · exact r1
    · exact r2
    · exact r3
  · rcases this with rfl | rfl | rfl
    · exact h1
    · exact h2
    · exact h3

theorem pcs_pair {W : World} {p : Nat} {b1 o1 c1 b2 o2 c2 : Nat} {l1 l2 : List Value} {t : TypeId} (hp : W.heap[p]? = some (.cells #[.slice (some ⟨b1, o1, none⟩) l1.length c1, .slice (some ⟨b2, o2, none⟩) l2.length c2] t (0, 0))) (r1 : Rd W (some ⟨b1, o1, none⟩) c1 l1) (r2 : Rd W (some ⟨b2, o2, none⟩) c2 l2) (h1 : ∀ u ∈ l1, u.oneCell' = true) (h2 : ∀ u ∈ l2, u.oneCell' = true) : Pcs W p [⟨b1, o1, c1, l1⟩, ⟨b2, o2, c2, l2⟩] := by
  refine ⟨fun j hj => ?_, (Array.getElem?_eq_some_iff.1 hp).1, fun j hj => ?_, fun j hj => ?_⟩
  all_goals
    have : j = 0 ∨ j = 1 := by simp at hj; omega
  · rw [cell_of_row _ _ _ _ _ _ hp]
    rcases this with rfl | rfl <;> rfl
  · rcases this with rfl | rfl
    · exact r1
    · exact r2
  · rcases this with rfl | rfl
    · exact h1
    · exact h2

theorem blocks2 (w : World) (x y : Obj) : ((w.alloc x).alloc y).heap[w.heap.size]? = some x ∧ ((w.alloc x).alloc y).heap[w.heap.size + 1]? = some y ∧ Below w.heap.size w ((w.alloc x).alloc y) := by
  have B := below_alloc (w.alloc x) y
  refine ⟨?_, ?_, below_on (below_alloc w x) B⟩
  · rw [B.block _ (by simp)]; exact heap_alloc_last _ _
  · have := heap_alloc_last (w.alloc x) y
    rw [show (w.alloc x).heap.size = w.heap.size + 1 by simp] at this
    exact this

theorem blocks3 (w : World) (x y z : Obj) : (((w.alloc x).alloc y).alloc z).heap[w.heap.size]? = some x ∧ (((w.alloc x).alloc y).alloc z).heap[w.heap.size + 1]? = some y ∧ (((w.alloc x).alloc y).alloc z).heap[w.heap.size + 1 + 1]? = some z ∧ Below w.heap.size w (((w.alloc x).alloc y).alloc z) := by
  have B := below_alloc ((w.alloc x).alloc y) z
  obtain ⟨h1, h2, h3⟩ := blocks2 w x y
  refine ⟨(B.block _ (Array.getElem?_eq_some_iff.1 h1).1).trans h1, (B.block _ (Array.getElem?_eq_some_iff.1 h2).1).trans h2, ?_, below_on h3 B⟩
  have := heap_alloc_last ((w.alloc x).alloc y) z
  rw [show ((w.alloc x).alloc y).heap.size = w.heap.size + 1 + 1 by simp] at this
  exact this

set_option maxRecDepth 100000 in
set_option maxHeartbeats 2000000 in
theorem join_inner {b1 o1 c1 b2 o2 c2 : Nat} {l1 l2 : List ByteArray} {d1 p1 f1 d2 p2 f2 : Nat} {k1 k2 : List Int} {lf2 : Bool} {w : World} (r1 : Rd w (some ⟨b1, o1, none⟩) c1 (svs l1)) (r2 : Rd w (some ⟨b2, o2, none⟩) c2 (svs l2)) (r3 : Rd w (some ⟨d1, p1, none⟩) f1 (ivs k1)) (r4 : Rd w (some ⟨d2, p2, none⟩) f2 (ivs k2)) (h1 : l1.length ≤ 1000) (h2 : l2.length ≤ 1000) (h3 : k1.length ≤ 1001) (h4 : k2.length ≤ 1001) (s : ByteArray) :
    Calls Try.prog 12 #[.agg #[.bool false, .slice (some ⟨b1, o1, none⟩) l1.length c1, .slice (some ⟨d1, p1, none⟩) k1.length f1], .string s, .agg #[.bool lf2, .slice (some ⟨b2, o2, none⟩) l2.length c2, .slice (some ⟨d2, p2, none⟩) k2.length f2]] w fun e w' => ∃ r k, e = .returned (.agg #[.bool false, r, k]) ∧ JR w (l1 ++ [s] ++ l2) (k1 ++ k2) r k w' := by
  have HJ : Hid (JW w #[.bool false, .slice (some ⟨b1, o1, none⟩) l1.length c1, .slice (some ⟨d1, p1, none⟩) k1.length f1] #[.bool lf2, .slice (some ⟨b2, o2, none⟩) l2.length c2, .slice (some ⟨d2, p2, none⟩) k2.length f2] (((w.alloc (.cells #[.bool false, .slice (some ⟨b1, o1, none⟩) l1.length c1, .slice (some ⟨d1, p1, none⟩) k1.length f1] 25)).alloc (.cells #[.bool lf2, .slice (some ⟨b2, o2, none⟩) l2.length c2, .slice (some ⟨d2, p2, none⟩) k2.length f2] 25)).alloc (.cells #[.bool false, .slice none 0 0, .slice none 0 0] 25))) := JW.new _ _ _
  have HS := hid (fun (W : World) (p q : Nat) (hb : Below w.heap.size w W) (ho : OneT W p s) (hq : W.heap[q]? = some (.cells #[.slice (some ⟨b1, o1, none⟩) (svs l1).length c1, .slice (some ⟨p, 0, none⟩) (svs [s]).length 1, .slice (some ⟨b2, o2, none⟩) (svs l2).length c2] 22 (0, 0))) => concatS_walk (cap := 3) (pcs_three hq (r1.below hb) ho.rd (r2.below hb) (one_svs l1) (one_svs [s]) (one_svs l2)) (by simp) (by simp [tot, svs]; omega))
  have HI := hid (fun (W : World) (q : Nat) (hb : Below w.heap.size w W) (hq : W.heap[q]? = some (.cells #[.slice (some ⟨d1, p1, none⟩) (ivs k1).length f1, .slice (some ⟨d2, p2, none⟩) (ivs k2).length f2] 23 (0, 0))) => concatI_walk (cap := 2) (pcs_pair hq (r3.below hb) (r4.below hb) (one_ivs k1) (one_ivs k2)) (by simp) (by simp [tot, ivs]; omega))
  clear r1 r2 r3 r4
  obtain ⟨q, hq⟩ : ∃ q, Hid ((l1 ++ [s] ++ l2).length = q) := ⟨_, rfl⟩
  obtain ⟨qk, hqk⟩ : ∃ qk, Hid ((k1 ++ k2).length = qk) := ⟨_, rfl⟩
  have e1 : ∀ p, tot [⟨b1, o1, c1, svs l1⟩, ⟨p, 0, 1, svs [s]⟩, ⟨b2, o2, c2, svs l2⟩] = q := fun p => by rw [← hq.out]; simp [tot, svs]; omega
  have e2 : ∀ p, flat [⟨b1, o1, c1, svs l1⟩, ⟨p, 0, 1, svs [s]⟩, ⟨b2, o2, c2, svs l2⟩] = svs (l1 ++ [s] ++ l2) := fun p => by simp [flat, svs]
  have e3 : tot [⟨d1, p1, f1, ivs k1⟩, ⟨d2, p2, f2, ivs k2⟩] = qk := by rw [← hqk.out]; simp [tot, ivs]
  have e4 : flat [⟨d1, p1, f1, ivs k1⟩, ⟨d2, p2, f2, ivs k2⟩] = ivs (k1 ++ k2) := by simp [flat, ivs]
  simp only [e1, e2, svs_length, List.length_cons, List.length_nil, Nat.zero_add, Nat.reduceAdd] at HS
  simp only [e3, e4, ivs_length, List.length_cons, List.length_nil, Nat.zero_add, Nat.reduceAdd] at HI
  clear e1 e2 e3 e4
  go_enter Try.func12, Try.ntmps12
  obtain ⟨m10, m11, m12⟩ := node_cells HJ.out.b1
  obtain ⟨m20, m21, m22⟩ := node_cells HJ.out.b2
  have hzz := (Array.getElem?_eq_some_iff.1 HJ.out.z).1
  go_wp2_with fail
  generalize ((w.alloc (.cells #[.bool false, .slice (some ⟨b1, o1, none⟩) l1.length c1, .slice (some ⟨d1, p1, none⟩) k1.length f1] 25)).alloc (.cells #[.bool lf2, .slice (some ⟨b2, o2, none⟩) l2.length c2, .slice (some ⟨d2, p2, none⟩) k2.length f2] 25)).alloc (.cells #[.bool false, .slice none 0 0, .slice none 0 0] 25) = W0 at *
  have hal : ∀ (W : World) (ob : Obj) (o : Nat), w.heap.size < W.heap.size → (W.alloc ob).cell? ⟨w.heap.size, o, none⟩ = W.cell? ⟨w.heap.size, o, none⟩ := fun W ob o h => (below_alloc W ob).cell h
  have hal1 : ∀ (W : World) (ob : Obj) (o : Nat), w.heap.size + 1 < W.heap.size → (W.alloc ob).cell? ⟨w.heap.size + 1, o, none⟩ = W.cell? ⟨w.heap.size + 1, o, none⟩ := fun W ob o h => (below_alloc W ob).cell h
  have v0 : w.heap.size < W0.heap.size := by omega
  have v1 : w.heap.size < W0.heap.size + 1 := by omega
  have v2 : w.heap.size < W0.heap.size + 1 + 1 := by omega
  have u0 : w.heap.size + 1 < W0.heap.size := by omega
  have u1 : w.heap.size + 1 < W0.heap.size + 1 := by omega
  have u2 : w.heap.size + 1 < W0.heap.size + 1 + 1 := by omega
  have KA := hid (blocks2 W0 (.cells #[.string s] 9) (.cells #[.slice (some ⟨b1, o1, none⟩) l1.length c1, .slice (some ⟨W0.heap.size, 0, none⟩) 1 1, .slice (some ⟨b2, o2, none⟩) l2.length c2] 22))
  have JA := hid (HJ.out.on ((KA.out.2.2).drew))
  have CA := hid (HS.out ((W0.alloc (.cells #[.string s] 9)).alloc (.cells #[.slice (some ⟨b1, o1, none⟩) l1.length c1, .slice (some ⟨W0.heap.size, 0, none⟩) 1 1, .slice (some ⟨b2, o2, none⟩) l2.length c2] 22)).drew (W0.heap.size) (W0.heap.size + 1) JA.out.below KA.out.1 KA.out.2.1)
  have KB := hid (blocks3 W0 (.cells #[.string s] 9) (.cells #[.slice (some ⟨b1, o1, none⟩) l1.length c1, .slice (some ⟨W0.heap.size, 0, none⟩) 1 1, .slice (some ⟨b2, o2, none⟩) l2.length c2] 22) (.cells #[.slice (some ⟨d1, p1, none⟩) k1.length f1, .slice (some ⟨d2, p2, none⟩) k2.length f2] 23))
  have JB := hid (HJ.out.on ((KB.out.2.2.2).drew))
  have CB := hid (HS.out (((W0.alloc (.cells #[.string s] 9)).alloc (.cells #[.slice (some ⟨b1, o1, none⟩) l1.length c1, .slice (some ⟨W0.heap.size, 0, none⟩) 1 1, .slice (some ⟨b2, o2, none⟩) l2.length c2] 22)).alloc (.cells #[.slice (some ⟨d1, p1, none⟩) k1.length f1, .slice (some ⟨d2, p2, none⟩) k2.length f2] 23)).drew (W0.heap.size) (W0.heap.size + 1) JB.out.below KB.out.1 KB.out.2.1)
  have KC := hid (blocks3 W0 (.cells #[.string s] 9) (.cells #[.slice (some ⟨d1, p1, none⟩) k1.length f1, .slice (some ⟨d2, p2, none⟩) k2.length f2] 23) (.cells #[.slice (some ⟨b1, o1, none⟩) l1.length c1, .slice (some ⟨W0.heap.size, 0, none⟩) 1 1, .slice (some ⟨b2, o2, none⟩) l2.length c2] 22))
  have JC := hid (HJ.out.on ((KC.out.2.2.2).drew))
  have CC := hid (HS.out (((W0.alloc (.cells #[.string s] 9)).alloc (.cells #[.slice (some ⟨d1, p1, none⟩) k1.length f1, .slice (some ⟨d2, p2, none⟩) k2.length f2] 23)).alloc (.cells #[.slice (some ⟨b1, o1, none⟩) l1.length c1, .slice (some ⟨W0.heap.size, 0, none⟩) 1 1, .slice (some ⟨b2, o2, none⟩) l2.length c2] 22)).drew (W0.heap.size) (W0.heap.size + 1 + 1) JC.out.below KC.out.1 KC.out.2.2.1)
  have KD := hid (blocks3 W0 (.cells #[.slice (some ⟨d1, p1, none⟩) k1.length f1, .slice (some ⟨d2, p2, none⟩) k2.length f2] 23) (.cells #[.string s] 9) (.cells #[.slice (some ⟨b1, o1, none⟩) l1.length c1, .slice (some ⟨W0.heap.size + 1, 0, none⟩) 1 1, .slice (some ⟨b2, o2, none⟩) l2.length c2] 22))
  have JD := hid (HJ.out.on ((KD.out.2.2.2).drew))
  have CD := hid (HS.out (((W0.alloc (.cells #[.slice (some ⟨d1, p1, none⟩) k1.length f1, .slice (some ⟨d2, p2, none⟩) k2.length f2] 23)).alloc (.cells #[.string s] 9)).alloc (.cells #[.slice (some ⟨b1, o1, none⟩) l1.length c1, .slice (some ⟨W0.heap.size + 1, 0, none⟩) 1 1, .slice (some ⟨b2, o2, none⟩) l2.length c2] 22)).drew (W0.heap.size + 1) (W0.heap.size + 1 + 1) JD.out.below KD.out.2.1 KD.out.2.2.1)
  clear hzz
  go_region_held (fun w' => w'.cell? ⟨w.heap.size, 1, none⟩ = some (.slice (some ⟨b1, o1, none⟩) l1.length c1) ∧ w'.cell? ⟨w.heap.size, 2, none⟩ = some (.slice (some ⟨d1, p1, none⟩) k1.length f1) ∧ w'.cell? ⟨w.heap.size + 1, 1, none⟩ = some (.slice (some ⟨b2, o2, none⟩) l2.length c2) ∧ w'.cell? ⟨w.heap.size + 1, 2, none⟩ = some (.slice (some ⟨d2, p2, none⟩) k2.length f2)) (simp [*]) (first
    | (go_at_call 18
       with_reducible refine CA.out.mono ?_
       rintro e w1 ⟨r, rfl, O1, B1⟩
       obtain ⟨x1, q1, rfl, _, _, _⟩ := owns_rd O1
       have HJ1 := hid (JA.out.on B1)
       have HO1 : Hid (w1.ownsRow w.heap.size 9 1 (.slice x1 q q1) q (svs (l1 ++ [s] ++ l2))) := owns_base O1 JA.out.below.size
       have JI := hid (HJ1.out.on (below_alloc w1 (.cells #[.slice (some ⟨d1, p1, none⟩) k1.length f1, .slice (some ⟨d2, p2, none⟩) k2.length f2] 23)))
       have CI := hid (HI.out (w1.alloc (.cells #[.slice (some ⟨d1, p1, none⟩) k1.length f1, .slice (some ⟨d2, p2, none⟩) k2.length f2] 23)) w1.heap.size JI.out.below (heap_alloc_last w1 _))
       obtain ⟨a10, a11, a12⟩ := node_cells HJ1.out.b1
       obtain ⟨a20, a21, a22⟩ := node_cells HJ1.out.b2
       have al := (Array.getElem?_eq_some_iff.1 HJ1.out.z).1
       have al0 : w.heap.size < w1.heap.size := (by omega)
       have al1 : w.heap.size + 1 < w1.heap.size := (by omega)
       clear O1 B1)
    | (go_at_call 18
       with_reducible refine CB.out.mono ?_
       rintro e w1 ⟨r, rfl, O1, B1⟩
       obtain ⟨x1, q1, rfl, _, _, _⟩ := owns_rd O1
       have HJ1 := hid (JB.out.on B1)
       have HO1 : Hid (w1.ownsRow w.heap.size 9 1 (.slice x1 q q1) q (svs (l1 ++ [s] ++ l2))) := owns_base O1 JB.out.below.size
       have HP28 : Hid (w1.heap[W0.heap.size + 1 + 1]? = some (.cells #[.slice (some ⟨d1, p1, none⟩) k1.length f1, .slice (some ⟨d2, p2, none⟩) k2.length f2] 23)) := (B1.block _ (Array.getElem?_eq_some_iff.1 KB.out.2.2.1).1).trans KB.out.2.2.1
       have CI := hid (HI.out w1 (W0.heap.size + 1 + 1) HJ1.out.below HP28.out)
       have JI := hid HJ1.out
       obtain ⟨a10, a11, a12⟩ := node_cells HJ1.out.b1
       obtain ⟨a20, a21, a22⟩ := node_cells HJ1.out.b2
       have al := (Array.getElem?_eq_some_iff.1 HJ1.out.z).1
       have al0 : w.heap.size < w1.heap.size := (by omega)
       have al1 : w.heap.size + 1 < w1.heap.size := (by omega)
       clear O1 B1)
    | (go_at_call 18
       with_reducible refine CC.out.mono ?_
       rintro e w1 ⟨r, rfl, O1, B1⟩
       obtain ⟨x1, q1, rfl, _, _, _⟩ := owns_rd O1
       have HJ1 := hid (JC.out.on B1)
       have HO1 : Hid (w1.ownsRow w.heap.size 9 1 (.slice x1 q q1) q (svs (l1 ++ [s] ++ l2))) := owns_base O1 JC.out.below.size
       have HP28 : Hid (w1.heap[W0.heap.size + 1]? = some (.cells #[.slice (some ⟨d1, p1, none⟩) k1.length f1, .slice (some ⟨d2, p2, none⟩) k2.length f2] 23)) := (B1.block _ (Array.getElem?_eq_some_iff.1 KC.out.2.1).1).trans KC.out.2.1
       have CI := hid (HI.out w1 (W0.heap.size + 1) HJ1.out.below HP28.out)
       have JI := hid HJ1.out
       obtain ⟨a10, a11, a12⟩ := node_cells HJ1.out.b1
       obtain ⟨a20, a21, a22⟩ := node_cells HJ1.out.b2
       have al := (Array.getElem?_eq_some_iff.1 HJ1.out.z).1
       have al0 : w.heap.size < w1.heap.size := (by omega)
       have al1 : w.heap.size + 1 < w1.heap.size := (by omega)
       clear O1 B1)
    | (go_at_call 18
       with_reducible refine CD.out.mono ?_
       rintro e w1 ⟨r, rfl, O1, B1⟩
       obtain ⟨x1, q1, rfl, _, _, _⟩ := owns_rd O1
       have HJ1 := hid (JD.out.on B1)
       have HO1 : Hid (w1.ownsRow w.heap.size 9 1 (.slice x1 q q1) q (svs (l1 ++ [s] ++ l2))) := owns_base O1 JD.out.below.size
       have HP28 : Hid (w1.heap[W0.heap.size]? = some (.cells #[.slice (some ⟨d1, p1, none⟩) k1.length f1, .slice (some ⟨d2, p2, none⟩) k2.length f2] 23)) := (B1.block _ (Array.getElem?_eq_some_iff.1 KD.out.1).1).trans KD.out.1
       have CI := hid (HI.out w1 (W0.heap.size) HJ1.out.below HP28.out)
       have JI := hid HJ1.out
       obtain ⟨a10, a11, a12⟩ := node_cells HJ1.out.b1
       obtain ⟨a20, a21, a22⟩ := node_cells HJ1.out.b2
       have al := (Array.getElem?_eq_some_iff.1 HJ1.out.z).1
       have al0 : w.heap.size < w1.heap.size := (by omega)
       have al1 : w.heap.size + 1 < w1.heap.size := (by omega)
       clear O1 B1)
    | (go_at_call 19
       with_reducible refine CI.out.mono ?_
       rintro e w2 ⟨r2, rfl, O2, B2⟩
       obtain ⟨x2, q2, rfl, _, _, _⟩ := owns_rd O2
       have HJ2 := hid (JI.out.on B2)
       have HJR : Hid (JR w (l1 ++ [s] ++ l2) (k1 ++ k2) (.slice x1 q q1) (.slice x2 qk q2) w2) := ⟨by rw [hq.out]; first | exact owns_below HO1.out B2 | exact owns_below (owns_below HO1.out (below_alloc _ _)) B2, by rw [hqk.out]; exact owns_base O2 JI.out.below.size, HJ2.out.below⟩
       obtain ⟨e10, e11, e12⟩ := node_cells HJ2.out.b1
       obtain ⟨e20, e21, e22⟩ := node_cells HJ2.out.b2
       obtain ⟨n0, n1, n2⟩ := node_cells HJ2.out.z
       have nf : ∀ i, w2.frozen? ⟨w.heap.size + 2, i, none⟩ = false := fun i => frozen_of_row _ _ _ _ _ HJ2.out.z
       have g1 := set_far (p := w.heap.size + 2) (q := w.heap.size) (by omega)
       have g2 := set_far (p := w.heap.size + 2) (q := w.heap.size + 1) (by omega)
       clear O2 B2))
  all_goals
    refine to_letter (join_end HJ2.out.z HJR.out (.bool false)) ?_
    clear n0 n1 n2 nf g1 g2 HJ2 HJR HJ1 HO1 e10 e11 e12 e20 e21 e22 a10 a11 a12 a20 a21 a22 m10 m11 m12 m20 m21 m22 hal hal1
    intro Wf hF
    obtain ⟨t0, t1, t2, hF⟩ := hF
    go_wp2
    refine bodyPost_ret (v := .agg #[.bool false, .slice x1 q q1, .slice x2 qk q2]) ?_ rfl ?_
    · simp [results, Try.results12, go_sem, t0, t1, t2]
    · exact ⟨_, _, rfl, hF⟩
end Go.Proofs.Ytgpahhlmpdnbpaa
