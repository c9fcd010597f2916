/-
  Join.
-/
import Derived.Test.YtgpahhlmpdnbpaaSpE
import Derived.Test.YtgpahhlmpdnbpaaSpH
namespace Go.Proofs.Ytgpahhlmpdnbpaa
open Go.RowKit

/-- Two nodes boxed, and a result. -/
structure JW (w : World) (x y : Array Value) (wr : World) : Prop where
  below : Below w.heap.size w wr
  b1 : wr.heap[w.heap.size]? = some (.cells x 25 (0, 0))
  b2 : wr.heap[w.heap.size + 1]? = some (.cells y 25 (0, 0))
  z : wr.heap[w.heap.size + 2]? = some zNode

theorem JW.on {w : World} {x y : Array Value} {wr wr' : World} (h : JW w x y wr) (hb : Below wr.heap.size wr wr') : JW w x y wr' :=
  ⟨below_on h.below hb, (hb.block _ (Array.getElem?_eq_some_iff.1 h.b1).1).trans h.b1, (hb.block _ (Array.getElem?_eq_some_iff.1 h.b2).1).trans h.b2, (hb.block _ (Array.getElem?_eq_some_iff.1 h.z).1).trans h.z⟩

theorem JW.new (w : World) (x y : Array Value) : JW w x y (((w.alloc (.cells x 25)).alloc (.cells y 25)).alloc zNode) := by
  have z1 : (w.alloc (.cells x 25)).heap.size = w.heap.size + 1 := by simp
  have z2 : ((w.alloc (.cells x 25)).alloc (.cells y 25)).heap.size = w.heap.size + 2 := by simp
  have B1 := below_alloc w (.cells x 25)
  have B2 := below_alloc (w.alloc (.cells x 25)) (.cells y 25)
  have B3 := below_alloc ((w.alloc (.cells x 25)).alloc (.cells y 25)) zNode
  refine ⟨below_on B1 (below_on B2 B3), ?_, ?_, ?_⟩
  · rw [B3.block _ (by omega), B2.block _ (by omega)]; exact heap_alloc_last _ _
  · rw [B3.block _ (by omega), ← z1]; exact heap_alloc_last _ _
  · rw [← z2]; exact heap_alloc_last _ _

/-- What a Join answers lies in memory of its own. -/
structure JR (w : World) (l : List ByteArray) (ks : List Int) (r k : Value) (W : World) : Prop where
  o1 : W.ownsRow w.heap.size 9 1 r l.length (svs l)
  o2 : W.ownsRow w.heap.size 3 1 k ks.length (ivs ks)
  below : Below w.heap.size w W

/-- The result's cells. -/
def JOut (w : World) (l : List ByteArray) (ks : List Int) (u r k : Value) (W : World) : Prop :=
  W.cell? ⟨w.heap.size + 2, 0, none⟩ = some u ∧ W.cell? ⟨w.heap.size + 2, 1, none⟩ = some r ∧ W.cell? ⟨w.heap.size + 2, 2, none⟩ = some k ∧ JR w l ks r k W

theorem join_end {w W : World} {l : List ByteArray} {ks : List Int} {r k : Value} (z : W.heap[w.heap.size + 2]? = some zNode) (h : JR w l ks r k W) (u : Value) : JOut w l ks u r k (put3 W (w.heap.size + 2) u r k) := by
  have n2 := node_cells (put3_block z u r k)
  exact ⟨n2.1, n2.2.1, n2.2.2, owns_put3 h.o1 (by decide) z _ _ _, owns_put3 h.o2 (by decide) z _ _ _, put3_below h.below (by omega) _ _ _⟩

/-- Two pieces in a row that was made last. -/
theorem pcs_two {w : World} {b1 o1 c1 b2 o2 c2 : Nat} {l1 l2 : List Value} (r1 : Rd w (some ⟨b1, o1, none⟩) c1 l1) (r2 : Rd w (some ⟨b2, o2, none⟩) c2 l2) (h1 : ∀ u ∈ l1, u.oneCell' = true) (h2 : ∀ u ∈ l2, u.oneCell' = true) (t : TypeId) : Pcs (w.alloc (.cells #[.slice (some ⟨b1, o1, none⟩) l1.length c1, .slice (some ⟨b2, o2, none⟩) l2.length c2] t)) w.heap.size [⟨b1, o1, c1, l1⟩, ⟨b2, o2, c2, l2⟩] := by
  have hb := below_alloc w (.cells #[.slice (some ⟨b1, o1, none⟩) l1.length c1, .slice (some ⟨b2, o2, none⟩) l2.length c2] t)
  refine ⟨fun j hj => ?_, by simp, fun j hj => ?_, fun j hj => ?_⟩
  all_goals
    have : j = 0 ∨ j = 1 := by simp at hj; omega
  · rcases this with rfl | rfl <;> simp [go_sem]
  · rcases this with rfl | rfl
    · exact r1.below hb
    · exact r2.below hb
  · rcases this with rfl | rfl
    · exact h1
    · exact h2

set_option maxRecDepth 100000 in
set_option maxHeartbeats 1000000 in
theorem join_leaf {b1 o1 c1 b2 o2 c2 : Nat} {l1 l2 : List ByteArray} {ka kb : Option Addr} {kn kc km kd : Nat} {lf2 : Bool} {w : World} (r1 : Rd w (some ⟨b1, o1, none⟩) c1 (svs l1)) (r2 : Rd w (some ⟨b2, o2, none⟩) c2 (svs l2)) (h1 : l1.length ≤ 1000) (h2 : l2.length ≤ 1000) (s : ByteArray) :
    Calls Try.prog 12 #[.agg #[.bool true, .slice (some ⟨b1, o1, none⟩) l1.length c1, .slice ka kn kc], .string s, .agg #[.bool lf2, .slice (some ⟨b2, o2, none⟩) l2.length c2, .slice kb km kd]] w fun e w' => ∃ r k, e = .returned (.agg #[.bool true, r, k]) ∧ JR w (l1 ++ l2) [] r k w' := by
  have HJ : Hid (JW w #[.bool true, .slice (some ⟨b1, o1, none⟩) l1.length c1, .slice ka kn kc] #[.bool lf2, .slice (some ⟨b2, o2, none⟩) l2.length c2, .slice kb km kd] (((w.alloc (.cells #[.bool true, .slice (some ⟨b1, o1, none⟩) l1.length c1, .slice ka kn kc] 25)).alloc (.cells #[.bool lf2, .slice (some ⟨b2, o2, none⟩) l2.length c2, .slice kb km kd] 25)).alloc (.cells #[.bool false, .slice none 0 0, .slice none 0 0] 25))) := JW.new _ _ _
  have HC := hid (fun (W : World) (hb : Below w.heap.size w W) => concatS_walk (cap := 2) (pcs_two (r1.below hb) (r2.below hb) (one_svs l1) (one_svs l2) 22) (by simp) (by simp [tot, svs]; omega))
  clear r1 r2
  have e1 : tot [⟨b1, o1, c1, svs l1⟩, ⟨b2, o2, c2, svs l2⟩] = (l1 ++ l2).length := by simp [tot, svs]
  have e2 : flat [⟨b1, o1, c1, svs l1⟩, ⟨b2, o2, c2, svs l2⟩] = svs (l1 ++ l2) := by simp [flat, svs]
  rw [e1, e2] at HC
  simp only [svs_length, List.length_cons, List.length_nil, Nat.zero_add, Nat.reduceAdd] at HC
  clear e1 e2
  go_enter Try.func12, Try.ntmps12
  go_wp2_with fail
  have HC0 := HC.out _ HJ.out.below
  have hz : (((w.alloc (.cells #[.bool true, .slice (some ⟨b1, o1, none⟩) l1.length c1, .slice ka kn kc] 25)).alloc (.cells #[.bool lf2, .slice (some ⟨b2, o2, none⟩) l2.length c2, .slice kb km kd] 25)).alloc (.cells #[.bool false, .slice none 0 0, .slice none 0 0] 25)).heap.size = w.heap.size + 1 + 1 + 1 := by simp
  rw [hz] at HC0
  clear HC
  generalize ((w.alloc (.cells #[.bool true, .slice (some ⟨b1, o1, none⟩) l1.length c1, .slice ka kn kc] 25)).alloc (.cells #[.bool lf2, .slice (some ⟨b2, o2, none⟩) l2.length c2, .slice kb km kd] 25)).alloc (.cells #[.bool false, .slice none 0 0, .slice none 0 0] 25) = W0 at *
  have HJ1 := hid (HJ.out.on (below_alloc W0 (.cells #[.slice (some ⟨b1, o1, none⟩) l1.length c1, .slice (some ⟨b2, o2, none⟩) l2.length c2] 22)))
  generalize W0.alloc (.cells #[.slice (some ⟨b1, o1, none⟩) l1.length c1, .slice (some ⟨b2, o2, none⟩) l2.length c2] 22) = W1 at *
  refine HC0.mono ?_
  rintro e w1 ⟨r, rfl, O1, B1⟩
  obtain ⟨x1, q1, rfl, _, _, _⟩ := owns_rd O1
  have HJ2 := hid (HJ1.out.on B1)
  have HR : Hid (JR w (l1 ++ l2) [] (.slice x1 (l1 ++ l2).length q1) (.slice none 0 0) w1) := ⟨owns_base O1 HJ1.out.below.size, World.ownsRow_nil _ _ _ _, HJ2.out.below⟩
  obtain ⟨m0, m1, m2⟩ := node_cells HJ2.out.z
  have mf : ∀ i, w1.frozen? ⟨w.heap.size + 2, i, none⟩ = false := fun i => frozen_of_row _ _ _ _ _ HJ2.out.z
  clear O1 B1 HC0 HJ HJ1 hz
  generalize (l1 ++ l2).length = q at *
  go_wp2_with fail
  refine to_letter (join_end HJ2.out.z HR.out (.bool true)) ?_
  clear m0 m1 m2 mf HJ2 HR
  intro Wf hF
  obtain ⟨g0, g1, g2, hF⟩ := hF
  refine bodyPost_ret (v := .agg #[.bool true, .slice x1 q q1, .slice none 0 0]) ?_ rfl ?_
  · simp [results, Try.results12, go_sem, g0, g1, g2]
  · exact ⟨_, _, rfl, hF⟩
end Go.Proofs.Ytgpahhlmpdnbpaa
