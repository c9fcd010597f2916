/-
  Split; the document's Same.
-/
import Derived.Test.YtgpahhlmpdnbpaaSpD
import Derived.Test.YtgpahhlmpdnbpaaSpG
namespace Go.Proofs.Ytgpahhlmpdnbpaa
open Go.RowKit

def No.lo (n : No) (k : Nat) : No := ⟨n.leaf, n.recs.take k, if n.leaf then [] else n.kids.take (k + 1)⟩
def No.hi (n : No) (k : Nat) : No := ⟨n.leaf, n.recs.drop (k + n.gap), if n.leaf then [] else n.kids.drop (k + 1)⟩

theorem Halves.weaken {w W0 W : World} {x y : No} {r1 k1 r2 k2 : Value} (h : Halves W0 x y r1 k1 r2 k2 W) (hb : Below w.heap.size w W0) : Halves w x y r1 k1 r2 k2 W :=
  ⟨owns_base h.a1 hb.size, owns_base h.a2 hb.size, owns_base h.b1 hb.size, owns_base h.b2 hb.size, h.ap1, h.ap2, below_on hb h.below⟩

/-- Two results in their cells, stored in order. -/
theorem split_out {w W : World} {x y : No} {r1 k1 r2 k2 : Value} (z2 : W.heap[w.heap.size + 1]? = some zNode) (z4 : W.heap[w.heap.size + 2]? = some zNode) (h : Halves w x y r1 k1 r2 k2 W) (u v : Value) :
    Out w x y u v r1 k1 r2 k2 (put3 (put3 W (w.heap.size + 1) u r1 k1) (w.heap.size + 2) v r2 k2) := by
  have b2 := put3_block z2 u r1 k1
  have b4 : (put3 W (w.heap.size + 1) u r1 k1).heap[w.heap.size + 2]? = some zNode := by rw [put3_other (by omega)]; exact z4
  have d4 := put3_block b4 v r2 k2
  have d2 : (put3 (put3 W (w.heap.size + 1) u r1 k1) (w.heap.size + 2) v r2 k2).heap[w.heap.size + 1]? = some (.cells #[u, r1, k1] 25 (0, 0)) := by rw [put3_other (by omega)]; exact b2
  have h1 := (h.put3 z2 (by omega) u r1 k1).put3 b4 (by omega) v r2 k2
  generalize put3 (put3 W (w.heap.size + 1) u r1 k1) (w.heap.size + 2) v r2 k2 = X at *
  have n2 := node_cells d2
  have n4 := node_cells d4
  exact ⟨n2.1, n2.2.1, n2.2.2, n4.1, n4.2.1, n4.2.2, h1⟩

theorem Halves.slices {w W : World} {x y : No} {r1 k1 r2 k2 : Value} (h : Halves w x y r1 k1 r2 k2 W) : ∃ a1 c1 a2 c2 a3 c3 a4 c4, r1 = .slice a1 x.recs.length c1 ∧ k1 = .slice a2 x.kids.length c2 ∧ r2 = .slice a3 y.recs.length c3 ∧ k2 = .slice a4 y.kids.length c4 := by
  obtain ⟨a1, c1, e1, _⟩ := owns_rd h.a1
  obtain ⟨a2, c2, e2, _⟩ := owns_rd h.a2
  obtain ⟨a3, c3, e3, _⟩ := owns_rd h.b1
  obtain ⟨a4, c4, e4, _⟩ := owns_rd h.b2
  exact ⟨a1, c1, a2, c2, a3, c3, a4, c4, e1, e2, e3, e4⟩

set_option maxRecDepth 100000 in
set_option maxHeartbeats 1000000 in
theorem split_leaf {n : No} {a : Option Addr} {c : Nat} {a' : Option Addr} {c' : Nat} {w : World} (hr : NR w n a c a' c') (hs : n.small) (hlf : n.leaf = true) (h2 : 2 ≤ n.recs.length) (k : Nat) (hk : k = cutN 4 0 n.recs) (s : ByteArray) (hsk : n.recs[k]? = some s) :
    Calls Try.prog 9 #[nodeV n a c a' c'] w fun e w' => ∃ r1 k1 r2 k2, e = .returned (.tuple #[.agg #[.bool true, r1, k1], .string s, .agg #[.bool true, r2, k2]]) ∧ Halves w (leafL n k) (leafR n k) r1 k1 r2 k2 w' := by
  have HN : Hid (SW w n a c a' c' (((w.alloc (.cells #[.bool n.leaf, .slice a n.recs.length c, .slice a' n.kids.length c'] 25)).alloc (.cells #[.bool false, .slice none 0 0, .slice none 0 0] 25)).alloc (.cells #[.bool false, .slice none 0 0, .slice none 0 0] 25))) := SW.new _ _ _ _ _ _
  have HC := hid (splitLeaf_walk (hr.below HN.out.bx.below) hs hlf h2  k hk s hsk)
  unfold nodeV at HC
  rw [hlf] at HC HN
  clear hk hr
  go_enter Try.func9, Try.ntmps9
  unfold nodeV
  rw [hlf]
  go_wp2_with fail
  generalize ((w.alloc (.cells #[.bool true, .slice a n.recs.length c, .slice a' n.kids.length c'] 25)).alloc (.cells #[.bool false, .slice none 0 0, .slice none 0 0] 25)).alloc (.cells #[.bool false, .slice none 0 0, .slice none 0 0] 25) = W0 at *
  refine HC.out.mono ?_
  rintro e w1 ⟨r1, k1, r2, k2, rfl, hh⟩
  have HS1 : Hid (SW w n a c a' c' w1) := HN.out.on hh.below
  have HH : Hid (Halves w (leafL n k) (leafR n k) r1 k1 r2 k2 w1) := hh.weaken HN.out.bx.below
  clear hh HC HN
  obtain ⟨y1, t1, y2, t2, y3, t3, y4, t4, rfl, rfl, rfl, rfl⟩ := HH.out.slices
  obtain ⟨l20, l21, l22⟩ := node_cells HS1.out.z2
  obtain ⟨l40, l41, l42⟩ := node_cells HS1.out.z4
  have f2 : ∀ i, w1.frozen? ⟨w.heap.size + 1, i, none⟩ = false := fun i => frozen_of_row _ _ _ _ _ HS1.out.z2
  have f4 : ∀ i, w1.frozen? ⟨w.heap.size + 2, i, none⟩ = false := fun i => frozen_of_row _ _ _ _ _ HS1.out.z4
  have e9 := set_far (p := w.heap.size + 1) (q := w.heap.size + 2) (by omega)
  generalize (leafL n k).recs.length = q1 at *
  generalize (leafL n k).kids.length = q2 at *
  generalize (leafR n k).recs.length = q3 at *
  generalize (leafR n k).kids.length = q4 at *
  go_wp2_with fail
  refine to_letter (split_out HS1.out.z2 HS1.out.z4 HH.out (.bool true) (.bool true)) ?_
  clear l20 l21 l22 l40 l41 l42 f2 f4 e9 HS1 HH
  intro Wf hF
  obtain ⟨g20, g21, g22, g40, g41, g42, hF⟩ := hF
  refine bodyPost_ret (v := .tuple #[.agg #[.bool true, .slice y1 q1 t1, .slice y2 q2 t2], .string s, .agg #[.bool true, .slice y3 q3 t3, .slice y4 q4 t4]]) ?_ rfl ?_
  · simp [results, Try.results9, go_sem, g20, g21, g22, g40, g41, g42]
  · exact ⟨_, _, _, _, rfl, hF⟩

set_option maxRecDepth 100000 in
set_option maxHeartbeats 1000000 in
theorem split_inner {n : No} {a : Option Addr} {c : Nat} {a' : Option Addr} {c' : Nat} {w : World} (hr : NR w n a c a' c') (hs : n.small) (hlf : n.leaf = false) (h2 : 3 ≤ n.recs.length) (hkl : n.kids.length = n.recs.length + 1) (k : Nat) (hk : k = cutN 8 1 n.recs) (s : ByteArray) (hsk : n.recs[k]? = some s) :
    Calls Try.prog 9 #[nodeV n a c a' c'] w fun e w' => ∃ r1 k1 r2 k2, e = .returned (.tuple #[.agg #[.bool false, r1, k1], .string s, .agg #[.bool false, r2, k2]]) ∧ Halves w (innL n k) (innR n k) r1 k1 r2 k2 w' := by
  have HN : Hid (SW w n a c a' c' (((w.alloc (.cells #[.bool n.leaf, .slice a n.recs.length c, .slice a' n.kids.length c'] 25)).alloc (.cells #[.bool false, .slice none 0 0, .slice none 0 0] 25)).alloc (.cells #[.bool false, .slice none 0 0, .slice none 0 0] 25))) := SW.new _ _ _ _ _ _
  have HC := hid (splitInner_walk (hr.below HN.out.bx.below) hs hlf h2 hkl k hk s hsk)
  unfold nodeV at HC
  rw [hlf] at HC HN
  clear hk hr hkl
  go_enter Try.func9, Try.ntmps9
  unfold nodeV
  rw [hlf]
  go_wp2_with fail
  generalize ((w.alloc (.cells #[.bool false, .slice a n.recs.length c, .slice a' n.kids.length c'] 25)).alloc (.cells #[.bool false, .slice none 0 0, .slice none 0 0] 25)).alloc (.cells #[.bool false, .slice none 0 0, .slice none 0 0] 25) = W0 at *
  refine HC.out.mono ?_
  rintro e w1 ⟨r1, k1, r2, k2, rfl, hh⟩
  have HS1 : Hid (SW w n a c a' c' w1) := HN.out.on hh.below
  have HH : Hid (Halves w (innL n k) (innR n k) r1 k1 r2 k2 w1) := hh.weaken HN.out.bx.below
  clear hh HC HN
  obtain ⟨y1, t1, y2, t2, y3, t3, y4, t4, rfl, rfl, rfl, rfl⟩ := HH.out.slices
  obtain ⟨l20, l21, l22⟩ := node_cells HS1.out.z2
  obtain ⟨l40, l41, l42⟩ := node_cells HS1.out.z4
  have f2 : ∀ i, w1.frozen? ⟨w.heap.size + 1, i, none⟩ = false := fun i => frozen_of_row _ _ _ _ _ HS1.out.z2
  have f4 : ∀ i, w1.frozen? ⟨w.heap.size + 2, i, none⟩ = false := fun i => frozen_of_row _ _ _ _ _ HS1.out.z4
  have e9 := set_far (p := w.heap.size + 1) (q := w.heap.size + 2) (by omega)
  generalize (innL n k).recs.length = q1 at *
  generalize (innL n k).kids.length = q2 at *
  generalize (innR n k).recs.length = q3 at *
  generalize (innR n k).kids.length = q4 at *
  go_wp2_with fail
  refine to_letter (split_out HS1.out.z2 HS1.out.z4 HH.out (.bool false) (.bool false)) ?_
  clear l20 l21 l22 l40 l41 l42 f2 f4 e9 HS1 HH
  intro Wf hF
  obtain ⟨g20, g21, g22, g40, g41, g42, hF⟩ := hF
  refine bodyPost_ret (v := .tuple #[.agg #[.bool false, .slice y1 q1 t1, .slice y2 q2 t2], .string s, .agg #[.bool false, .slice y3 q3 t3, .slice y4 q4 t4]]) ?_ rfl ?_
  · simp [results, Try.results9, go_sem, g20, g21, g22, g40, g41, g42]
  · exact ⟨_, _, _, _, rfl, hF⟩

theorem split_walk {n : No} {a : Option Addr} {c : Nat} {a' : Option Addr} {c' : Nat} {w : World} (hr : NR w n a c a' c') (hs : n.small) (h2 : n.gap + 2 ≤ n.recs.length) (hkl : n.leaf = false → n.kids.length = n.recs.length + 1) (s : ByteArray) (hsk : n.recs[n.cut]? = some s) :
    Calls Try.prog 9 #[nodeV n a c a' c'] w fun e w' => ∃ r1 k1 r2 k2, e = .returned (.tuple #[.agg #[.bool n.leaf, r1, k1], .string s, .agg #[.bool n.leaf, r2, k2]]) ∧ Halves w (n.lo n.cut) (n.hi n.cut) r1 k1 r2 k2 w' := by
  have hg : n.gap = if n.leaf then 0 else 1 := rfl
  cases hlf : n.leaf
  · have hg1 : n.gap = 1 := by rw [hg, hlf]; rfl
    have e1 : n.lo n.cut = innL n n.cut := by unfold No.lo innL; rw [hlf]; rfl
    have e2 : n.hi n.cut = innR n n.cut := by unfold No.hi innR; rw [hlf, hg1]; rfl
    rw [e1, e2]
    exact split_inner hr hs hlf (by omega) (hkl hlf) n.cut (cut_inner hlf) s hsk
  · have hg0 : n.gap = 0 := by rw [hg, hlf]; rfl
    have e1 : n.lo n.cut = leafL n n.cut := by unfold No.lo leafL; rw [hlf]; rfl
    have e2 : n.hi n.cut = leafR n n.cut := by unfold No.hi leafR; rw [hlf, hg0]; rfl
    rw [e1, e2]
    exact split_leaf hr hs hlf (by omega) n.cut (cut_leaf hlf) s hsk
end Go.Proofs.Ytgpahhlmpdnbpaa
