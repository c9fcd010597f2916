/-
  Decode: the node whose page the bytes are.
-/
import Derived.Test.YtjdbjnkmlajdoaaGreatRdD
namespace Go.Proofs.YtjdbjnkmlajdoaaGreat.L5
open Go.RowKit

theorem cut_all {m : Nat} (L : List UInt8) (h : L.length = m) : cut L 0 m = L := by
  subst h
  simp [cut]

set_option maxRecDepth 100000 in
set_option maxHeartbeats 400000 in
theorem equal_walk {b1 b2 m : Nat} {L1 L2 : List UInt8} {w : World} (h1 : Blk w b1 L1) (h2 : RBlk w b2 L2) (l1 : L1.length = m) (l2 : L2.length = m) (c1 c2 : Nat) :
    Calls Tryz.prog 129 #[.slice (some ⟨b1, 0, none⟩) m c1, .slice (some ⟨b2, 0, none⟩) m c2] w fun e w' => e = .returned (.bool (L1 == L2)) ∧ Below w.heap.size w w' := by
  have k1 := conv_blk h1 0 m c1 (by omega)
  have k2 := conv_rblk h2 0 m c2 (by omega)
  rw [cut_all _ l1] at k1
  rw [cut_all _ l2] at k2
  clear h1 h2
  go_enter Tryz.func129, Tryz.ntmps129
  go_wp2
  go_ret
  exact ⟨rfl, Below.refl _ _⟩

theorem raw_small {L : List UInt8} (hl : L.length = 1024) (h : rawOk L) : (rawN L).small := by
  have h1 := h.1
  unfold slotAt at h1
  refine ⟨?_, ?_, ?_⟩
  · show (recsL L _ _).length ≤ 1000
    rw [recsL_length]; omega
  · show (kidsL L _ _).length ≤ 1000
    rw [kidsL_length]; omega
  · intro s hs
    obtain ⟨i, _, rfl⟩ := List.mem_map.1 (show s ∈ (List.range (cntL L)).map (recL L (slotAt L)) from hs)
    show (cut L _ _).toArray.size ≤ 5000
    have : (cut L (begL L (slotAt L) i) (lenL L (slotAt L) i)).length ≤ 1024 := by unfold cut; simp; omega
    simpa using Nat.le_trans this (by omega)

/-- The bytes are the page of the node that they say. -/
def pageOk (L : List UInt8) : Prop := rawOk L ∧ (rawN L).shaped = true ∧ (rawN L).size ≤ 1024 ∧ pageL (rawN L).toNd = L

/-- The block of the answer. -/
structure Dz (w wr : World) : Prop where
  below : Below w.heap.size w wr
  z : wr.heap[w.heap.size]? = some zNode

theorem Dz.on {w wr wr' : World} (h : Dz w wr) (hb : Below wr.heap.size wr wr') : Dz w wr' :=
  ⟨h.below.trans (hb.mono h.below.size), (hb.block _ (Array.getElem?_eq_some_iff.1 h.z).1).trans h.z⟩

theorem Dz.new (w : World) : Dz w (w.alloc zNode) := ⟨below_alloc _ _, heap_alloc_last _ _⟩

theorem Dz.out {w W : World} (h : Dz w W) (x y z : Value) : ROut w x y z (put3 W w.heap.size x y z) := by
  obtain ⟨c0, c1, c2⟩ := node_cells (put3_block h.z x y z)
  exact ⟨c0, c1, c2, put3_below h.below (Nat.le_refl _) x y z⟩

theorem Dz.fail {w W : World} (h : Dz w W) (x y z : Value) (ob : Obj) : ROut w x y z ((put3 W w.heap.size x y z).alloc ob) := by
  have hb : Below w.heap.size w (put3 W w.heap.size x y z) := put3_below h.below (Nat.le_refl _) x y z
  have hz := put3_block h.z x y z
  have ha := below_alloc (put3 W w.heap.size x y z) ob
  have hz2 := (ha.block _ (Array.getElem?_eq_some_iff.1 hz).1).trans hz
  obtain ⟨c0, c1, c2⟩ := node_cells hz2
  exact ⟨c0, c1, c2, hb.trans (ha.mono hb.size)⟩

set_option maxRecDepth 100000 in
set_option maxHeartbeats 400000 in
theorem decode_no {a : Option Addr} {lb cap : Nat} {w : World} (h : lb ≠ 1024) :
    Calls Tryz.prog 105 #[.slice a lb cap] w fun e w' => Below w.heap.size w w' ∧ e = .returned (.tuple #[.agg #[.bool false, .slice none 0 0, .slice none 0 0], .int .i64 16]) := by
  go_enter Tryz.func105, Tryz.ntmps105
  go_wp2_with fail
  refine (read_no h).mono ?_
  rintro e w1 ⟨B1, rfl⟩
  have H1 : Hid (Dz w w1) := (Dz.new w).on B1
  clear B1
  have z0 := (node_cells H1.out.z).1
  have z1 := (node_cells H1.out.z).2.1
  have z2 := (node_cells H1.out.z).2.2
  have zf : ∀ i, w1.frozen? ⟨w.heap.size, i, none⟩ = false := fun i => frozen_of_row _ _ _ _ _ H1.out.z
  have xl : w.heap.size < w1.heap.size := (Array.getElem?_eq_some_iff.1 H1.out.z).1
  go_wp2_with fail
  refine to_letter (H1.out.fail (.bool false) (.slice none 0 0) (.slice none 0 0) _) ?_
  clear z0 z1 z2 zf H1 xl
  intro Wf hF
  obtain ⟨g0, g1, g2, hF⟩ := hF
  refine bodyPost_ret (v := .tuple #[.agg #[.bool false, .slice none 0 0, .slice none 0 0], .int .i64 16]) ?_ rfl ?_
  · simp [results, Tryz.results105, go_sem, g0, g1, g2]
  · exact ⟨hF, rfl⟩

/-- The node that was read, beside the answer's block. -/
structure Dx (w : World) (b : Nat) (L : List UInt8) (p : Nat) (x r k : Value) (wr : World) : Prop where
  dz : Dz w wr
  n : wr.heap[p]? = some (.cells #[x, r, k] 91 (0, 0))
  blk : RBlk wr b L
  o1 : wr.ownsRow w.heap.size 9 1 r (cntL L) (svs (rawN L).recs)
  o2 : wr.ownsRow w.heap.size 3 1 k (kidN L) (ivs (rawN L).kids)

theorem Dx.on {w : World} {b : Nat} {L : List UInt8} {p : Nat} {x r k : Value} {wr wr' : World} (h : Dx w b L p x r k wr) (hb : Below wr.heap.size wr wr') : Dx w b L p x r k wr' :=
  ⟨h.dz.on hb, (hb.block _ (Array.getElem?_eq_some_iff.1 h.n).1).trans h.n, (hb.block b h.blk.lt).trans h.blk, owns_below h.o1 hb, owns_below h.o2 hb⟩

theorem Dx.out {w W : World} {b : Nat} {L : List UInt8} {p : Nat} {x r k : Value} (h : Dx w b L p x r k W) : RRes w x r k (cntL L) (svs (rawN L).recs) (kidN L) (ivs (rawN L).kids) (put3 W w.heap.size x r k) :=
  ⟨h.dz.out x r k, owns_put3 h.o1 (by decide) h.dz.z x r k, owns_put3 h.o2 (by decide) h.dz.z x r k⟩

set_option maxRecDepth 100000 in
set_option maxHeartbeats 1000000 in
theorem decode_walk {b : Nat} {L : List UInt8} {w : World} (hb : RBlk w b L) (hl : L.length = 1024) :
    Calls Tryz.prog 105 #[.slice (some ⟨b, 0, none⟩) 1024 1024] w fun e w' => Below w.heap.size w w' ∧ ((pageOk L ∧ ∃ r k, e = .returned (.tuple #[.agg #[.bool (leafB L), r, k], .int .i64 0]) ∧ w'.ownsRow w.heap.size 9 1 r (cntL L) (svs (rawN L).recs) ∧ w'.ownsRow w.heap.size 3 1 k (kidN L) (ivs (rawN L).kids)) ∨ (¬ pageOk L ∧ e = .returned (.tuple #[.agg #[.bool false, .slice none 0 0, .slice none 0 0], .int .i64 16]))) := by
  have HB : Hid (RBlk w b L) := hb
  have HL : Hid (L.length = 1024) := hl
  clear hb hl
  go_enter Tryz.func105, Tryz.ntmps105
  go_wp2_with fail
  have H0 : Hid (Dz w (w.alloc (.cells #[.bool false, .slice none 0 0, .slice none 0 0] 91))) := Dz.new w
  refine (read_walk (L := L) (((below_alloc w _).block b HB.out.lt).trans HB.out) HL.out).mono ?_
  rintro e w1 ⟨B1, ⟨hok, r, k, rfl, O1, O2⟩ | ⟨hok, lf, x, m, q, rfl⟩⟩
  · obtain ⟨x1, q1, rfl, R1, _, _⟩ := owns_rd O1
    obtain ⟨x2, q2, rfl, R2, _, _⟩ := owns_rd O2
    have H1 : Hid (Dz w w1) := H0.out.on B1
    have HO1 := hidd (owns_base O1 H0.out.below.size)
    have HO2 := hidd (owns_base O2 H0.out.below.size)
    have HR : Hid (NR w1 (rawN L) x1 q1 x2 q2) := ⟨R1, R2⟩
    have HS := hidd (raw_small HL.out hok)
    clear B1 O1 O2 R1 R2 H0
    have z0 := (node_cells H1.out.z).1
    have z1 := (node_cells H1.out.z).2.1
    have z2 := (node_cells H1.out.z).2.2
    have zf : ∀ i, w1.frozen? ⟨w.heap.size, i, none⟩ = false := fun i => frozen_of_row _ _ _ _ _ H1.out.z
    have xl : w.heap.size < w1.heap.size := (Array.getElem?_eq_some_iff.1 H1.out.z).1
    go_wp2_with fail
    have B0 := below_alloc w1 (.cells #[.bool (leafB L), .slice x1 (cntL L) q1, .slice x2 (kidN L) q2] 91)
    have H2 : Hid (Dx w b L w1.heap.size (.bool (leafB L)) (.slice x1 (cntL L) q1) (.slice x2 (kidN L) q2) (w1.alloc (.cells #[.bool (leafB L), .slice x1 (cntL L) q1, .slice x2 (kidN L) q2] 91))) :=
      ⟨H1.out.on B0, heap_alloc_last _ _, (B0.block b (by have := HB.out.lt; omega)).trans ((H1.out.below.block b HB.out.lt).trans HB.out), owns_below HO1.out B0, owns_below HO2.out B0⟩
    have HR2 := hidd (HR.out.below B0)
    clear HR B0 HO1 HO2 H1 z0 z1 z2 zf
    have ev : Value.agg #[.bool (leafB L), .slice x1 (cntL L) q1, .slice x2 (kidN L) q2] = nodeV (rawN L) x1 q1 x2 q2 := by
      have e1 : (rawN L).recs.length = cntL L := recsL_length _ _ _
      have e2 : (rawN L).kids.length = kidN L := kidsL_length _ _ _
      unfold nodeV
      rw [e1, e2]
      rfl
    have HEN := hidd (fun h => encode_no HR2.out HS.out h)
    have HEL := hidd (fun h h2 => encode_long HR2.out HS.out h h2)
    have HEO := hidd (fun h h2 => encode_ok HR2.out HS.out h h2)
    rw [← ev] at HEN HEL HEO
    clear ev HR2
    generalize w1.alloc (.cells #[.bool (leafB L), .slice x1 (cntL L) q1, .slice x2 (kidN L) q2] 91) = w2 at H2 HEN HEL HEO ⊢
    generalize w1.heap.size = pn at H2 xl ⊢
    cases hsh : (rawN L).shaped
    · have HN : Hid (¬ pageOk L) := fun h => by have := h.2.1; rw [hsh] at this; cases this
      refine (HEN.out hsh).mono ?_
      rintro e w3 ⟨rfl, B3⟩
      have H3 := hidd (H2.out.on B3)
      clear H2 HEN HEL HEO xl B3
      have z0 := (node_cells H3.out.dz.z).1
      have z1 := (node_cells H3.out.dz.z).2.1
      have z2 := (node_cells H3.out.dz.z).2.2
      have zf : ∀ i, w3.frozen? ⟨w.heap.size, i, none⟩ = false := fun i => frozen_of_row _ _ _ _ _ H3.out.dz.z
      have xl : w.heap.size < w3.heap.size := (Array.getElem?_eq_some_iff.1 H3.out.dz.z).1
      go_wp2_with fail
      refine to_letter (H3.out.dz.out (.bool false) (.slice none 0 0) (.slice none 0 0)) ?_
      clear z0 z1 z2 zf H3 xl
      intro Wf hF
      obtain ⟨g0, g1, g2, hF⟩ := hF
      refine bodyPost_ret (v := .tuple #[.agg #[.bool false, .slice none 0 0, .slice none 0 0], .int .i64 16]) ?_ rfl ?_
      · simp [results, Tryz.results105, go_sem, g0, g1, g2]
      · exact ⟨hF, Or.inr ⟨HN.out, rfl⟩⟩
    by_cases hsz : 1024 < (rawN L).size
    · have HN : Hid (¬ pageOk L) := fun h => by have := h.2.2.1; omega
      refine (HEL.out hsh hsz).mono ?_
      rintro e w3 ⟨rfl, B3⟩
      have H3 := hidd (H2.out.on B3)
      clear H2 HEN HEL HEO xl B3
      have z0 := (node_cells H3.out.dz.z).1
      have z1 := (node_cells H3.out.dz.z).2.1
      have z2 := (node_cells H3.out.dz.z).2.2
      have zf : ∀ i, w3.frozen? ⟨w.heap.size, i, none⟩ = false := fun i => frozen_of_row _ _ _ _ _ H3.out.dz.z
      have xl : w.heap.size < w3.heap.size := (Array.getElem?_eq_some_iff.1 H3.out.dz.z).1
      go_wp2_with fail
      refine to_letter (H3.out.dz.out (.bool false) (.slice none 0 0) (.slice none 0 0)) ?_
      clear z0 z1 z2 zf H3 xl
      intro Wf hF
      obtain ⟨g0, g1, g2, hF⟩ := hF
      refine bodyPost_ret (v := .tuple #[.agg #[.bool false, .slice none 0 0, .slice none 0 0], .int .i64 16]) ?_ rfl ?_
      · simp [results, Tryz.results105, go_sem, g0, g1, g2]
      · exact ⟨hF, Or.inr ⟨HN.out, rfl⟩⟩
    · refine (HEO.out hsh (by omega)).mono ?_
      rintro e w3 ⟨b3, rfl, hb3, K3, B3⟩
      have H3 := hidd (H2.out.on B3)
      have HK3 := hidd K3
      have hln : (pageL (rawN L).toNd).length = 1024 := pageL_length (by rw [toNd_size]; omega)
      clear H2 HEN HEL HEO xl B3 K3
      go_wp2_with fail
      refine (equal_walk HK3.out H3.out.blk hln HL.out 1024 1024).mono ?_
      rintro e w4 ⟨rfl, B4⟩
      have H4 := hidd (H3.out.on B4)
      clear H3 HK3 B4
      have z0 := (node_cells H4.out.dz.z).1
      have z1 := (node_cells H4.out.dz.z).2.1
      have z2 := (node_cells H4.out.dz.z).2.2
      have zf : ∀ i, w4.frozen? ⟨w.heap.size, i, none⟩ = false := fun i => frozen_of_row _ _ _ _ _ H4.out.dz.z
      have xl : w.heap.size < w4.heap.size := (Array.getElem?_eq_some_iff.1 H4.out.dz.z).1
      by_cases heq : pageL (rawN L).toNd = L
      · have hbe : (pageL (rawN L).toNd == L) = true := by simpa using heq
        have y0 := (node_cells H4.out.n).1
        have y1 := (node_cells H4.out.n).2.1
        have y2 := (node_cells H4.out.n).2.2
        have yl : pn < w4.heap.size := (Array.getElem?_eq_some_iff.1 H4.out.n).1
        rw [hbe]
        go_wp2_with fail
        refine to_letter H4.out.out ?_
        clear y0 y1 y2 yl z0 z1 z2 zf H4
        intro Wf hF
        obtain ⟨⟨g0, g1, g2, hB⟩, r1, r2⟩ := hF
        refine bodyPost_ret (v := .tuple #[.agg #[.bool (leafB L), .slice x1 (cntL L) q1, .slice x2 (kidN L) q2], .int .i64 0]) ?_ rfl ?_
        · simp [results, Tryz.results105, go_sem, g0, g1, g2]
        · exact ⟨hB, Or.inl ⟨⟨hok, hsh, by omega, heq⟩, _, _, rfl, r1, r2⟩⟩
      · have hbe : (pageL (rawN L).toNd == L) = false := by simpa using heq
        have HN : Hid (¬ pageOk L) := fun h => heq h.2.2.2
        rw [hbe]
        go_wp2_with fail
        refine to_letter (H4.out.dz.out (.bool false) (.slice none 0 0) (.slice none 0 0)) ?_
        clear z0 z1 z2 zf H4 xl
        intro Wf hF
        obtain ⟨g0, g1, g2, hF⟩ := hF
        refine bodyPost_ret (v := .tuple #[.agg #[.bool false, .slice none 0 0, .slice none 0 0], .int .i64 16]) ?_ rfl ?_
        · simp [results, Tryz.results105, go_sem, g0, g1, g2]
        · exact ⟨hF, Or.inr ⟨HN.out, rfl⟩⟩
  · have H1 : Hid (Dz w w1) := H0.out.on B1
    have HN : Hid (¬ pageOk L) := fun h => hok h.1
    clear H0 B1
    have z0 := (node_cells H1.out.z).1
    have z1 := (node_cells H1.out.z).2.1
    have z2 := (node_cells H1.out.z).2.2
    have zf : ∀ i, w1.frozen? ⟨w.heap.size, i, none⟩ = false := fun i => frozen_of_row _ _ _ _ _ H1.out.z
    have xl : w.heap.size < w1.heap.size := (Array.getElem?_eq_some_iff.1 H1.out.z).1
    go_wp2_with fail
    refine to_letter (H1.out.fail (.bool false) (.slice none 0 0) (.slice none 0 0) _) ?_
    clear z0 z1 z2 zf H1 xl
    intro Wf hF
    obtain ⟨g0, g1, g2, hF⟩ := hF
    refine bodyPost_ret (v := .tuple #[.agg #[.bool false, .slice none 0 0, .slice none 0 0], .int .i64 16]) ?_ rfl ?_
    · simp [results, Tryz.results105, go_sem, g0, g1, g2]
    · exact ⟨hF, Or.inr ⟨HN.out, rfl⟩⟩
end Go.Proofs.YtjdbjnkmlajdoaaGreat.L5
