/-
  Decode: the node whose page the bytes are.
-/
import Derived.Test.YtfdfamjajhmihaaGreatMAN
namespace Go.Proofs.YtfdfamjajhmihaaGreat.L5
open Go.RowKit

theorem cut_all {m : Nat} (L : List UInt8) (h : L.length = m) : cut L 0 m = L := by
  subst h
  simp [cut]

set_option maxRecDepth 100000 in
set_option maxHeartbeats 400000 in
theorem equal_walk {b1 b2 m : Nat} {L1 L2 : List UInt8} {w : World} (h1 : Blk w b1 L1) (h2 : RBlk w b2 L2) (l1 : L1.length = m) (l2 : L2.length = m) (c1 c2 : Nat) :
    Calls Tryz.prog 127 #[.slice (some ⟨b1, 0, none⟩) m c1, .slice (some ⟨b2, 0, none⟩) m c2] w fun e w' => e = .returned (.bool (L1 == L2)) ∧ Below w.heap.size w w' := by
  have k1 := conv_blk h1 0 m c1 (by omega)
  have k2 := conv_rblk h2 0 m c2 (by omega)
  rw [cut_all _ l1] at k1
  rw [cut_all _ l2] at k2
  clear h1 h2
  go_enter Tryz.func127, Tryz.ntmps127
  go_wp2
  go_ret
  exact ⟨rfl, Below.refl _ _⟩

theorem raw_small {L : List UInt8} (hl : L.length = 1024) (h : rawOk L) : (rawN L).small := by
  have h1 := h.1
  unfold slotAt at h1
  refine ⟨?_, ?_, ?_⟩
  · show (recsL L _ _).length ≤ 1000
    rw [recsL_length]; omega
  · show (kidsL L _ _).length ≤ 1000
    rw [kidsL_length]; omega
  · intro s hs
    obtain ⟨i, _, rfl⟩ := List.mem_map.1 (show s ∈ (List.range (cntL L)).map (recL L (slotAt L)) from hs)
    show (cut L _ _).toArray.size ≤ 5000
    have : (cut L (begL L (slotAt L) i) (lenL L (slotAt L) i)).length ≤ 1024 := by unfold cut; simp; omega
    simpa using Nat.le_trans this (by omega)

/-- The bytes are the page of the node that they say. -/
def pageOk (L : List UInt8) : Prop := rawOk L ∧ (rawN L).shaped = true ∧ (rawN L).size ≤ 1024 ∧ pageL (rawN L).toNd = L

/-- The block of the answer. -/
structure Dz (w wr : World) : Prop where
  below : Below w.heap.size w wr
  z : wr.heap[w.heap.size]? = some zNode

theorem Dz.on {w wr wr' : World} (h : Dz w wr) (hb : Below wr.heap.size wr wr') : Dz w wr' :=
  ⟨h.below.trans (hb.mono h.below.size), (hb.block _ (Array.getElem?_eq_some_iff.1 h.z).1).trans h.z⟩

theorem Dz.new (w : World) : Dz w (w.alloc zNode) := ⟨below_alloc _ _, heap_alloc_last _ _⟩

theorem Dz.out {w W : World} (h : Dz w W) (x y z : Value) : ROut w x y z (put3 W w.heap.size x y z) := by
  obtain ⟨c0, c1, c2⟩ := node_cells (put3_block h.z x y z)
  exact ⟨c0, c1, c2, put3_below h.below (Nat.le_refl _) x y z⟩

theorem Dz.fail {w W : World} (h : Dz w W) (x y z : Value) (ob : Obj) : ROut w x y z ((put3 W w.heap.size x y z).alloc ob) := by
  have hb : Below w.heap.size w (put3 W w.heap.size x y z) := put3_below h.below (Nat.le_refl _) x y z
  have hz := put3_block h.z x y z
  have ha := below_alloc (put3 W w.heap.size x y z) ob
  have hz2 := (ha.block _ (Array.getElem?_eq_some_iff.1 hz).1).trans hz
  obtain ⟨c0, c1, c2⟩ := node_cells hz2
  exact ⟨c0, c1, c2, hb.trans (ha.mono hb.size)⟩

/-- The node that was read, beside the answer's block. -/
structure Dx (w : World) (b : Nat) (L : List UInt8) (p : Nat) (x r k : Value) (wr : World) : Prop where
  dz : Dz w wr
  n : wr.heap[p]? = some (.cells #[x, r, k] 90 (0, 0))
  blk : RBlk wr b L
  o1 : wr.ownsRow w.heap.size 9 1 r (cntL L) (svs (rawN L).recs)
  o2 : wr.ownsRow w.heap.size 3 1 k (kidN L) (ivs (rawN L).kids)

theorem Dx.on {w : World} {b : Nat} {L : List UInt8} {p : Nat} {x r k : Value} {wr wr' : World} (h : Dx w b L p x r k wr) (hb : Below wr.heap.size wr wr') : Dx w b L p x r k wr' :=
  ⟨h.dz.on hb, (hb.block _ (Array.getElem?_eq_some_iff.1 h.n).1).trans h.n, (hb.block b h.blk.lt).trans h.blk, owns_below h.o1 hb, owns_below h.o2 hb⟩

theorem Dx.out {w W : World} {b : Nat} {L : List UInt8} {p : Nat} {x r k : Value} (h : Dx w b L p x r k W) : RRes w x r k (cntL L) (svs (rawN L).recs) (kidN L) (ivs (rawN L).kids) (put3 W w.heap.size x r k) :=
  ⟨h.dz.out x r k, owns_put3 h.o1 (by decide) h.dz.z x r k, owns_put3 h.o2 (by decide) h.dz.z x r k⟩

set_option maxRecDepth 100000 in
set_option maxHeartbeats 1000000 in
theorem decode_walk {b : Nat} {L : List UInt8} {w : World} (hb : RBlk w b L) (hl : L.length = 1024) :
    Calls Tryz.prog 103 #[.slice (some ⟨b, 0, none⟩) 1024 1024] w fun e w' => Below w.heap.size w w' ∧ ((pageOk L ∧ ∃ r k, e = .returned (.tuple #[.agg #[.bool (leafB L), r, k], .int .i64 0]) ∧ w'.ownsRow w.heap.size 9 1 r (cntL L) (svs (rawN L).recs) ∧ w'.ownsRow w.heap.size 3 1 k (kidN L) (ivs (rawN L).kids)) ∨ (¬ pageOk L ∧ e = .returned (.tuple #[.agg #[.bool false, .slice none 0 0, .slice none 0 0], .int .i64 16]))) := by
  have HB : Hid (RBlk w b L) := hb
  have HL : Hid (L.length = 1024) := hl
  clear hb hl
  go_enter Tryz.func103, Tryz.ntmps103
  go_wp2_with fail
  have H0 : Hid (Dz w (w.alloc (.cells #[.bool false, .slice none 0 0, .slice none 0 0] 90))) := Dz.new w
  refine (read_walk (L := L) (((below_alloc w _).block b HB.out.lt).trans HB.out) HL.out).mono ?_
  rintro e w1 ⟨B1, ⟨hok, r, k, rfl, O1, O2⟩ | ⟨hok, lf, x, m, q, rfl⟩⟩
  · obtain ⟨x1, q1, rfl, R1, _, _⟩ := owns_rd O1
    obtain ⟨x2, q2, rfl, R2, _, _⟩ := owns_rd O2
    have H1 : Hid (Dz w w1) := H0.out.on B1
    have HO1 := hidd (owns_base O1 H0.out.below.size)
    have HO2 := hidd (owns_base O2 H0.out.below.size)
    have HR : Hid (NR w1 (rawN L) x1 q1 x2 q2) := ⟨R1, R2⟩
    have HS := hidd (raw_small HL.out hok)
    clear B1 O1 O2 R1 R2 H0
    have z0 := (node_cells H1.out.z).1
    have z1 := (node_cells H1.out.z).2.1
    have z2 := (node_cells H1.out.z).2.2
    have zf : ∀ i, w1.frozen? ⟨w.heap.size, i, none⟩ = false := fun i => frozen_of_row _ _ _ _ _ H1.out.z
    have xl : w.heap.size < w1.heap.size := (Array.getElem?_eq_some_iff.1 H1.out.z).1
    go_wp2_with fail
    have B0 := below_alloc w1 (.cells #[.bool (leafB L), .slice x1 (cntL L) q1, .slice x2 (kidN L) q2] 90)
    have H2 : Hid (Dx w b L w1.heap.size (.bool (leafB L)) (.slice x1 (cntL L) q1) (.slice x2 (kidN L) q2) (w1.alloc (.cells #[.bool (leafB L), .slice x1 (cntL L) q1, .slice x2 (kidN L) q2] 90))) :=
      ⟨H1.out.on B0, heap_alloc_last _ _, (B0.block b (by have := HB.out.lt; omega)).trans ((H1.out.below.block b HB.out.lt).trans HB.out), owns_below HO1.out B0, owns_below HO2.out B0⟩
    have HR2 := hidd (HR.out.below B0)
    clear HR B0 HO1 HO2 H1 z0 z1 z2 zf
    have ev : Value.agg #[.bool (leafB L), .slice x1 (cntL L) q1, .slice x2 (kidN L) q2] = nodeV (rawN L) x1 q1 x2 q2 := by
      have e1 : (rawN L).recs.length = cntL L := recsL_length _ _ _
      have e2 : (rawN L).kids.length = kidN L := kidsL_length _ _ _
      unfold nodeV
      rw [e1, e2]
      rfl
    have HEN := hidd (fun h => encode_no HR2.out HS.out h)
    have HEL := hidd (fun h h2 => encode_long HR2.out HS.out h h2)
    have HEO := hidd (fun h h2 => encode_ok HR2.out HS.out h h2)
    rw [← ev] at HEN HEL HEO
    clear ev HR2
    generalize w1.alloc (.cells #[.bool (leafB L), .slice x1 (cntL L) q1, .slice x2 (kidN L) q2] 90) = w2 at H2 HEN HEL HEO ⊢
    generalize w1.heap.size = pn at H2 xl ⊢
    cases hsh : (rawN L).shaped
    · have HN : Hid (¬ pageOk L) := fun h => by have := h.2.1; rw [hsh] at this; cases this
      refine (HEN.out hsh).mono ?_
      rintro e w3 ⟨rfl, B3⟩
      have H3 := hidd (H2.out.on B3)
      clear H2 HEN HEL HEO xl B3
      have z0 := (node_cells H3.out.dz.z).1
      have z1 := (node_cells H3.out.dz.z).2.1
      have z2 := (node_cells H3.out.dz.z).2.2
      have zf : ∀ i, w3.frozen? ⟨w.heap.size, i, none⟩ = false := fun i => frozen_of_row _ _ _ _ _ H3.out.dz.z
      have xl : w.heap.size < w3.heap.size := (Array.getElem?_eq_some_iff.1 H3.out.dz.z).1
      go_wp2_with fail
      refine to_letter (H3.out.dz.out (.bool false) (.slice none 0 0) (.slice none 0 0)) ?_
      clear z0 z1 z2 zf H3 xl
      intro Wf hF
      obtain ⟨g0, g1, g2, hF⟩ := hF
      refine bodyPost_ret (v := .tuple #[.agg #[.bool false, .slice none 0 0, .slice none 0 0], .int .i64 16]) ?_ rfl ?_
      · simp [results, Tryz.results103, go_sem, g0, g1, g2]
      · exact ⟨hF, Or.inr ⟨HN.out, rfl⟩⟩
    by_cases hsz : 1024 < (rawN L).size
    · have HN : Hid (¬ pageOk L) := fun h => by have := h.2.2.1; omega
      refine (HEL.out hsh hsz).mono ?_
      rintro e w3 ⟨rfl, B3⟩
      have H3 := hidd (H2.out.on B3)
      clear H2 HEN HEL HEO xl B3
      have z0 := (node_cells H3.out.dz.z).1
      have z1 := (node_cells H3.out.dz.z).2.1
      have z2 := (node_cells H3.out.dz.z).2.2
      have zf : ∀ i, w3.frozen? ⟨w.heap.size, i, none⟩ = false := fun i => frozen_of_row _ _ _ _ _ H3.out.dz.z
      have xl : w.heap.size < w3.heap.size := (Array.getElem?_eq_some_iff.1 H3.out.dz.z).1
      go_wp2_with fail
      refine to_letter (H3.out.dz.out (.bool false) (.slice none 0 0) (.slice none 0 0)) ?_
      clear z0 z1 z2 zf H3 xl
      intro Wf hF
      obtain ⟨g0, g1, g2, hF⟩ := hF
      refine bodyPost_ret (v := .tuple #[.agg #[.bool false, .slice none 0 0, .slice none 0 0], .int .i64 16]) ?_ rfl ?_
      · simp [results, Tryz.results103, go_sem, g0, g1, g2]
      · exact ⟨hF, Or.inr ⟨HN.out, rfl⟩⟩
    · refine (HEO.out hsh (by omega)).mono ?_
      rintro e w3 ⟨b3, rfl, hb3, K3, B3⟩
      have H3 := hidd (H2.out.on B3)
      have HK3 := hidd K3
      have hln : (pageL (rawN L).toNd).length = 1024 := pageL_length (by rw [toNd_size]; omega)
      clear H2 HEN HEL HEO xl B3 K3
      go_wp2_with fail
      refine (equal_walk HK3.out H3.out.blk hln HL.out 1024 1024).mono ?_
      rintro e w4 ⟨rfl, B4⟩
      have H4 := hidd (H3.out.on B4)
      clear H3 HK3 B4
      have z0 := (node_cells H4.out.dz.z).1
      have z1 := (node_cells H4.out.dz.z).2.1
      have z2 := (node_cells H4.out.dz.z).2.2
      have zf : ∀ i, w4.frozen? ⟨w.heap.size, i, none⟩ = false := fun i => frozen_of_row _ _ _ _ _ H4.out.dz.z
      have xl : w.heap.size < w4.heap.size := (Array.getElem?_eq_some_iff.1 H4.out.dz.z).1
      by_cases heq : pageL (rawN L).toNd = L
      · have hbe : (pageL (rawN L).toNd == L) = true := by simpa using heq
        have y0 := (node_cells H4.out.n).1
        have y1 := (node_cells H4.out.n).2.1
        have y2 := (node_cells H4.out.n).2.2
        have yl : pn < w4.heap.size := (Array.getElem?_eq_some_iff.1 H4.out.n).1
        rw [hbe]
        go_wp2_with fail
        refine to_letter H4.out.out ?_
        clear y0 y1 y2 yl z0 z1 z2 zf H4
        intro Wf hF
        obtain ⟨⟨g0, g1, g2, hB⟩, r1, r2⟩ := hF
        refine bodyPost_ret (v := .tuple #[.agg #[.bool (leafB L), .slice x1 (cntL L) q1, .slice x2 (kidN L) q2], .int .i64 0]) ?_ rfl ?_
        · simp [results, Tryz.results103, go_sem, g0, g1, g2]
        · exact ⟨hB, Or.inl ⟨⟨hok, hsh, by omega, heq⟩, _, _, rfl, r1, r2⟩⟩
      · have hbe : (pageL (rawN L).toNd == L) = false := by simpa using heq
        have HN : Hid (¬ pageOk L) := fun h => heq h.2.2.2
        rw [hbe]
        go_wp2_with fail
        refine to_letter (H4.out.dz.out (.bool false) (.slice none 0 0) (.slice none 0 0)) ?_
        clear z0 z1 z2 zf H4 xl
        intro Wf hF
        obtain ⟨g0, g1, g2, hF⟩ := hF
        refine bodyPost_ret (v := .tuple #[.agg #[.bool false, .slice none 0 0, .slice none 0 0], .int .i64 16]) ?_ rfl ?_
        · simp [results, Tryz.results103, go_sem, g0, g1, g2]
        · exact ⟨hF, Or.inr ⟨HN.out, rfl⟩⟩
  · have H1 : Hid (Dz w w1) := H0.out.on B1
    have HN : Hid (¬ pageOk L) := fun h => hok h.1
    clear H0 B1
    have z0 := (node_cells H1.out.z).1
    have z1 := (node_cells H1.out.z).2.1
    have z2 := (node_cells H1.out.z).2.2
    have zf : ∀ i, w1.frozen? ⟨w.heap.size, i, none⟩ = false := fun i => frozen_of_row _ _ _ _ _ H1.out.z
    have xl : w.heap.size < w1.heap.size := (Array.getElem?_eq_some_iff.1 H1.out.z).1
    go_wp2_with fail
    refine to_letter (H1.out.fail (.bool false) (.slice none 0 0) (.slice none 0 0) _) ?_
    clear z0 z1 z2 zf H1 xl
    intro Wf hF
    obtain ⟨g0, g1, g2, hF⟩ := hF
    refine bodyPost_ret (v := .tuple #[.agg #[.bool false, .slice none 0 0, .slice none 0 0], .int .i64 16]) ?_ rfl ?_
    · simp [results, Tryz.results103, go_sem, g0, g1, g2]
    · exact ⟨hF, Or.inr ⟨HN.out, rfl⟩⟩
end Go.Proofs.YtfdfamjajhmihaaGreat.L5
/-
  What the bytes of a node's page say is the node.
-/
namespace Go.Proofs.YtfdfamjajhmihaaGreat.L5
open Go.RowKit

theorem byteAt_get (L : List UInt8) (i : Nat) (h : i < L.length) : byteAt L i = L[i].toNat := by
  unfold byteAt
  rw [List.getD_eq_getElem?_getD, List.getElem?_eq_getElem h]
  rfl

theorem cut_zero (L : List UInt8) (i : Nat) : cut L i 0 = [] := by simp [cut]

theorem num2_at (L : List UInt8) (i : Nat) (h : i + 2 ≤ L.length) : numL (cut L i 2) = at2 L i := by
  rw [cut_snoc L i 1 (by omega), numL_snoc, cut_snoc L i 0 (by omega), numL_snoc, cut_zero]
  unfold at2
  rw [byteAt_get L i (by omega), byteAt_get L (i + 1) (by omega)]
  simp [numL]

theorem num4_at (L : List UInt8) (i : Nat) (h : i + 4 ≤ L.length) : numL (cut L i 4) = at4 L i := by
  rw [cut_snoc L i 3 (by omega), numL_snoc, cut_snoc L i 2 (by omega), numL_snoc, cut_snoc L i 1 (by omega), numL_snoc, cut_snoc L i 0 (by omega), numL_snoc, cut_zero]
  unfold at4
  rw [byteAt_get L i (by omega), byteAt_get L (i + 1) (by omega), byteAt_get L (i + 2) (by omega), byteAt_get L (i + 3) (by omega)]
  simp [numL]

theorem cnt_at {L : List UInt8} (hl : L.length = 1024) : cntL L = at2 L 1 := num2_at L 1 (by omega)

theorem slot_at {L : List UInt8} (hl : L.length = 1024) : slotAt L = if byteAt L 0 == 1 then 3 else 3 + 4 * (at2 L 1 + 1) := by
  unfold slotAt kidN leafB
  rw [cnt_at hl]
  split <;> simp

theorem raw_read {L : List UInt8} (hl : L.length = 1024) (h : slotAt L + 4 * cntL L ≤ 1024) : (rawN L).toNd = readNd L := by
  have hc := cnt_at hl
  have hs := slot_at hl
  have e1 : (recsL L (slotAt L) (cntL L)).map (fun s => s.data.toList) = (List.range (at2 L 1)).map fun i => cut L (at2 L (slotAt L + 4 * i)) (at2 L (slotAt L + 4 * i + 2)) := by
    unfold recsL
    rw [List.map_map, hc]
    refine List.map_congr_left fun i hi => ?_
    have hi' : i < at2 L 1 := List.mem_range.1 hi
    have b1 : begL L (slotAt L) i = at2 L (slotAt L + 4 * i) := num2_at L _ (by omega)
    have b2 : lenL L (slotAt L) i = at2 L (slotAt L + 4 * i + 2) := num2_at L _ (by omega)
    show (cut L (begL L (slotAt L) i) (lenL L (slotAt L) i)).toArray.toList = _
    rw [b1, b2]
  have e2 : (kidsL L 3 (kidN L)).map Int.toNat = if byteAt L 0 == 1 then [] else (List.range (at2 L 1 + 1)).map fun i => at4 L (3 + 4 * i) := by
    unfold kidsL
    rw [List.map_map]
    have hk : kidN L = if byteAt L 0 == 1 then 0 else at2 L 1 + 1 := by unfold kidN leafB; rw [hc]
    have hle : 3 + 4 * kidN L ≤ 1024 := by unfold slotAt at h; omega
    have : (List.range (kidN L)).map (Int.toNat ∘ fun i => (numL (cut L (3 + 4 * i) 4) : Int)) = (List.range (kidN L)).map fun i => at4 L (3 + 4 * i) := by
      refine List.map_congr_left fun i hi => ?_
      have hi' : i < kidN L := List.mem_range.1 hi
      show (numL (cut L (3 + 4 * i) 4) : Int).toNat = _
      rw [num4_at L _ (by omega)]
      simp
    rw [this, hk]
    split <;> simp
  unfold No.toNd readNd
  show (⟨leafB L, (recsL L (slotAt L) (cntL L)).map (fun s => s.data.toList), (kidsL L 3 (kidN L)).map Int.toNat⟩ : Nd) = _
  rw [e1, e2, hs]
  rfl

theorem shaped_toNd {n : No} (h : n.shaped = true) : n.toNd.Shaped := by
  unfold No.shaped at h
  simp only [Bool.and_eq_true, List.all_eq_true, List.mem_range, beq_iff_eq] at h
  obtain ⟨⟨h1, h2⟩, h3⟩ := h
  refine ⟨?_, ?_, ?_⟩
  · show (n.kids.map Int.toNat).length = if n.leaf then 0 else (n.recs.map (·.data.toList)).length + 1
    simpa using h3
  · intro k hk
    obtain ⟨x, hx, rfl⟩ := List.mem_map.1 (show k ∈ n.kids.map Int.toNat from hk)
    have := h2 x hx
    unfold kidOk at this
    simp at this
    omega
  · intro r hr
    obtain ⟨s, hs, rfl⟩ := List.mem_map.1 (show r ∈ n.recs.map (·.data.toList) from hr)
    obtain ⟨i, hi, rfl⟩ := List.getElem_of_mem hs
    have := h1 i hi
    unfold recOk at this
    rw [List.getElem?_eq_getElem hi] at this
    simp at this
    have e : (n.recs[i]).data.toList.length = (n.recs[i]).size := by simp
    omega

theorem toNd_inj {n m : No} (hn : ∀ k ∈ n.kids, 0 ≤ k) (hm : ∀ k ∈ m.kids, 0 ≤ k) (h : n.toNd = m.toNd) : n = m := by
  have h1 : n.leaf = m.leaf := congrArg Nd.leaf h
  have h2 : n.recs.map (fun s => s.data.toList) = m.recs.map (fun s => s.data.toList) := congrArg Nd.recs h
  have h3 : n.kids.map Int.toNat = m.kids.map Int.toNat := congrArg Nd.kids h
  have e2 : n.recs = m.recs := by
    have := congrArg (List.map fun l : List UInt8 => (⟨l.toArray⟩ : ByteArray)) h2
    simpa [List.map_map, Function.comp_def] using this
  have e3 : n.kids = m.kids := by
    have := congrArg (List.map fun l : Nat => (l : Int)) h3
    rw [List.map_map, List.map_map] at this
    have f : ∀ l : List Int, (∀ k ∈ l, 0 ≤ k) → l.map ((fun l : Nat => (l : Int)) ∘ Int.toNat) = l := fun l hl => by
      conv => rhs; rw [← List.map_id l]
      refine List.map_congr_left fun k hk => ?_
      have := hl k hk
      show ((k.toNat : Nat) : Int) = k
      omega
    rwa [f _ hn, f _ hm] at this
  cases n; cases m
  simp_all

/-- A node that fits: its page says it. -/
theorem raw_page {n : No} (h : n.shaped = true) (hs : n.size ≤ 1024) : pageOk (pageL n.toNd) ∧ rawN (pageL n.toNd) = n := by
  have hS := shaped_toNd h
  have hz : n.toNd.size ≤ 1024 := by rw [toNd_size]; exact hs
  have hl := pageL_length hz
  obtain ⟨p1, p2, p3, p4⟩ := read_page hS hz
  have hk : n.toNd.kids.length = n.kids.length := by simp [No.toNd]
  have hr : n.toNd.recs.length = n.recs.length := by simp [No.toNd]
  have hc : cntL (pageL n.toNd) = n.recs.length := by rw [cnt_at hl, p3, hr]
  have hsl : slotAt (pageL n.toNd) = 3 + 4 * n.toNd.kids.length := by
    rw [slot_at hl, p2, p3, hS.kids]
    cases n.toNd.leaf <;> simp
  have hb : slotAt (pageL n.toNd) + 4 * cntL (pageL n.toNd) ≤ 1024 := by
    rw [hsl, hc]
    have : n.toNd.size = 3 + 4 * n.toNd.kids.length + (4 * n.toNd.recs.length + lens n.toNd.recs) := rfl
    omega
  have hraw : rawN (pageL n.toNd) = n := by
    refine toNd_inj ?_ ?_ (by rw [raw_read hl hb, p1])
    · intro k hk
      obtain ⟨i, _, rfl⟩ := List.mem_map.1 (show k ∈ (List.range (kidN (pageL n.toNd))).map fun i => (numL (cut (pageL n.toNd) (3 + 4 * i) 4) : Int) from hk)
      omega
    · intro k hk
      unfold No.shaped at h
      simp only [Bool.and_eq_true, List.all_eq_true] at h
      have := h.1.2 k hk
      unfold kidOk at this
      simp at this
      omega
  refine ⟨⟨⟨hb, fun i hi => ?_⟩, by rw [hraw]; exact h, by rw [hraw]; exact hs, by rw [hraw]⟩, hraw⟩
  rw [hc] at hi
  have := p4 i (by omega)
  unfold begL lenL
  rw [num2_at _ _ (by omega), num2_at _ _ (by omega), hsl, hl]
  exact this
end Go.Proofs.YtfdfamjajhmihaaGreat.L5
/-
  Decode of a right node's page: the node.
-/
namespace Go.Proofs.YtfdfamjajhmihaaGreat.L5
open Go.RowKit

theorem owns_at {W : World} {b : Nat} {e : TypeId} {v : Value} {n : Nat} {xs : List Value} (h : W.ownsRow b e 1 v n xs) : ∃ a cap, v = .slice a n cap := by
  obtain ⟨a, cap, h1, _⟩ := owns_rd h
  exact ⟨a, cap, h1⟩

theorem owns_rd_slice {W : World} {b : Nat} {e : TypeId} {a : Option Addr} {c n : Nat} {xs : List Value} (h : W.ownsRow b e 1 (.slice a n c) n xs) : Rd W a c xs := by
  obtain ⟨a', c', e', hr, _⟩ := owns_rd h
  cases e'
  exact hr

theorem decode_page {b : Nat} {n : No} {w : World} (hb : RBlk w b (pageL n.toNd)) (hs : n.shaped = true) (hz : n.size ≤ 1024) :
    Calls Tryz.prog 103 #[.slice (some ⟨b, 0, none⟩) 1024 1024] w fun e w' => ∃ a c a' c', e = .returned (.tuple #[nodeV n a c a' c', .int .i64 0]) ∧ w'.ownsRow w.heap.size 9 1 (.slice a n.recs.length c) n.recs.length (svs n.recs) ∧ w'.ownsRow w.heap.size 3 1 (.slice a' n.kids.length c') n.kids.length (ivs n.kids) ∧ Below w.heap.size w w' := by
  obtain ⟨hok, hraw⟩ := raw_page hs hz
  refine (decode_walk hb (pageL_length (by rw [toNd_size]; exact hz))).mono ?_
  rintro e w' ⟨B, ⟨_, r, k, rfl, o1, o2⟩ | ⟨hno, _⟩⟩
  · have e1 : leafB (pageL n.toNd) = n.leaf := congrArg No.leaf hraw
    rw [hraw] at o1 o2
    have l1 := o1.1
    have l2 := o2.1
    rw [svs_length, Nat.mul_one] at l1
    rw [ivs_length, Nat.mul_one] at l2
    rw [← l1] at o1
    rw [← l2] at o2
    obtain ⟨a, c, rfl⟩ := owns_at o1
    obtain ⟨a', c', rfl⟩ := owns_at o2
    exact ⟨a, c, a', c', by rw [e1]; rfl, o1, o2, B⟩
  · exact absurd hok hno
end Go.Proofs.YtfdfamjajhmihaaGreat.L5
