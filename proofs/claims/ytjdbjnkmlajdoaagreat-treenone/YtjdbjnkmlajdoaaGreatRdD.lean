/-
  read: a node out of a page's bytes, unchecked.
-/
import Derived.Test.YtjdbjnkmlajdoaaGreatRdC
namespace Go.Proofs.YtjdbjnkmlajdoaaGreat.L5
open Go.RowKit

theorem hidd {p : Prop} (h : p) : Hid p := h

/-- What a page's bytes say, unchecked. -/
def cntL (L : List UInt8) : Nat := numL (cut L 1 2)
def leafB (L : List UInt8) : Bool := byteAt L 0 == 1
def kidN (L : List UInt8) : Nat := if leafB L then 0 else cntL L + 1
def slotAt (L : List UInt8) : Nat := 3 + 4 * kidN L
def rawN (L : List UInt8) : No := ⟨leafB L, recsL L (slotAt L) (cntL L), kidsL L 3 (kidN L)⟩
def rawOk (L : List UInt8) : Prop := slotAt L + 4 * cntL L ≤ 1024 ∧ inL L (slotAt L) (cntL L)

set_option maxRecDepth 100000 in
set_option maxHeartbeats 400000 in
theorem read_no {a : Option Addr} {lb cap : Nat} {w : World} (h : lb ≠ 1024) :
    Calls Tryz.prog 128 #[.slice a lb cap] w fun e w' => Below w.heap.size w w' ∧ e = .returned (.tuple #[.agg #[.bool false, .slice none 0 0, .slice none 0 0], .bool false]) := by
  have h' : ¬ (lb : Int) = 1024 := by omega
  go_enter Tryz.func128, Tryz.ntmps128
  go_wp2
  refine bodyPost_ret (v := .tuple #[.agg #[.bool false, .slice none 0 0, .slice none 0 0], .bool false]) ?_ rfl ?_
  · simp [results, Tryz.results128, go_sem]
  · exact ⟨below_alloc _ _, rfl⟩

/-- The block of the answer, the page. -/
structure Rw (w : World) (b : Nat) (L : List UInt8) (wr : World) : Prop where
  below : Below w.heap.size w wr
  z : wr.heap[w.heap.size]? = some zNode
  blk : RBlk wr b L

theorem Rw.on {w : World} {b : Nat} {L : List UInt8} {wr wr' : World} (h : Rw w b L wr) (hb : Below wr.heap.size wr wr') : Rw w b L wr' :=
  ⟨h.below.trans (hb.mono h.below.size), (hb.block _ (Array.getElem?_eq_some_iff.1 h.z).1).trans h.z, (hb.block b h.blk.lt).trans h.blk⟩

theorem Rw.new {w : World} {b : Nat} {L : List UInt8} (h : RBlk w b L) : Rw w b L (w.alloc zNode) :=
  ⟨below_alloc _ _, heap_alloc_last _ _, ((below_alloc w zNode).block b h.lt).trans h⟩

def ROut (w : World) (x y z : Value) (W : World) : Prop :=
  W.cell? ⟨w.heap.size, 0, none⟩ = some x ∧ W.cell? ⟨w.heap.size, 1, none⟩ = some y ∧ W.cell? ⟨w.heap.size, 2, none⟩ = some z ∧ Below w.heap.size w W

theorem read_fail {w W : World} {b : Nat} {L : List UInt8} (h : Rw w b L W) (x y z : Value) (ob : Obj) : ROut w x y z ((put3 W w.heap.size x y z).alloc ob) := by
  have hb : Below w.heap.size w (put3 W w.heap.size x y z) := put3_below h.below (Nat.le_refl _) x y z
  have hz := put3_block h.z x y z
  have ha := below_alloc (put3 W w.heap.size x y z) ob
  have hz2 := (ha.block _ (Array.getElem?_eq_some_iff.1 hz).1).trans hz
  obtain ⟨c0, c1, c2⟩ := node_cells hz2
  exact ⟨c0, c1, c2, hb.trans (ha.mono hb.size)⟩

/-- The node that is filled. -/
structure Rx (w : World) (b : Nat) (L : List UInt8) (p : Nat) (x y z : Value) (wr : World) : Prop where
  rw : Rw w b L wr
  n : wr.heap[p]? = some (.cells #[x, y, z] 91 (0, 0))

theorem Rx.on {w : World} {b : Nat} {L : List UInt8} {p : Nat} {x y z : Value} {wr wr' : World} (h : Rx w b L p x y z wr) (hb : Below wr.heap.size wr wr') : Rx w b L p x y z wr' :=
  ⟨h.rw.on hb, (hb.block _ (Array.getElem?_eq_some_iff.1 h.n).1).trans h.n⟩

theorem Rw.node {w : World} {b : Nat} {L : List UInt8} {wr : World} (h : Rw w b L wr) (x y z : Value) : Rx w b L wr.heap.size x y z (wr.alloc (.cells #[x, y, z] 91)) :=
  ⟨h.on (below_alloc _ _), heap_alloc_last _ _⟩

theorem Rx.set {w : World} {b : Nat} {L : List UInt8} {p : Nat} {x y z : Value} {wr : World} (h : Rx w b L p x y z wr) (hp : w.heap.size < p) (hb : b ≠ p) (v : Value) (i : Nat) {cs : Array Value} (hcs : #[x, y, z].setIfInBounds i v = cs) :
    Rw w b L (wr.setCell ⟨p, i, none⟩ v) ∧ (wr.setCell ⟨p, i, none⟩ v).heap[p]? = some (.cells cs 91 (0, 0)) := by
  refine ⟨⟨h.rw.below.setCell (by show w.heap.size ≤ p; omega) v, ?_, ?_⟩, ?_⟩
  · rw [heap_setCell_other _ _ _ _ (by show w.heap.size ≠ p; omega)]; exact h.rw.z
  · unfold RBlk; rw [heap_setCell_other _ _ _ _ hb]; exact h.rw.blk
  · subst hcs; exact heap_setCell_same wr p i _ _ v h.n

/-- The answer, and its rows. -/
def RRes (w : World) (x r k : Value) (A : Nat) (l : List Value) (B : Nat) (ks : List Value) (W : World) : Prop :=
  ROut w x r k W ∧ W.ownsRow w.heap.size 9 1 r A l ∧ W.ownsRow w.heap.size 3 1 k B ks

theorem read_end {w W : World} {b : Nat} {L : List UInt8} {p : Nat} {x y z : Value} (h : Rx w b L p x y z W) (hp : w.heap.size < p) (hb : b ≠ p) {r : Value} {A B : Nat} {l ks : List Value} (h1 : W.ownsRow w.heap.size 9 1 r A l) (h2 : W.ownsRow w.heap.size 3 1 z B ks) : RRes w x r z A l B ks (put3 (W.setCell ⟨p, 1, none⟩ r) w.heap.size x r z) := by
  obtain ⟨s1, s2⟩ := h.set hp hb r 1 rfl
  have o1 := owns_node h1 (by decide) h.n 1 r
  have o2 := owns_node h2 (by decide) h.n 1 r
  obtain ⟨c0, c1, c2⟩ := node_cells (put3_block s1.z x r z)
  exact ⟨⟨c0, c1, c2, put3_below s1.below (Nat.le_refl _) x r z⟩, owns_put3 o1 (by decide) s1.z x r z, owns_put3 o2 (by decide) s1.z x r z⟩

set_option maxRecDepth 100000 in
set_option maxHeartbeats 1200000 in
theorem read_walk {b : Nat} {L : List UInt8} {w : World} (hb : RBlk w b L) (hl : L.length = 1024) :
    Calls Tryz.prog 128 #[.slice (some ⟨b, 0, none⟩) 1024 1024] w fun e w' => Below w.heap.size w w' ∧ ((rawOk L ∧ ∃ r k, e = .returned (.tuple #[.agg #[.bool (leafB L), r, k], .bool true]) ∧ w'.ownsRow w.heap.size 9 1 r (cntL L) (svs (rawN L).recs) ∧ w'.ownsRow w.heap.size 3 1 k (kidN L) (ivs (rawN L).kids)) ∨ (¬ rawOk L ∧ ∃ lf x m q, e = .returned (.tuple #[.agg #[.bool lf, .slice none 0 0, .slice x m q], .bool false]))) := by
  have HB : Hid (RBlk w b L) := hb
  have HL : Hid (L.length = 1024) := hl
  clear hb hl
  go_enter Tryz.func128, Tryz.ntmps128
  go_wp2_with fail
  have H0 : Hid (Rw w b L (w.alloc (.cells #[.bool false, .slice none 0 0, .slice none 0 0] 91))) := Rw.new HB.out
  refine (number_walk (L := L) H0.out.blk (by omega) (by have := HL.out; omega)).mono ?_
  rintro e w1 ⟨rfl, B1⟩
  have H1 : Hid (Rw w b L w1) := H0.out.on B1
  clear H0 B1
  have hc0 := H1.out.blk.cell 0 (by have := HL.out; omega)
  have z0 := (node_cells H1.out.z).1
  have z1 := (node_cells H1.out.z).2.1
  have z2 := (node_cells H1.out.z).2.2
  have zf : ∀ i, w1.frozen? ⟨w.heap.size, i, none⟩ = false := fun i => frozen_of_row _ _ _ _ _ H1.out.z
  have xl : w.heap.size < w1.heap.size := (Array.getElem?_eq_some_iff.1 H1.out.z).1
  have hcl := num2_lt L 1
  have HC : Hid (cntL L = numL (cut L 1 2)) := rfl
  generalize numL (cut L 1 2) = cn at hcl HC ⊢
  have hby : byteAt L 0 = (L[0]'(by have := HL.out; omega)).toNat := by unfold byteAt; rw [List.getD_eq_getElem?_getD, List.getElem?_eq_getElem (by have := HL.out; omega)]; rfl
  cases hlf : leafB L
  · have h01 : ¬ ((L[0]'(by have := HL.out; omega)).toNat : Int) = 1 := by
      have : ¬ byteAt L 0 = 1 := by simpa [leafB] using hlf
      rw [hby] at this
      omega
    clear hby
    generalize ((L[0]'(by have := HL.out; omega)).toNat : Int) = y at hc0 h01
    have h02 : (y == 1) = false := by simpa using h01
    by_cases hend : 3 + 4 * (cn + 1) + 4 * cn ≤ 1024
    · have j1 : (3 : Int) ≤ 3 + 4 * ((cn : Int) + 1) := by omega
      have j2 : 3 + 4 * ((cn : Int) + 1) ≤ 1024 := by omega
      have hend' : 3 + 4 * ((cn : Int) + 1) + 4 * (cn : Int) ≤ 1024 := by omega
      go_wp2_with fail
      have H2 : Hid (Rx w b L w1.heap.size (.bool false) (.slice none 0 0) (.slice none 0 0) (w1.alloc (.cells #[.bool false, .slice none 0 0, .slice none 0 0] 91))) := H1.out.node _ _ _
      refine (readKids_walk (L := L) (k := cn + 1) H2.out.rw.blk (by omega) (by omega) (by omega) (by have := HL.out; omega) (by omega)).mono ?_
      rintro e w2 ⟨v2, rfl, O2, B2⟩
      obtain ⟨x2, q2, rfl, _, _, _⟩ := owns_rd O2
      have H3 : Hid (Rx w b L w1.heap.size (.bool false) (.slice none 0 0) (.slice none 0 0) w2) := H2.out.on B2
      have HO2 : Hid (w2.ownsRow w.heap.size 3 1 (.slice x2 (cn + 1) q2) (cn + 1) ((kidsL L 3 (cn + 1)).map iv)) := owns_base O2 H2.out.rw.below.size
      clear z0 z1 z2 zf H2 O2 B2 hc0
      have y0 := (node_cells H3.out.n).1
      have y1 := (node_cells H3.out.n).2.1
      have y2 := (node_cells H3.out.n).2.2
      have yf : ∀ i, w2.frozen? ⟨w1.heap.size, i, none⟩ = false := fun i => frozen_of_row _ _ _ _ _ H3.out.n
      have yl : w1.heap.size < w2.heap.size := (Array.getElem?_eq_some_iff.1 H3.out.n).1
      have hbn : b ≠ w1.heap.size := fun e => by have := HB.out.lt; omega
      have i1 : 3 + 4 * ((cn : Int) + 1) ≤ 3 + 4 * ((cn : Int) + 1) + 4 * (cn : Int) := by omega
      have i2 : 3 + 4 * ((cn : Int) + 1) ≤ 1024 := by omega
      have i3 : (3 : Int) ≤ 3 + 4 * ((cn : Int) + 1) := by omega
      go_wp2_with fail
      have HS := hidd (H3.out.set xl hbn (.slice x2 (cn + 1) q2) 2 rfl)
      have HO3 := hidd (owns_node HO2.out (by decide) H3.out.n 2 (.slice x2 (cn + 1) q2))
      have H4 : Hid (Rx w b L w1.heap.size (.bool false) (.slice none 0 0) (.slice x2 (cn + 1) q2) (w2.setCell ⟨w1.heap.size, 2, none⟩ (.slice x2 (cn + 1) q2))) := ⟨HS.out.1, HS.out.2⟩
      clear HS H3 HO2 y0 y1 y2 yf yl
      generalize w2.setCell ⟨w1.heap.size, 2, none⟩ (.slice x2 (cn + 1) q2) = w3 at H4 HO3 ⊢
      refine (readRecs_walk (L := L) (k := cn) H4.out.rw.blk HL.out.symm rfl (by omega) (by omega) (by omega) (by omega) (by omega) (by omega)).mono ?_
      rintro e w4 ⟨B4, ⟨hin, v4, rfl, O4⟩ | ⟨hin, rfl⟩⟩
      · obtain ⟨x4, q4, rfl, _, _, _⟩ := owns_rd O4
        have H5 := hidd (H4.out.on B4)
        have HO4 := hidd (owns_base O4 H4.out.rw.below.size)
        have HO5 := hidd (owns_below HO3.out B4)
        clear O4 B4 HO3 H4
        have HI : Hid _ := hin
        clear hin
        have y0 := (node_cells H5.out.n).1
        have y1 := (node_cells H5.out.n).2.1
        have y2 := (node_cells H5.out.n).2.2
        have yf : ∀ i, w4.frozen? ⟨w1.heap.size, i, none⟩ = false := fun i => frozen_of_row _ _ _ _ _ H5.out.n
        have yl : w1.heap.size < w4.heap.size := (Array.getElem?_eq_some_iff.1 H5.out.n).1
        have z0 := (node_cells H5.out.rw.z).1
        have z1 := (node_cells H5.out.rw.z).2.1
        have z2 := (node_cells H5.out.rw.z).2.2
        have zf : ∀ i, w4.frozen? ⟨w.heap.size, i, none⟩ = false := fun i => frozen_of_row _ _ _ _ _ H5.out.rw.z
        have e1 := set_far (p := w1.heap.size) (q := w.heap.size) (by omega)
        have e2 := set_far (p := w.heap.size) (q := w1.heap.size) (by omega)
        go_wp2_with fail
        refine to_letter (read_end H5.out xl hbn HO4.out HO5.out) ?_
        clear y0 y1 y2 yf yl z0 z1 z2 zf e1 e2 H5 HO4 HO5
        intro Wf hF
        obtain ⟨⟨g0, g1, g2, hB⟩, r1, r2⟩ := hF
        refine bodyPost_ret (v := .tuple #[.agg #[.bool false, .slice x4 cn q4, .slice x2 (cn + 1) q2], .bool true]) ?_ rfl ?_
        · simp [results, Tryz.results128, go_sem, g0, g1, g2]
        · refine ⟨hB, Or.inl ⟨?_, _, _, by rw [hlf], ?_, ?_⟩⟩
          · unfold rawOk
            rw [show slotAt L = 3 + 4 * (cn + 1) by unfold slotAt kidN; rw [hlf, HC.out]; rfl, HC.out]
            exact ⟨hend, HI.out⟩
          · unfold rawN
            rw [show slotAt L = 3 + 4 * (cn + 1) by unfold slotAt kidN; rw [hlf, HC.out]; rfl, HC.out]
            exact r1
          · unfold rawN
            rw [show kidN L = cn + 1 by unfold kidN; rw [hlf, HC.out]; rfl]
            exact r2
      · have H5 := hidd (H4.out.on B4)
        have HO5 := hidd (owns_below HO3.out B4)
        clear B4 HO3 H4
        have HN : Hid (¬ rawOk L) := fun h => hin (by
          have := h.2
          rw [show slotAt L = 3 + 4 * (cn + 1) by unfold slotAt kidN; rw [hlf, HC.out]; rfl, HC.out] at this
          exact this)
        clear hin
        have y0 := (node_cells H5.out.n).1
        have y1 := (node_cells H5.out.n).2.1
        have y2 := (node_cells H5.out.n).2.2
        have yf : ∀ i, w4.frozen? ⟨w1.heap.size, i, none⟩ = false := fun i => frozen_of_row _ _ _ _ _ H5.out.n
        have yl : w1.heap.size < w4.heap.size := (Array.getElem?_eq_some_iff.1 H5.out.n).1
        have z0 := (node_cells H5.out.rw.z).1
        have z1 := (node_cells H5.out.rw.z).2.1
        have z2 := (node_cells H5.out.rw.z).2.2
        have zf : ∀ i, w4.frozen? ⟨w.heap.size, i, none⟩ = false := fun i => frozen_of_row _ _ _ _ _ H5.out.rw.z
        have e1 := set_far (p := w1.heap.size) (q := w.heap.size) (by omega)
        have e2 := set_far (p := w.heap.size) (q := w1.heap.size) (by omega)
        go_wp2_with fail
        refine to_letter (read_end (r := .slice none 0 0) H5.out xl hbn (World.ownsRow_nil _ _ _ _) HO5.out) ?_
        clear y0 y1 y2 yf yl z0 z1 z2 zf e1 e2 H5 HO5
        intro Wf hF
        obtain ⟨⟨g0, g1, g2, hB⟩, _, _⟩ := hF
        refine bodyPost_ret (v := .tuple #[.agg #[.bool false, .slice none 0 0, .slice x2 (cn + 1) q2], .bool false]) ?_ rfl ?_
        · simp [results, Tryz.results128, go_sem, g0, g1, g2]
        · exact ⟨hB, Or.inr ⟨HN.out, _, _, _, _, rfl⟩⟩
    · have hend' : 1024 < 3 + 4 * ((cn : Int) + 1) + 4 * (cn : Int) := by omega
      have HN : Hid (¬ rawOk L) := fun h => by
        have := h.1
        unfold slotAt kidN at this
        rw [hlf, HC.out] at this
        simp at this
        omega
      go_wp2_with fail
      refine to_letter (read_fail H1.out (.bool false) (.slice none 0 0) (.slice none 0 0) _) ?_
      clear z0 z1 z2 zf H1 xl hc0
      intro Wf hF
      obtain ⟨g0, g1, g2, hF⟩ := hF
      refine bodyPost_ret (v := .tuple #[.agg #[.bool false, .slice none 0 0, .slice none 0 0], .bool false]) ?_ rfl ?_
      · simp [results, Tryz.results128, go_sem, g0, g1, g2]
      · exact ⟨hF, Or.inr ⟨HN.out, _, _, _, _, rfl⟩⟩
  · have h01 : (L[0]'(by have := HL.out; omega)).toNat = 1 := by rw [← hby]; simpa [leafB] using hlf
    rw [h01] at hc0
    clear h01 hby
    by_cases hend : 3 + 4 * cn ≤ 1024
    · have hend' : 3 + 4 * (cn : Int) ≤ 1024 := by omega
      go_wp2_with fail
      have H2 : Hid (Rx w b L w1.heap.size (.bool true) (.slice none 0 0) (.slice none 0 0) (w1.alloc (.cells #[.bool true, .slice none 0 0, .slice none 0 0] 91))) := H1.out.node _ _ _
      refine (readKids_walk (L := L) (k := 0) H2.out.rw.blk (by omega) (by omega) (by omega) (by have := HL.out; omega) (by omega)).mono ?_
      rintro e w2 ⟨v2, rfl, O2, B2⟩
      obtain ⟨x2, q2, rfl, _, _, _⟩ := owns_rd O2
      have H3 : Hid (Rx w b L w1.heap.size (.bool true) (.slice none 0 0) (.slice none 0 0) w2) := H2.out.on B2
      have HO2 : Hid (w2.ownsRow w.heap.size 3 1 (.slice x2 0 q2) 0 ((kidsL L 3 0).map iv)) := owns_base O2 H2.out.rw.below.size
      clear z0 z1 z2 zf H2 O2 B2 hc0
      have y0 := (node_cells H3.out.n).1
      have y1 := (node_cells H3.out.n).2.1
      have y2 := (node_cells H3.out.n).2.2
      have yf : ∀ i, w2.frozen? ⟨w1.heap.size, i, none⟩ = false := fun i => frozen_of_row _ _ _ _ _ H3.out.n
      have yl : w1.heap.size < w2.heap.size := (Array.getElem?_eq_some_iff.1 H3.out.n).1
      have hbn : b ≠ w1.heap.size := fun e => by have := HB.out.lt; omega
      have i1 : (3 : Int) ≤ 3 + 4 * (cn : Int) := by omega
      go_wp2_with fail
      have HS := hidd (H3.out.set xl hbn (.slice x2 0 q2) 2 rfl)
      have HO3 := hidd (owns_node HO2.out (by decide) H3.out.n 2 (.slice x2 0 q2))
      have H4 : Hid (Rx w b L w1.heap.size (.bool true) (.slice none 0 0) (.slice x2 0 q2) (w2.setCell ⟨w1.heap.size, 2, none⟩ (.slice x2 0 q2))) := ⟨HS.out.1, HS.out.2⟩
      clear HS H3 HO2 y0 y1 y2 yf yl
      generalize w2.setCell ⟨w1.heap.size, 2, none⟩ (.slice x2 0 q2) = w3 at H4 HO3 ⊢
      refine (readRecs_walk (L := L) (k := cn) H4.out.rw.blk HL.out.symm rfl (by omega) (by omega) (by omega) (by omega) (by omega) (by omega)).mono ?_
      rintro e w4 ⟨B4, ⟨hin, v4, rfl, O4⟩ | ⟨hin, rfl⟩⟩
      · obtain ⟨x4, q4, rfl, _, _, _⟩ := owns_rd O4
        have H5 := hidd (H4.out.on B4)
        have HO4 := hidd (owns_base O4 H4.out.rw.below.size)
        have HO5 := hidd (owns_below HO3.out B4)
        clear O4 B4 HO3 H4
        have HI : Hid _ := hin
        clear hin
        have y0 := (node_cells H5.out.n).1
        have y1 := (node_cells H5.out.n).2.1
        have y2 := (node_cells H5.out.n).2.2
        have yf : ∀ i, w4.frozen? ⟨w1.heap.size, i, none⟩ = false := fun i => frozen_of_row _ _ _ _ _ H5.out.n
        have yl : w1.heap.size < w4.heap.size := (Array.getElem?_eq_some_iff.1 H5.out.n).1
        have z0 := (node_cells H5.out.rw.z).1
        have z1 := (node_cells H5.out.rw.z).2.1
        have z2 := (node_cells H5.out.rw.z).2.2
        have zf : ∀ i, w4.frozen? ⟨w.heap.size, i, none⟩ = false := fun i => frozen_of_row _ _ _ _ _ H5.out.rw.z
        have e1 := set_far (p := w1.heap.size) (q := w.heap.size) (by omega)
        have e2 := set_far (p := w.heap.size) (q := w1.heap.size) (by omega)
        go_wp2_with fail
        refine to_letter (read_end H5.out xl hbn HO4.out HO5.out) ?_
        clear y0 y1 y2 yf yl z0 z1 z2 zf e1 e2 H5 HO4 HO5
        intro Wf hF
        obtain ⟨⟨g0, g1, g2, hB⟩, r1, r2⟩ := hF
        refine bodyPost_ret (v := .tuple #[.agg #[.bool true, .slice x4 cn q4, .slice x2 0 q2], .bool true]) ?_ rfl ?_
        · simp [results, Tryz.results128, go_sem, g0, g1, g2]
        · refine ⟨hB, Or.inl ⟨?_, _, _, by rw [hlf], ?_, ?_⟩⟩
          · unfold rawOk
            rw [show slotAt L = 3 by unfold slotAt kidN; rw [hlf]; rfl, HC.out]
            exact ⟨hend, HI.out⟩
          · unfold rawN
            rw [show slotAt L = 3 by unfold slotAt kidN; rw [hlf]; rfl, HC.out]
            exact r1
          · unfold rawN
            rw [show kidN L = 0 by unfold kidN; rw [hlf]; rfl]
            exact r2
      · have H5 := hidd (H4.out.on B4)
        have HO5 := hidd (owns_below HO3.out B4)
        clear B4 HO3 H4
        have HN : Hid (¬ rawOk L) := fun h => hin (by
          have := h.2
          rw [show slotAt L = 3 by unfold slotAt kidN; rw [hlf]; rfl, HC.out] at this
          exact this)
        clear hin
        have y0 := (node_cells H5.out.n).1
        have y1 := (node_cells H5.out.n).2.1
        have y2 := (node_cells H5.out.n).2.2
        have yf : ∀ i, w4.frozen? ⟨w1.heap.size, i, none⟩ = false := fun i => frozen_of_row _ _ _ _ _ H5.out.n
        have yl : w1.heap.size < w4.heap.size := (Array.getElem?_eq_some_iff.1 H5.out.n).1
        have z0 := (node_cells H5.out.rw.z).1
        have z1 := (node_cells H5.out.rw.z).2.1
        have z2 := (node_cells H5.out.rw.z).2.2
        have zf : ∀ i, w4.frozen? ⟨w.heap.size, i, none⟩ = false := fun i => frozen_of_row _ _ _ _ _ H5.out.rw.z
        have e1 := set_far (p := w1.heap.size) (q := w.heap.size) (by omega)
        have e2 := set_far (p := w.heap.size) (q := w1.heap.size) (by omega)
        go_wp2_with fail
        refine to_letter (read_end (r := .slice none 0 0) H5.out xl hbn (World.ownsRow_nil _ _ _ _) HO5.out) ?_
        clear y0 y1 y2 yf yl z0 z1 z2 zf e1 e2 H5 HO5
        intro Wf hF
        obtain ⟨⟨g0, g1, g2, hB⟩, _, _⟩ := hF
        refine bodyPost_ret (v := .tuple #[.agg #[.bool true, .slice none 0 0, .slice x2 0 q2], .bool false]) ?_ rfl ?_
        · simp [results, Tryz.results128, go_sem, g0, g1, g2]
        · exact ⟨hB, Or.inr ⟨HN.out, _, _, _, _, rfl⟩⟩
    · have hend' : 1024 < 3 + 4 * (cn : Int) := by omega
      have HN : Hid (¬ rawOk L) := fun h => by
        have := h.1
        unfold slotAt kidN at this
        rw [hlf, HC.out] at this
        simp at this
        omega
      go_wp2_with fail
      refine to_letter (read_fail H1.out (.bool false) (.slice none 0 0) (.slice none 0 0) _) ?_
      clear z0 z1 z2 zf H1 xl hc0
      intro Wf hF
      obtain ⟨g0, g1, g2, hF⟩ := hF
      refine bodyPost_ret (v := .tuple #[.agg #[.bool false, .slice none 0 0, .slice none 0 0], .bool false]) ?_ rfl ?_
      · simp [results, Tryz.results128, go_sem, g0, g1, g2]
      · exact ⟨hF, Or.inr ⟨HN.out, _, _, _, _, rfl⟩⟩
end Go.Proofs.YtjdbjnkmlajdoaaGreat.L5
