/-
  PageReads: its walk.
-/
import Derived.Test.YtpmagonmfaaihaaRdJ
import Derived.Test.YtpmagonmfaaihaaSpI
import Derived.Test.YtpmagonmfaaihaaRfRd
import Derived.Laws.BitsAllLaws
import Derived.Test.YtpmagonmfaaihaaQuietTail
namespace Go.Proofs.Ytpmagonmfaaihaa
open Go.RowKit

/-- Places and bytes that lie one behind the other. -/
def Spots (W : World) (a : Option Addr) (l : List (Int × UInt8)) : Prop := ∀ j (h : j < l.length), ∃ b o, a = some ⟨b, o, none⟩ ∧ b < W.heap.size ∧ W.cell? ⟨b, o + j * 2, none⟩ = some (.int .i64 l[j].1) ∧ W.cell? ⟨b, o + j * 2 + 1, none⟩ = some (.int .u8 (l[j].2.toNat : Int))

theorem Spots.below {W W' : World} {a : Option Addr} {l : List (Int × UInt8)} (h : Spots W a l) (hb : Below W.heap.size W W') : Spots W' a l := fun j hj => by
  obtain ⟨b, o, h1, h2, h3, h4⟩ := h j hj
  exact ⟨b, o, h1, Nat.lt_of_lt_of_le h2 hb.size, by rw [hb.cell h2]; exact h3, by rw [hb.cell h2]; exact h4⟩

theorem Nq.set {w : World} {n : No} {a : Option Addr} {c : Nat} {a' : Option Addr} {c' : Nat} {wr : World} (h : Nq w n a c a' c' wr) (hr : NR w n a c a' c') {p : Nat} (hp : w.heap.size < p) (i : Nat) (v : Value) : Nq w n a c a' c' (wr.setCell ⟨p, i, none⟩ v) := by
  have hb : Below w.heap.size w (wr.setCell ⟨p, i, none⟩ v) := h.bx.below.setCell (show w.heap.size ≤ p by omega) v
  have hblk : (wr.setCell ⟨p, i, none⟩ v).heap[w.heap.size]? = wr.heap[w.heap.size]? := heap_setCell_other _ _ _ _ (show w.heap.size ≠ p by omega)
  have hc : ∀ o, (wr.setCell ⟨p, i, none⟩ v).cell? ⟨w.heap.size, o, none⟩ = wr.cell? ⟨w.heap.size, o, none⟩ := fun o => World.cell?_of_block hblk
  exact ⟨⟨hb, by rw [hc]; exact h.bx.c0, by rw [hc]; exact h.bx.c1, by rw [hc]; exact h.bx.c2, by simpa [World.setCell] using h.bx.lt⟩, hr.below hb⟩

theorem xor_byte (x y : UInt8) : bits .xor .u8 (x.toNat : Int) (y.toNat : Int) = ((x ^^^ y).toNat : Int) := by
  rw [u8_xor_nat _ _ (UInt8.toNat_lt x) (UInt8.toNat_lt y), UInt8.toNat_xor]

/-- What Decode and the document's Read make of the same bytes. -/
theorem page_both {L : List UInt8} (hl : L.length = 1024) : ∃ (N : No) (ok : Bool) (er : Int), ((ok = true ∧ er = 0) ∨ (ok = false ∧ er = 16)) ∧ N.small ∧
    (∀ (w : World) (b : Nat), Blk w b L → Calls Try.prog 14 #[.slice (some ⟨b, 0, none⟩) 1024 1024] w fun e w' => ∃ a c a' c', e = .returned (.tuple #[nodeV N a c a' c', .int .i64 er]) ∧ NR w' N a c a' c' ∧ Below w.heap.size w w') ∧
    (∀ (w : World) (b : Nat), Blk w b L → Calls Try.prog 17 #[.slice (some ⟨b, 0, none⟩) 1024 1024] w fun e w' => ∃ a c a' c', e = .returned (.tuple #[nodeV N a c a' c', .bool ok]) ∧ NR w' N a c a' c' ∧ Below w.heap.size w w') := by
  have key : ∀ (w w' : World) (r k : Value), w'.ownsRow w.heap.size 9 1 r (cntL L) (svs (rawN L).recs) → w'.ownsRow w.heap.size 3 1 k (kidN L) (ivs (rawN L).kids) → ∃ a c a' c', Value.agg #[.bool (leafB L), r, k] = nodeV (rawN L) a c a' c' ∧ NR w' (rawN L) a c a' c' := by
    intro w w' r k o1 o2
    have l1 := o1.1
    have l2 := o2.1
    rw [svs_length, Nat.mul_one] at l1
    rw [ivs_length, Nat.mul_one] at l2
    rw [← l1] at o1
    rw [← l2] at o2
    obtain ⟨a, c, rfl, h1, _⟩ := owns_rd o1
    obtain ⟨a', c', rfl, h2, _⟩ := owns_rd o2
    exact ⟨a, c, a', c', rfl, h1, h2⟩
  by_cases hok : pageOk L
  · refine ⟨rawN L, true, 0, Or.inl ⟨rfl, rfl⟩, raw_small hl hok.1, fun w b hb => (decode_walk hb hl).mono ?_, fun w b hb => (refread_walk hb hl).mono ?_⟩
    all_goals
      rintro e w' ⟨B, ⟨_, r, k, rfl, o1, o2⟩ | ⟨hno, _⟩⟩
      · obtain ⟨a, c, a', c', e1, h1⟩ := key w w' r k o1 o2
        exact ⟨a, c, a', c', by rw [e1], h1, B⟩
      · exact absurd hok hno
  · refine ⟨⟨false, [], []⟩, false, 16, Or.inr ⟨rfl, rfl⟩, ⟨by simp, by simp, fun s hs => by simp at hs⟩, fun w b hb => (decode_walk hb hl).mono ?_, fun w b hb => (refread_walk hb hl).mono ?_⟩
    all_goals
      rintro e w' ⟨B, ⟨hyes, _⟩ | ⟨_, rfl⟩⟩
      · exact absurd hyes hok
      · exact ⟨none, 0, none, 0, rfl, ⟨rd_nil _, rd_nil _⟩, B⟩

/-- The node, the page, both nodes that were read. -/
structure Vr (w : World) (n : No) (a : Option Addr) (c : Nat) (a' : Option Addr) (c' : Nat) (p4 : Nat) (PL : List UInt8) (N : No) (pm : Nat) (ma : Option Addr) (mc : Nat) (ma' : Option Addr) (mc' : Nat) (pw : Nat) (wa : Option Addr) (wc : Nat) (wa' : Option Addr) (wc' : Nat) (wr : World) : Prop where
  nq : Nq w n a c a' c' wr
  blk : Blk wr p4 PL
  bm : wr.heap[pm]? = some (.cells #[.bool N.leaf, .slice ma N.recs.length mc, .slice ma' N.kids.length mc'] 25 (0, 0))
  bw : wr.heap[pw]? = some (.cells #[.bool N.leaf, .slice wa N.recs.length wc, .slice wa' N.kids.length wc'] 28 (0, 0))
  nm : NR wr N ma mc ma' mc'
  nw : NR wr N wa wc wa' wc'

theorem Vr.on {w : World} {n : No} {a : Option Addr} {c : Nat} {a' : Option Addr} {c' : Nat} {p4 : Nat} {PL : List UInt8} {N : No} {pm : Nat} {ma : Option Addr} {mc : Nat} {ma' : Option Addr} {mc' : Nat} {pw : Nat} {wa : Option Addr} {wc : Nat} {wa' : Option Addr} {wc' : Nat} {wr wr' : World} (h : Vr w n a c a' c' p4 PL N pm ma mc ma' mc' pw wa wc wa' wc' wr) (hb : Below wr.heap.size wr wr') : Vr w n a c a' c' p4 PL N pm ma mc ma' mc' pw wa wc wa' wc' wr' :=
  ⟨h.nq.on hb, (hb.block _ (Blk.lt h.blk)).trans h.blk, (hb.block _ (Array.getElem?_eq_some_iff.1 h.bm).1).trans h.bm, (hb.block _ (Array.getElem?_eq_some_iff.1 h.bw).1).trans h.bw, h.nm.below hb, h.nw.below hb⟩

theorem owns_blk {W : World} {b : Nat} {L : List UInt8} (h : Blk W b L) (hl : L.length ≤ 100000) (B : Nat) (hB : B ≤ b) : W.ownsRow B 5 1 (.slice (some ⟨b, 0, none⟩) L.length L.length) L.length (bcs L) :=
  ⟨by rw [bcs_length, Nat.mul_one], Or.inr ⟨b, L.length, _, rfl, hB, h, Nat.le_refl _, by unfold maxLen; omega, by simp [bcs_length], by rw [Nat.mul_one, List.take_of_length_le (by simp [bcs_length])]⟩⟩

set_option maxRecDepth 100000 in
set_option maxHeartbeats 2000000 in
theorem pgreads_walk {n : No} {a : Option Addr} {c : Nat} {a' : Option Addr} {c' : Nat} {w : World} (hr : NR w n a c a' c') {la : Option Addr} {lc : Nat} {l : List (Int × UInt8)} (hl : Spots w la l) (ct : Nat) (hct : ct < 65536) :
    Calls Try.prog 4 #[nodeV n a c a' c', .slice la l.length lc, .int .u16 (ct : Int)] w fun e w' => e = .returned (.bool true) ∧ Below w.heap.size w w' := by
  have HN : Hid (Nq w n a c a' c' (w.alloc (.cells #[.bool n.leaf, .slice a n.recs.length c, .slice a' n.kids.length c'] 25))) := Nq.new hr _
  have HS := hidf hl
  have HR := hidf hr
  clear hr hl
  go_enter Try.func4, Try.ntmps4
  unfold nodeV
  go_wp2_with fail
  refine (awake_walk _).mono ?_
  rintro e w1 ⟨rfl, B1⟩
  have HN1 : Hid (Nq w n a c a' c' w1) := HN.out.on B1
  have c0 := HN1.out.bx.c0
  have c1 := HN1.out.bx.c1
  have c2 := HN1.out.bx.c2
  have xl := HN1.out.bx.lt
  clear HN B1
  go_wp2_with fail
  refine (great_walk (n := n) HN1.out.nr).mono ?_
  rintro e w2 ⟨rfl, B2⟩
  have HN2 : Hid (Nq w n a c a' c' w2) := HN1.out.on B2
  clear c0 c1 c2 xl HN1 B2
  have c0 := HN2.out.bx.c0
  have c1 := HN2.out.bx.c1
  have c2 := HN2.out.bx.c2
  have xl := HN2.out.bx.lt
  cases hg : greatB n
  · have hsm := small_of_great hg
    clear hg
    go_wp2_with fail
    refine (right_walk (n := n) HN2.out.nr hsm).mono ?_
    rintro e w3 ⟨rfl, B3⟩
    have HN3 : Hid (Nq w n a c a' c' w3) := HN2.out.on B3
    clear c0 c1 c2 xl HN2 B3
    have c0 := HN3.out.bx.c0
    have c1 := HN3.out.bx.c1
    have c2 := HN3.out.bx.c2
    have xl := HN3.out.bx.lt
    cases hrt : (n.shaped && decide (n.size ≤ 1024))
    · go_wp2
      go_ret
      exact ⟨rfl, HN3.out.bx.below⟩
    rw [Bool.and_eq_true, decide_eq_true_eq] at hrt
    obtain ⟨hshp, hsz⟩ := hrt
    by_cases hl20 : 20 < l.length
    · have hl20' : (20 : Int) < (l.length : Int) := by omega
      go_wp2
      go_ret
      exact ⟨rfl, HN3.out.bx.below⟩
    have hl20' : (l.length : Int) ≤ 20 := by omega
    go_wp2_with fail
    refine (encode_ok (n := n) HN3.out.nr hsm hshp hsz).mono ?_
    rintro e w4 ⟨p4, rfl, hp4, K4, B4⟩
    have HN4 := hidf (HN3.out.on B4)
    have HK4 := hidf K4
    have HPL := hidf (pageL_length (n := n.toNd) (by rw [toNd_size]; exact hsz))
    have hge : w.heap.size < p4 := by have := HN3.out.bx.lt; omega
    clear c0 c1 c2 xl HN3 B4 K4 hp4
    generalize pageL n.toNd = PL at HK4 HPL
    go_wp2_with fail
    go_loopw [47] (fun i wr => ∃ j : Nat, j ≤ l.length ∧ i = .int .i64 (j : Int) ∧ ∃ M : List UInt8, Hid (Nq w n a c a' c' wr) ∧ Hid (Blk wr p4 M) ∧ Hid (M.length = 1024)) (fun i _ => l.length - (intOf i).toNat)
    case atStart => exact ⟨0, Nat.zero_le _, rfl, PL, HN4, HK4, HPL⟩
    case round =>
      clear HN4 HK4 HPL PL
      obtain ⟨j, hj, rfl, PL, HN, HK, HPL⟩ := hrel
      by_cases hlt : j < l.length
      · have hlt' : (j : Int) < (l.length : Int) := by omega
        obtain ⟨b, o, rfl, hbn, hs1, hs2⟩ := (HS.out.below HN.out.bx.below) j hlt
        generalize l[j].1 = x at hs1
        generalize l[j].2 = y at hs2
        by_cases hx : 0 ≤ x ∧ x < 1024
        · have hx1 : 0 ≤ x := hx.1
          have hx2 : x < 1024 := hx.2
          obtain ⟨xn, rfl⟩ : ∃ xn : Nat, x = (xn : Int) := ⟨x.toNat, by omega⟩
          have hx2' : xn < 1024 := by omega
          go_wp2_with fail
          have HN5 := hidf (HN.out.on (below_alloc wr (.cells #[.int .i64 (xn : Int), .int .u8 (y.toNat : Int)] 44)))
          have HK5 : Hid (Blk (wr.alloc (.cells #[.int .i64 (xn : Int), .int .u8 (y.toNat : Int)] 44)) p4 PL) := ((below_alloc wr (.cells #[.int .i64 (xn : Int), .int .u8 (y.toNat : Int)] 44)).block _ (Blk.lt HK.out)).trans HK.out
          have q0 : (wr.alloc (.cells #[.int .i64 (xn : Int), .int .u8 (y.toNat : Int)] 44)).cell? ⟨wr.heap.size, 0, none⟩ = some (.int .i64 (xn : Int)) := by simp [go_sem]
          have q1 : (wr.alloc (.cells #[.int .i64 (xn : Int), .int .u8 (y.toNat : Int)] 44)).cell? ⟨wr.heap.size, 1, none⟩ = some (.int .u8 (y.toNat : Int)) := by simp [go_sem]
          have ql : wr.heap.size < (wr.alloc (.cells #[.int .i64 (xn : Int), .int .u8 (y.toNat : Int)] 44)).heap.size := by simp
          clear HN HK hs1 hs2 hbn
          generalize wr.alloc (.cells #[.int .i64 (xn : Int), .int .u8 (y.toNat : Int)] 44) = W5 at *
          generalize wr.heap.size = qx at *
          have g0 := HK5.out.cell xn (by have := HPL.out; omega)
          have g1 := HK5.out.frozen xn
          have g2 := HK5.out.lt
          generalize PL[xn]'(by have := HPL.out; omega) = gb at g0
          have hxor := xor_byte gb y
          refine wp_region_quiet_tail (fun w' => ∃ n, w' = World.drewN W5 n) 8 (by kernel_rfl) (by kernel_rfl) ⟨1, rfl⟩ ?_
          simp only [List.take_succ_cons, List.take_zero, List.drop_succ_cons, List.drop_zero]
          repeat (go_big_quiet_step (fail))
          refine wpQuiet_nil ?_
          rintro _ ⟨nq, rfl⟩
          go_wp2_with fail
          rw [← UInt8.toNat_xor]
          have HN6 := hidf ((HN5.out.on (below_drewN (Below.refl _ _) nq)).set HR.out hge xn (.int .u8 ((gb ^^^ y).toNat : Int)))
          have HK6 := hidf (Blk.set (W := W5.drewN nq) HK5.out xn (gb ^^^ y))
          exact ⟨⟨j + 1, by omega, by go_num, PL.set xn (gb ^^^ y), HN6, HK6, by show _ = _; rw [List.length_set]; exact HPL.out⟩, by simp [intOf]; omega⟩
        · have HN5 := hidf (HN.out.on (below_alloc wr (.cells #[.int .i64 x, .int .u8 (y.toNat : Int)] 44)))
          have HK5 : Hid (Blk (wr.alloc (.cells #[.int .i64 x, .int .u8 (y.toNat : Int)] 44)) p4 PL) := ((below_alloc wr (.cells #[.int .i64 x, .int .u8 (y.toNat : Int)] 44)).block _ (Blk.lt HK.out)).trans HK.out
          by_cases hx0 : 0 ≤ x
          · have hx2 : (1024 : Int) ≤ x := by omega
            have d2 : decide (x < 1024) = false := by rw [decide_eq_false_iff_not]; omega
            go_wp2_with fail
            exact ⟨⟨j + 1, by omega, by go_num, PL, HN5, HK5, HPL⟩, by simp [intOf]; omega⟩
          · have hx2 : x < 0 := by omega
            have d1 : decide (0 ≤ x) = false := by rw [decide_eq_false_iff_not]; omega
            go_wp2_with fail
            exact ⟨⟨j + 1, by omega, by go_num, PL, HN5, HK5, HPL⟩, by simp [intOf]; omega⟩
      · have hlt' : (l.length : Int) ≤ (j : Int) := by omega
        obtain ⟨N, ok, er, hoe, hNs, HD, HRd⟩ := page_both HPL.out
        have HDD := hidf HD
        have HRR := hidf HRd
        clear HD HRd
        go_wp2_with fail
        refine (HDD.out _ p4 HK.out).mono ?_
        rintro e w5 ⟨ma, mc, ma', mc', rfl, hm5, B5⟩
        have HN5 := hidf (HN.out.on (below_on B5 (below_alloc w5 (.cells #[.bool N.leaf, .slice ma N.recs.length mc, .slice ma' N.kids.length mc'] 25))))
        have HK5 : Hid (Blk (w5.alloc (.cells #[.bool N.leaf, .slice ma N.recs.length mc, .slice ma' N.kids.length mc'] 25)) p4 PL) := ((below_on B5 (below_alloc _ _)).block _ (Blk.lt HK.out)).trans HK.out
        have HM5 := hidf (hm5.below (below_alloc w5 (.cells #[.bool N.leaf, .slice ma N.recs.length mc, .slice ma' N.kids.length mc'] 25)))
        have HB5 : Hid ((w5.alloc (.cells #[.bool N.leaf, .slice ma N.recs.length mc, .slice ma' N.kids.length mc'] 25)).heap[w5.heap.size]? = some (.cells #[.bool N.leaf, .slice ma N.recs.length mc, .slice ma' N.kids.length mc'] 25 (0, 0))) := heap_alloc_last _ _
        clear HN HK B5 hm5 HDD
        unfold nodeV
        go_wp2_with fail
        generalize w5.alloc (.cells #[.bool N.leaf, .slice ma N.recs.length mc, .slice ma' N.kids.length mc'] 25) = W5 at HN5 HK5 HM5 HB5 ⊢
        generalize w5.heap.size = pm at HB5 ⊢
        refine (HRR.out _ p4 HK5.out).mono ?_
        rintro e w6 ⟨wa, wc, wa', wc', rfl, hm6, B6⟩
        have B6' := below_on B6 (below_alloc w6 (.cells #[.bool N.leaf, .slice wa N.recs.length wc, .slice wa' N.kids.length wc'] 28))
        have HX := hidf (Vr.mk (HN5.out.on B6') ((B6'.block _ (Blk.lt HK5.out)).trans HK5.out) ((B6'.block _ (Array.getElem?_eq_some_iff.1 HB5.out).1).trans HB5.out) (heap_alloc_last _ _) (HM5.out.below B6') (hm6.below (below_alloc w6 (.cells #[.bool N.leaf, .slice wa N.recs.length wc, .slice wa' N.kids.length wc'] 28))))
        clear HN5 HK5 HM5 HB5 B6 B6' hm6 HRR
        unfold nodeV
        go_wp2_with fail
        generalize w6.alloc (.cells #[.bool N.leaf, .slice wa N.recs.length wc, .slice wa' N.kids.length wc'] 28) = W9 at HX ⊢
        generalize w6.heap.size = pw at HX ⊢
        have PA := hidf (fun (W : World) => plain_walk (n := N) (a := ma) (c := mc) (a' := ma') (c' := mc') (w := W))
        have SC := hidf (fun (W : World) (hb' : Below W9.heap.size W9 W) => same_walk (HX.out.on hb').nm (HX.out.on hb').nw hNs)
        unfold nodeV at PA SC
        have HKS := hidf (fun (W : World) (hb' : Below W9.heap.size W9 W) => show (W.cell? ⟨pm, 0, none⟩ = some (.bool N.leaf) ∧ W.cell? ⟨pm, 1, none⟩ = some (.slice ma N.recs.length mc) ∧ W.cell? ⟨pm, 2, none⟩ = some (.slice ma' N.kids.length mc')) ∧ (W.cell? ⟨pw, 0, none⟩ = some (.bool N.leaf) ∧ W.cell? ⟨pw, 1, none⟩ = some (.slice wa N.recs.length wc) ∧ W.cell? ⟨pw, 2, none⟩ = some (.slice wa' N.kids.length wc')) from ⟨node_cells (HX.out.on hb').bm, node_cells (HX.out.on hb').bw⟩)
        have HBW := hidf (fun (W : World) (hb' : Below W9.heap.size W9 W) => HX.out.on hb')
        clear HX
        have tb0 : Below W9.heap.size W9 W9.drew := (Below.refl _ _).drew
        rcases hoe with ⟨rfl, rfl⟩ | ⟨rfl, rfl⟩
        all_goals
          go_region_held (fun W => (W.cell? ⟨pm, 0, none⟩ = some (.bool N.leaf) ∧ W.cell? ⟨pm, 1, none⟩ = some (.slice ma N.recs.length mc) ∧ W.cell? ⟨pm, 2, none⟩ = some (.slice ma' N.kids.length mc')) ∧ (W.cell? ⟨pw, 0, none⟩ = some (.bool N.leaf) ∧ W.cell? ⟨pw, 1, none⟩ = some (.slice wa N.recs.length wc) ∧ W.cell? ⟨pw, 2, none⟩ = some (.slice wa' N.kids.length wc'))) (exact HKS.out _ (by assumption)) (first
            | (go_at_call 8; with_reducible refine (PA.out _).mono ?_; rintro e wb ⟨rfl, Bb⟩; have tb1 : Below W9.heap.size W9 wb := below_on tb0 Bb; clear PA Bb)
            | (go_at_call 16; with_reducible refine (SC.out _ tb1).mono ?_; rintro e wc ⟨rfl, Bc⟩; have tb2 : Below W9.heap.size W9 wc := below_on tb1 Bc; clear SC Bc))
          have HX := hidf (HBW.out _ tb2)
          clear HKS HBW tb0 tb1 tb2
          go_wp2_with fail
          refine (decode_no (by omega : ct % 1024 ≠ 1024)).mono ?_
          rintro e w8 ⟨B8, rfl⟩
          have HX8 := hidf (HX.out.on B8)
          clear HX B8
          go_wp2_with (first
            | (at_builtin
               revert HX8)
            | fail)
          intro HX8
          have HX8b := hidf (HX8.out.on (below_alloc w8 (.cells #[.bool false, .slice none 0 0, .slice none 0 0] 25)))
          clear HX8
          have e8 : (w8.alloc (.cells #[.bool false, .slice none 0 0, .slice none 0 0] 25)).heap.size = w8.heap.size + 1 := by simp
          generalize w8.alloc (.cells #[.bool false, .slice none 0 0, .slice none 0 0] 25) = w8b at HX8b e8 ⊢
          have HX9 := hidf (HX8b.out.on (below_alloc w8b (.cells #[.int .u8 0] 5)))
          have HO9 := hidf (owns_blk HX9.out.blk (by rw [HPL.out]; omega) (w.heap.size + 1) (by omega))
          rw [HPL.out] at HO9
          refine append_row (z := .int .u8 0) (by_ := 1) Try.underlying31 (by kernel_rfl) (by decide) rfl (w.heap.size + 1) HX9.out.nq.bx.lt rfl _ _ rfl (.slice (some ⟨p4, 0, none⟩) 1024 1024) 1024 (bcs PL) (bcs [0]) rfl HO9.out (by omega) 1 (by omega) ⟨w8.heap.size + 1, 0, none⟩ 1 rfl rfl (fun j u hj => by
            match j with
            | 0 => cases hj; rw [← e8]; simp [go_sem]
            | j + 1 => cases hj) (one_bcs _) ?_
          intro v4 w4 hown hg hat
          obtain ⟨ad2, cp2, rfl, _, _⟩ := owns_slice hown
          have HQF := hidf (HX9.out.nq.grown HR.out hg (fun k hk => by cases hk; exact hge))
          clear hown hg hat HX8b HX9 HO9 e8
          go_wp2_with fail
          refine (decode_no (by decide : (1024 + 1 : Nat) ≠ 1024)).mono ?_
          rintro e w10 ⟨B10, rfl⟩
          have HB10 := hidf (HQF.out.on B10).bx.below
          clear HQF B10
          go_wp2
          go_ret
          exact ⟨rfl, HB10.out.alloc HB10.out.size _⟩
  · go_wp2
    go_ret
    exact ⟨rfl, HN2.out.bx.below⟩
end Go.Proofs.Ytpmagonmfaaihaa
