/-
  PageNodes: its walk.
-/
import Derived.Deep.RegionHeldLaw
import Derived.Test.YtpmagonmfaaihaaRdJ
import Derived.Test.YtpmagonmfaaihaaSpI
import Derived.Test.YtpmagonmfaaihaaPgDocW
namespace Go.Proofs.Ytpmagonmfaaihaa
open Go.RowKit

/-- A node boxed, and a second variable that has it. -/
structure Vn (w : World) (n : No) (a : Option Addr) (c : Nat) (a' : Option Addr) (c' : Nat) (p3 : Nat) (wr : World) : Prop where
  nq : Nq w n a c a' c' wr
  b3 : wr.heap[p3]? = some (.cells #[.bool n.leaf, .slice a n.recs.length c, .slice a' n.kids.length c'] 28 (0, 0))

theorem Vn.on {w : World} {n : No} {a : Option Addr} {c : Nat} {a' : Option Addr} {c' : Nat} {p3 : Nat} {wr wr' : World} (h : Vn w n a c a' c' p3 wr) (hb : Below wr.heap.size wr wr') : Vn w n a c a' c' p3 wr' :=
  ⟨h.nq.on hb, (hb.block _ (Array.getElem?_eq_some_iff.1 h.b3).1).trans h.b3⟩

theorem Vn.cells {w : World} {n : No} {a : Option Addr} {c : Nat} {a' : Option Addr} {c' : Nat} {p3 : Nat} {wr : World} (h : Vn w n a c a' c' p3 wr) : (wr.cell? ⟨w.heap.size, 0, none⟩ = some (.bool n.leaf) ∧ wr.cell? ⟨w.heap.size, 1, none⟩ = some (.slice a n.recs.length c) ∧ wr.cell? ⟨w.heap.size, 2, none⟩ = some (.slice a' n.kids.length c') ∧ w.heap.size < wr.heap.size) ∧ (wr.cell? ⟨p3, 0, none⟩ = some (.bool n.leaf) ∧ wr.cell? ⟨p3, 1, none⟩ = some (.slice a n.recs.length c) ∧ wr.cell? ⟨p3, 2, none⟩ = some (.slice a' n.kids.length c') ∧ p3 < wr.heap.size) :=
  ⟨⟨h.nq.bx.c0, h.nq.bx.c1, h.nq.bx.c2, h.nq.bx.lt⟩, (node_cells h.b3).1, (node_cells h.b3).2.1, (node_cells h.b3).2.2, (Array.getElem?_eq_some_iff.1 h.b3).1⟩

/-- .. the node's page, and a third variable with the node that came back. -/
structure Vm (w : World) (n : No) (a : Option Addr) (c : Nat) (a' : Option Addr) (c' : Nat) (p3 p5 pm : Nat) (ma : Option Addr) (mc : Nat) (ma' : Option Addr) (mc' : Nat) (wr : World) : Prop where
  vn : Vn w n a c a' c' p3 wr
  blk : Blk wr p5 (pageL n.toNd)
  bm : wr.heap[pm]? = some (.cells #[.bool n.leaf, .slice ma n.recs.length mc, .slice ma' n.kids.length mc'] 25 (0, 0))
  nm : NR wr n ma mc ma' mc'

theorem Vm.on {w : World} {n : No} {a : Option Addr} {c : Nat} {a' : Option Addr} {c' : Nat} {p3 p5 pm : Nat} {ma : Option Addr} {mc : Nat} {ma' : Option Addr} {mc' : Nat} {wr wr' : World} (h : Vm w n a c a' c' p3 p5 pm ma mc ma' mc' wr) (hb : Below wr.heap.size wr wr') : Vm w n a c a' c' p3 p5 pm ma mc ma' mc' wr' :=
  ⟨h.vn.on hb, (hb.block _ (Blk.lt h.blk)).trans h.blk, (hb.block _ (Array.getElem?_eq_some_iff.1 h.bm).1).trans h.bm, h.nm.below hb⟩

/-- A row of bytes that can be read, as a text. -/
theorem conv_row {W : World} {B : Nat} {v : Value} {m : Nat} {L : List UInt8} (h : W.ownsRow B 5 1 v m (bcs L)) (hl : L.length = m) (h0 : 0 < m) : (convert 31 9 v).run Try.prog W = .ok (.string ⟨L.toArray⟩) W := by
  obtain ⟨ad, cap, rfl, hr, _, _⟩ := owns_rd h
  subst hl
  match L, hr with
  | [], _ => exact absurd h0 (Nat.lt_irrefl 0)
  | x :: L, hr =>
    obtain ⟨b, o, rfl, _, _⟩ := hr.2.2 0 _ rfl
    exact run_convert_bytes_back (P := Try.prog) W 31 9 5 ⟨b, o, none⟩ cap (x :: L) Try.underlying31 Try.underlying5 Try.underlying9 (fun j hj => by
      obtain ⟨b', o', e, _, hc⟩ := hr.2.2 j (.int .u8 ((x :: L)[j].toNat : Int)) (by unfold bcs; rw [List.getElem?_map, List.getElem?_eq_getElem hj]; rfl)
      cases e
      rw [show (⟨b, o, none⟩ : Addr).add j = ⟨b, o + j, none⟩ by unfold Addr.add; split <;> simp_all]
      exact hc)

set_option maxRecDepth 100000 in
set_option maxHeartbeats 2000000 in
theorem pgnodes_walk {n : No} {a : Option Addr} {c : Nat} {a' : Option Addr} {c' : Nat} {w : World} (hr : NR w n a c a' c') :
    Calls Try.prog 3 #[nodeV n a c a' c'] w fun e w' => e = .returned (.bool true) ∧ Below w.heap.size w w' := by
  have HN : Hid (Nq w n a c a' c' (w.alloc (.cells #[.bool n.leaf, .slice a n.recs.length c, .slice a' n.kids.length c'] 25))) := Nq.new hr _
  clear hr
  go_enter Try.func3, Try.ntmps3
  unfold nodeV
  go_wp2_with fail
  refine (awake_walk _).mono ?_
  rintro e w1 ⟨rfl, B1⟩
  have HN1 : Hid (Nq w n a c a' c' w1) := HN.out.on B1
  have c0 := HN1.out.bx.c0
  have c1 := HN1.out.bx.c1
  have c2 := HN1.out.bx.c2
  have xl := HN1.out.bx.lt
  clear HN B1
  go_wp2_with fail
  refine (great_walk (n := n) HN1.out.nr).mono ?_
  rintro e w2 ⟨rfl, B2⟩
  have HN2 : Hid (Nq w n a c a' c' w2) := HN1.out.on B2
  clear c0 c1 c2 xl HN1 B2
  have c0 := HN2.out.bx.c0
  have c1 := HN2.out.bx.c1
  have c2 := HN2.out.bx.c2
  have xl := HN2.out.bx.lt
  cases hg : greatB n
  · have hsm := small_of_great hg
    clear hg
    go_wp2_with fail
    refine (plain_walk (n := n)).mono ?_
    rintro e w3 ⟨rfl, B3⟩
    have HN3 : Hid (Nq w n a c a' c' w3) := HN2.out.on B3
    clear c0 c1 c2 xl HN2 B3
    have HV3 : Hid (Vn w n a c a' c' w3.heap.size (w3.alloc (.cells #[.bool n.leaf, .slice a n.recs.length c, .slice a' n.kids.length c'] 28))) := ⟨HN3.out.on (below_alloc _ _), heap_alloc_last _ _⟩
    clear HN3
    obtain ⟨⟨c0, c1, c2, xl⟩, d0, d1, d2, yl⟩ := HV3.out.cells
    unfold nodeV
    go_wp2_with fail
    generalize w3.alloc (.cells #[.bool n.leaf, .slice a n.recs.length c, .slice a' n.kids.length c'] 28) = w3' at *
    generalize w3.heap.size = p3 at *
    clear c0 c1 c2 xl d0 d1 d2 yl
    refine (shaped_walk (n := n) HV3.out.nq.nr hsm).mono ?_
    rintro e w4 ⟨rfl, B4⟩
    have HV4 := hidf (HV3.out.on B4)
    clear HV3 B4
    obtain ⟨⟨c0, c1, c2, xl⟩, d0, d1, d2, yl⟩ := HV4.out.cells
    go_wp2_with fail
    cases hb : n.shaped
    · have hR : (n.shaped && decide (n.size ≤ 1024)) = false := by rw [hb]; rfl
      refine (encode_no (n := n) HV4.out.nq.nr hsm hb).mono ?_
      rintro e w5 ⟨rfl, B5⟩
      have HV5 := hidf (HV4.out.on B5)
      clear HV4 B5 c0 c1 c2 xl d0 d1 d2 yl
      have x0 : ∀ q : BelowW w5, q.w.cell? ⟨w.heap.size, 0, none⟩ = some (.bool n.leaf) := fun q => (HV5.out.on q.below).nq.bx.c0
      have x1 : ∀ q : BelowW w5, q.w.cell? ⟨w.heap.size, 1, none⟩ = some (.slice a n.recs.length c) := fun q => (HV5.out.on q.below).nq.bx.c1
      have x2 : ∀ q : BelowW w5, q.w.cell? ⟨w.heap.size, 2, none⟩ = some (.slice a' n.kids.length c') := fun q => (HV5.out.on q.below).nq.bx.c2
      have y0 : ∀ q : BelowW w5, q.w.cell? ⟨p3, 0, none⟩ = some (.bool n.leaf) := fun q => (HV5.out.on q.below).cells.2.1
      have y1 : ∀ q : BelowW w5, q.w.cell? ⟨p3, 1, none⟩ = some (.slice a n.recs.length c) := fun q => (HV5.out.on q.below).cells.2.2.1
      have y2 : ∀ q : BelowW w5, q.w.cell? ⟨p3, 2, none⟩ = some (.slice a' n.kids.length c') := fun q => (HV5.out.on q.below).cells.2.2.2.1
      have HS1 : ∀ q : BelowW w5, Calls Try.prog 11 #[.agg #[.bool n.leaf, .slice a n.recs.length c, .slice a' n.kids.length c']] q.w fun e w'' => e = .returned (.int .i64 (n.size : Int)) ∧ Below q.w.heap.size q.w w'' := fun q => size_walk (n := n) (HV5.out.on q.below).nq.nr hsm
      have HS2 : ∀ q : BelowW w5, Calls Try.prog 12 #[.agg #[.bool n.leaf, .slice a n.recs.length c, .slice a' n.kids.length c']] q.w fun e w'' => e = .returned (.int .i64 (n.size : Int)) ∧ Below q.w.heap.size q.w w'' := fun q => rsize_walk (n := n) (HV5.out.on q.below).nq.nr hsm
      have HS3 : ∀ q : BelowW w5, Calls Try.prog 13 #[.agg #[.bool n.leaf, .slice a n.recs.length c, .slice a' n.kids.length c']] q.w fun e w'' => e = .returned (.bool false) ∧ Below q.w.heap.size q.w w'' := fun q => by
        have := right_walk (n := n) (HV5.out.on q.below).nq.nr hsm
        rw [hR] at this
        exact this
      have HM := hidf (fun q : BelowW w5 => HV5.out.on q.below)
      clear HV5 hR
      generalize hZ : (n.size : Int) = Z at *
      have HZ := hidf hZ
      clear hZ
      go_wp2_with fail
      refine wp_region_below (by kernel_rfl) (by kernel_rfl) (fun _ => ?_)
      repeat (go_big_quiet_step (first | (go_at_call 11; exact quiet_of_below (HS1 _)) | (go_at_call 12; exact quiet_of_below (HS2 _)) | (go_at_call 13; exact quiet_of_below (HS3 _))))
      refine wpQuiet_nil ?_
      rintro _ ⟨q, rfl⟩
      have HV6 := hidf (HM.out q)
      generalize q.w = w6 at HV6 ⊢
      clear HM HS1 HS2 HS3 x0 x1 x2 y0 y1 y2 q
      obtain ⟨⟨c0, c1, c2, xl⟩, d0, d1, d2, yl⟩ := HV6.out.cells
      go_wp2
      go_ret
      exact ⟨rfl, HV6.out.nq.bx.below⟩
    by_cases hl : 1024 < n.size
    · have hR : (n.shaped && decide (n.size ≤ 1024)) = false := by rw [hb, Bool.true_and, decide_eq_false_iff_not]; omega
      have hl2 : decide ((n.size : Int) ≤ 1024) = false := by simp; omega
      have hl3 : (1024 : Int) < (n.size : Int) := by omega
      refine (encode_long (n := n) HV4.out.nq.nr hsm hb hl).mono ?_
      rintro e w5 ⟨rfl, B5⟩
      have HV5 := hidf (HV4.out.on B5)
      clear HV4 B5 c0 c1 c2 xl d0 d1 d2 yl
      have x0 : ∀ q : BelowW w5, q.w.cell? ⟨w.heap.size, 0, none⟩ = some (.bool n.leaf) := fun q => (HV5.out.on q.below).nq.bx.c0
      have x1 : ∀ q : BelowW w5, q.w.cell? ⟨w.heap.size, 1, none⟩ = some (.slice a n.recs.length c) := fun q => (HV5.out.on q.below).nq.bx.c1
      have x2 : ∀ q : BelowW w5, q.w.cell? ⟨w.heap.size, 2, none⟩ = some (.slice a' n.kids.length c') := fun q => (HV5.out.on q.below).nq.bx.c2
      have y0 : ∀ q : BelowW w5, q.w.cell? ⟨p3, 0, none⟩ = some (.bool n.leaf) := fun q => (HV5.out.on q.below).cells.2.1
      have y1 : ∀ q : BelowW w5, q.w.cell? ⟨p3, 1, none⟩ = some (.slice a n.recs.length c) := fun q => (HV5.out.on q.below).cells.2.2.1
      have y2 : ∀ q : BelowW w5, q.w.cell? ⟨p3, 2, none⟩ = some (.slice a' n.kids.length c') := fun q => (HV5.out.on q.below).cells.2.2.2.1
      have HS1 : ∀ q : BelowW w5, Calls Try.prog 11 #[.agg #[.bool n.leaf, .slice a n.recs.length c, .slice a' n.kids.length c']] q.w fun e w'' => e = .returned (.int .i64 (n.size : Int)) ∧ Below q.w.heap.size q.w w'' := fun q => size_walk (n := n) (HV5.out.on q.below).nq.nr hsm
      have HS2 : ∀ q : BelowW w5, Calls Try.prog 12 #[.agg #[.bool n.leaf, .slice a n.recs.length c, .slice a' n.kids.length c']] q.w fun e w'' => e = .returned (.int .i64 (n.size : Int)) ∧ Below q.w.heap.size q.w w'' := fun q => rsize_walk (n := n) (HV5.out.on q.below).nq.nr hsm
      have HS3 : ∀ q : BelowW w5, Calls Try.prog 13 #[.agg #[.bool n.leaf, .slice a n.recs.length c, .slice a' n.kids.length c']] q.w fun e w'' => e = .returned (.bool false) ∧ Below q.w.heap.size q.w w'' := fun q => by
        have := right_walk (n := n) (HV5.out.on q.below).nq.nr hsm
        rw [hR] at this
        exact this
      have HM := hidf (fun q : BelowW w5 => HV5.out.on q.below)
      clear HV5 hR
      generalize hZ : (n.size : Int) = Z at *
      have HZ := hidf hZ
      clear hZ
      go_wp2_with fail
      refine wp_region_below (by kernel_rfl) (by kernel_rfl) (fun _ => ?_)
      repeat (go_big_quiet_step (first | (go_at_call 11; exact quiet_of_below (HS1 _)) | (go_at_call 12; exact quiet_of_below (HS2 _)) | (go_at_call 13; exact quiet_of_below (HS3 _))))
      refine wpQuiet_nil ?_
      rintro _ ⟨q, rfl⟩
      have HV6 := hidf (HM.out q)
      generalize q.w = w6 at HV6 ⊢
      clear HM HS1 HS2 HS3 x0 x1 x2 y0 y1 y2 q
      obtain ⟨⟨c0, c1, c2, xl⟩, d0, d1, d2, yl⟩ := HV6.out.cells
      go_wp2_with fail
      refine (rsize_walk (n := n) HV6.out.nq.nr hsm).mono ?_
      rintro e w7 ⟨rfl, B7⟩
      rw [HZ.out]
      have HV7 := hidf (HV6.out.on B7)
      clear HV6 B7 c0 c1 c2 xl d0 d1 d2 yl
      go_wp2
      go_ret
      exact ⟨rfl, HV7.out.nq.bx.below⟩
    have hR : (n.shaped && decide (n.size ≤ 1024)) = true := by rw [hb, Bool.true_and, decide_eq_true_eq]; omega
    have hl2 : decide ((n.size : Int) ≤ 1024) = true := by simp; omega
    have hl3 : (n.size : Int) ≤ 1024 := by omega
    refine (encode_ok (n := n) HV4.out.nq.nr hsm hb (by omega)).mono ?_
    rintro e w5 ⟨p5, rfl, hp5, K5, B5⟩
    have HV5 := hidf (HV4.out.on B5)
    have HK5 := hidf K5
    clear HV4 B5 K5 hp5 c0 c1 c2 xl d0 d1 d2 yl
    have x0 : ∀ q : BelowW w5, q.w.cell? ⟨w.heap.size, 0, none⟩ = some (.bool n.leaf) := fun q => (HV5.out.on q.below).nq.bx.c0
    have x1 : ∀ q : BelowW w5, q.w.cell? ⟨w.heap.size, 1, none⟩ = some (.slice a n.recs.length c) := fun q => (HV5.out.on q.below).nq.bx.c1
    have x2 : ∀ q : BelowW w5, q.w.cell? ⟨w.heap.size, 2, none⟩ = some (.slice a' n.kids.length c') := fun q => (HV5.out.on q.below).nq.bx.c2
    have y0 : ∀ q : BelowW w5, q.w.cell? ⟨p3, 0, none⟩ = some (.bool n.leaf) := fun q => (HV5.out.on q.below).cells.2.1
    have y1 : ∀ q : BelowW w5, q.w.cell? ⟨p3, 1, none⟩ = some (.slice a n.recs.length c) := fun q => (HV5.out.on q.below).cells.2.2.1
    have y2 : ∀ q : BelowW w5, q.w.cell? ⟨p3, 2, none⟩ = some (.slice a' n.kids.length c') := fun q => (HV5.out.on q.below).cells.2.2.2.1
    have HS1 : ∀ q : BelowW w5, Calls Try.prog 11 #[.agg #[.bool n.leaf, .slice a n.recs.length c, .slice a' n.kids.length c']] q.w fun e w'' => e = .returned (.int .i64 (n.size : Int)) ∧ Below q.w.heap.size q.w w'' := fun q => size_walk (n := n) (HV5.out.on q.below).nq.nr hsm
    have HS2 : ∀ q : BelowW w5, Calls Try.prog 12 #[.agg #[.bool n.leaf, .slice a n.recs.length c, .slice a' n.kids.length c']] q.w fun e w'' => e = .returned (.int .i64 (n.size : Int)) ∧ Below q.w.heap.size q.w w'' := fun q => rsize_walk (n := n) (HV5.out.on q.below).nq.nr hsm
    have HS3 : ∀ q : BelowW w5, Calls Try.prog 13 #[.agg #[.bool n.leaf, .slice a n.recs.length c, .slice a' n.kids.length c']] q.w fun e w'' => e = .returned (.bool true) ∧ Below q.w.heap.size q.w w'' := fun q => by
      have := right_walk (n := n) (HV5.out.on q.below).nq.nr hsm
      rw [hR] at this
      exact this
    have HM := hidf (fun q : BelowW w5 => And.intro (HV5.out.on q.below) ((q.below.block _ (Blk.lt HK5.out)).trans HK5.out : Blk q.w p5 (pageL n.toNd)))
    clear HV5 hR
    generalize hZ : (n.size : Int) = Z at *
    have HZ := hidf hZ
    clear hZ
    go_wp2_with fail
    refine wp_region_below (by kernel_rfl) (by kernel_rfl) (fun _ => ?_)
    repeat (go_big_quiet_step (first | (go_at_call 11; exact quiet_of_below (HS1 _)) | (go_at_call 12; exact quiet_of_below (HS2 _)) | (go_at_call 13; exact quiet_of_below (HS3 _))))
    refine wpQuiet_nil ?_
    rintro _ ⟨q, rfl⟩
    have HV6 := hidf (HM.out q).1
    have HK6 := hidf (HM.out q).2
    generalize q.w = w6 at HV6 HK6 ⊢
    clear HM HK5 HS1 HS2 HS3 x0 x1 x2 y0 y1 y2 q
    obtain ⟨⟨c0, c1, c2, xl⟩, d0, d1, d2, yl⟩ := HV6.out.cells
    go_wp2_with fail
    refine (rsize_walk (n := n) HV6.out.nq.nr hsm).mono ?_
    rintro e w7 ⟨rfl, B7⟩
    rw [HZ.out]
    have HV7 := hidf (HV6.out.on B7)
    have HK7 := hidf ((B7.block _ (Blk.lt HK6.out)).trans HK6.out : Blk w7 p5 (pageL n.toNd))
    clear HV6 HK6 B7 c0 c1 c2 xl d0 d1 d2 yl
    go_wp2_with fail
    refine (decode_page (n := n) HK7.out hb (by omega)).mono ?_
    rintro e w8 ⟨ma, mc, ma', mc', rfl, o1, o2, B8⟩
    have HV8 := hidf (HV7.out.on B8)
    have HK8 := hidf ((B8.block _ (Blk.lt HK7.out)).trans HK7.out : Blk w8 p5 (pageL n.toNd))
    have HM8 := hidf (NR.mk (owns_rd_slice o1) (owns_rd_slice o2) : NR w8 n ma mc ma' mc')
    clear HV7 HK7 B8 o1 o2
    have HX := hidf (Vm.mk (HV8.out.on (below_alloc w8 (.cells #[.bool n.leaf, .slice ma n.recs.length mc, .slice ma' n.kids.length mc'] 25))) (((below_alloc w8 _).block _ (Blk.lt HK8.out)).trans HK8.out) (heap_alloc_last _ _) (HM8.out.below (below_alloc _ _)))
    clear HV8 HK8 HM8
    unfold nodeV
    go_wp2_with fail
    generalize w8.alloc (.cells #[.bool n.leaf, .slice ma n.recs.length mc, .slice ma' n.kids.length mc'] 25) = W9 at HX ⊢
    generalize w8.heap.size = pm at HX ⊢
    have hz : n.toNd.size ≤ 1024 := by rw [toNd_size]; omega
    have PA := hidf (fun (W : World) => plain_walk (n := n) (a := ma) (c := mc) (a' := ma') (c' := mc') (w := W))
    have PG := hidf (fun (W : World) (hb' : Below W9.heap.size W9 W) => refpage_walk (n := n) (HX.out.on hb').vn.nq.nr hsm hb (by omega))
    have SC := hidf (fun (W : World) (hb' : Below W9.heap.size W9 W) => same_walk (HX.out.on hb').nm (HX.out.on hb').vn.nq.nr hsm)
    unfold nodeV at PA PG SC
    have HKS := hidf (fun (W : World) (hb' : Below W9.heap.size W9 W) => show (W.cell? ⟨p3, 0, none⟩ = some (.bool n.leaf) ∧ W.cell? ⟨p3, 1, none⟩ = some (.slice a n.recs.length c) ∧ W.cell? ⟨p3, 2, none⟩ = some (.slice a' n.kids.length c')) ∧ (W.cell? ⟨pm, 0, none⟩ = some (.bool n.leaf) ∧ W.cell? ⟨pm, 1, none⟩ = some (.slice ma n.recs.length mc) ∧ W.cell? ⟨pm, 2, none⟩ = some (.slice ma' n.kids.length mc')) ∧ (convert 31 9 (.slice (some ⟨p5, 0, none⟩) 1024 1024)).run Try.prog W = .ok (.string ⟨(pageL n.toNd).toArray⟩) W from ⟨node_cells (HX.out.on hb').vn.b3, node_cells (HX.out.on hb').bm, by
      have := conv_blk (HX.out.on hb').blk 0 1024 1024 (by rw [pageL_length hz]; omega)
      rwa [cut_all _ (pageL_length hz)] at this⟩)
    have HBW := hidf (fun (W : World) (hb' : Below W9.heap.size W9 W) => (HX.out.on hb').vn.nq.bx.below)
    have HPL := hidf (pageL_length hz)
    generalize pageL n.toNd = PL at HKS PG HPL
    clear HX
    have tb0 : Below W9.heap.size W9 W9.drew := (Below.refl _ _).drew
    go_region_held (fun W => (W.cell? ⟨p3, 0, none⟩ = some (.bool n.leaf) ∧ W.cell? ⟨p3, 1, none⟩ = some (.slice a n.recs.length c) ∧ W.cell? ⟨p3, 2, none⟩ = some (.slice a' n.kids.length c')) ∧ (W.cell? ⟨pm, 0, none⟩ = some (.bool n.leaf) ∧ W.cell? ⟨pm, 1, none⟩ = some (.slice ma n.recs.length mc) ∧ W.cell? ⟨pm, 2, none⟩ = some (.slice ma' n.kids.length mc')) ∧ (convert 31 9 (.slice (some ⟨p5, 0, none⟩) 1024 1024)).run Try.prog W = .ok (.string ⟨PL.toArray⟩) W) (exact HKS.out _ (by assumption)) (first
        | (go_at_call 15
           with_reducible refine (PG.out _ tb0).mono ?_
           rintro e wa ⟨v, rfl, Ov, Ba⟩
           have tb1 : Below W9.heap.size W9 wa := below_on tb0 Ba
           have hcv := conv_row Ov HPL.out (by decide)
           clear PG Ba Ov)
        | (go_at_call 8; with_reducible refine (PA.out _).mono ?_; rintro e wb ⟨rfl, Bb⟩; have tb2 : Below W9.heap.size W9 wb := below_on tb1 Bb; clear PA Bb)
        | (go_at_call 16; with_reducible refine (SC.out _ tb2).mono ?_; rintro e wc ⟨rfl, Bc⟩; have tb3 : Below W9.heap.size W9 wc := below_on tb2 Bc; clear SC Bc))
    go_wp2
    go_ret
    exact ⟨rfl, HBW.out _ tb3⟩
  · go_wp2
    go_ret
    exact ⟨rfl, HN2.out.bx.below⟩
end Go.Proofs.Ytpmagonmfaaihaa
