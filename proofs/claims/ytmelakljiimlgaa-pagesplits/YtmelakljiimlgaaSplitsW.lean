/-
  PageSplits: its walk.
-/
import Derived.Test.YtmelakljiimlgaaNdH
import Derived.Test.YtmelakljiimlgaaSpI
import Derived.Test.YtmelakljiimlgaaSpK
namespace Go.Proofs.Ytmelakljiimlgaa
open Go.RowKit

/-- A node boxed, and a second variable that has it. -/
structure V2 (w : World) (n : No) (a : Option Addr) (c : Nat) (a' : Option Addr) (c' : Nat) (p3 : Nat) (wr : World) : Prop where
  nq : Nq w n a c a' c' wr
  b3 : wr.heap[p3]? = some (.cells #[.bool n.leaf, .slice a n.recs.length c, .slice a' n.kids.length c'] 28 (0, 0))

theorem V2.on {w : World} {n : No} {a : Option Addr} {c : Nat} {a' : Option Addr} {c' : Nat} {p3 : Nat} {wr wr' : World} (h : V2 w n a c a' c' p3 wr) (hb : Below wr.heap.size wr wr') : V2 w n a c a' c' p3 wr' :=
  ⟨h.nq.on hb, (hb.block _ (Array.getElem?_eq_some_iff.1 h.b3).1).trans h.b3⟩

theorem V2.cells {w : World} {n : No} {a : Option Addr} {c : Nat} {a' : Option Addr} {c' : Nat} {p3 : Nat} {wr : World} (h : V2 w n a c a' c' p3 wr) : (wr.cell? ⟨w.heap.size, 0, none⟩ = some (.bool n.leaf) ∧ wr.cell? ⟨w.heap.size, 1, none⟩ = some (.slice a n.recs.length c) ∧ wr.cell? ⟨w.heap.size, 2, none⟩ = some (.slice a' n.kids.length c') ∧ w.heap.size < wr.heap.size) ∧ (wr.cell? ⟨p3, 0, none⟩ = some (.bool n.leaf) ∧ wr.cell? ⟨p3, 1, none⟩ = some (.slice a n.recs.length c) ∧ wr.cell? ⟨p3, 2, none⟩ = some (.slice a' n.kids.length c') ∧ p3 < wr.heap.size) :=
  ⟨⟨h.nq.bx.c0, h.nq.bx.c1, h.nq.bx.c2, h.nq.bx.lt⟩, (node_cells h.b3).1, (node_cells h.b3).2.1, (node_cells h.b3).2.2, (Array.getElem?_eq_some_iff.1 h.b3).1⟩

/-- .. and both halves, and a third variable. -/
structure V6 (w : World) (n : No) (a : Option Addr) (c : Nat) (a' : Option Addr) (c' : Nat) (p3 : Nat) (w5 : World) (p4 p6 : Nat) (x4 x6 : Obj) (q8 : Nat) (x8 : Obj) (wr : World) : Prop where
  v : V2 w n a c a' c' p3 wr
  bel : Below w5.heap.size w5 wr
  p4 : wr.heap[p4]? = some x4
  p6 : wr.heap[p6]? = some x6
  p8 : wr.heap[q8]? = some x8

theorem V6.on {w : World} {n : No} {a : Option Addr} {c : Nat} {a' : Option Addr} {c' : Nat} {p3 : Nat} {w5 : World} {p4 p6 : Nat} {x4 x6 : Obj} {q8 : Nat} {x8 : Obj} {wr wr' : World} (h : V6 w n a c a' c' p3 w5 p4 p6 x4 x6 q8 x8 wr) (hb : Below wr.heap.size wr wr') : V6 w n a c a' c' p3 w5 p4 p6 x4 x6 q8 x8 wr' :=
  ⟨h.v.on hb, below_on h.bel hb, (hb.block _ (Array.getElem?_eq_some_iff.1 h.p4).1).trans h.p4, (hb.block _ (Array.getElem?_eq_some_iff.1 h.p6).1).trans h.p6, (hb.block _ (Array.getElem?_eq_some_iff.1 h.p8).1).trans h.p8⟩

theorem V6.new {w : World} {n : No} {a : Option Addr} {c : Nat} {a' : Option Addr} {c' : Nat} {p3 : Nat} {w5 : World} {p4 p6 : Nat} {x4 x6 : Obj} {wr : World} (hv : V2 w n a c a' c' p3 wr) (hb : Below w5.heap.size w5 wr) (h4 : wr.heap[p4]? = some x4) (h6 : wr.heap[p6]? = some x6) (x : Obj) : V6 w n a c a' c' p3 w5 p4 p6 x4 x6 wr.heap.size x (wr.alloc x).drew := by
  have B : Below wr.heap.size wr (wr.alloc x).drew := (below_alloc wr x).drew
  exact ⟨hv.on B, below_on hb B, (B.block _ (Array.getElem?_eq_some_iff.1 h4).1).trans h4, (B.block _ (Array.getElem?_eq_some_iff.1 h6).1).trans h6, heap_alloc_last wr x⟩

/-- .. and a fourth. -/
structure V7 (w : World) (n : No) (a : Option Addr) (c : Nat) (a' : Option Addr) (c' : Nat) (p3 : Nat) (w5 : World) (p4 p6 : Nat) (x4 x6 : Obj) (q8 : Nat) (x8 : Obj) (q9 : Nat) (x9 : Obj) (wr : World) : Prop extends V6 w n a c a' c' p3 w5 p4 p6 x4 x6 q8 x8 wr where
  p9 : wr.heap[q9]? = some x9

theorem V7.on {w : World} {n : No} {a : Option Addr} {c : Nat} {a' : Option Addr} {c' : Nat} {p3 : Nat} {w5 : World} {p4 p6 : Nat} {x4 x6 : Obj} {q8 : Nat} {x8 : Obj} {q9 : Nat} {x9 : Obj} {wr wr' : World} (h : V7 w n a c a' c' p3 w5 p4 p6 x4 x6 q8 x8 q9 x9 wr) (hb : Below wr.heap.size wr wr') : V7 w n a c a' c' p3 w5 p4 p6 x4 x6 q8 x8 q9 x9 wr' :=
  ⟨h.toV6.on hb, (hb.block _ (Array.getElem?_eq_some_iff.1 h.p9).1).trans h.p9⟩

theorem V7.new {w : World} {n : No} {a : Option Addr} {c : Nat} {a' : Option Addr} {c' : Nat} {p3 : Nat} {w5 : World} {p4 p6 : Nat} {x4 x6 : Obj} {q8 : Nat} {x8 : Obj} {wr : World} (h : V6 w n a c a' c' p3 w5 p4 p6 x4 x6 q8 x8 wr) (x : Obj) : V7 w n a c a' c' p3 w5 p4 p6 x4 x6 q8 x8 wr.heap.size x (wr.alloc x).drew := by
  have B : Below wr.heap.size wr (wr.alloc x).drew := (below_alloc wr x).drew
  exact ⟨h.on B, heap_alloc_last wr x⟩

theorem take_mid {l : List ByteArray} {k : Nat} {s : ByteArray} (h : l[k]? = some s) : l.take k ++ [s] ++ l.drop (k + 1) = l := by
  obtain ⟨hk, rfl⟩ := List.getElem?_eq_some_iff.1 h
  rw [← List.take_succ_eq_append_getElem hk, List.take_append_drop]

/-- Three cells of the last two variables are stored. -/
theorem V7.sets {w : World} {n : No} {a : Option Addr} {c : Nat} {a' : Option Addr} {c' : Nat} {p3 : Nat} {w5 : World} {p4 p6 : Nat} {x4 x6 : Obj} {q8 : Nat} {q9 : Nat} {wr : World} {u0 u1 u2 v0 v1 v2 : Value} (hr : NR w n a c a' c') (h : V7 w n a c a' c' p3 w5 p4 p6 x4 x6 q8 (.cells #[u0, u1, u2] 28 (0, 0)) q9 (.cells #[v0, v1, v2] 28 (0, 0)) wr) (hw : w.heap.size < p3) (h3 : p3 < w5.heap.size) (h4 : p4 < q8) (h6 : p6 < q8) (h5 : w5.heap.size ≤ q8) (h89 : q8 < q9) (z z1 z2 : Value) :
    V7 w n a c a' c' p3 w5 p4 p6 x4 x6 q8 (.cells #[u0, u1, z] 28 (0, 0)) q9 (.cells #[v0, z1, z2] 28 (0, 0)) (((wr.setCell ⟨q8, 2, none⟩ z).setCell ⟨q9, 1, none⟩ z1).setCell ⟨q9, 2, none⟩ z2).drew := by
  have oth : ∀ k, k ≠ q8 → k ≠ q9 → (((wr.setCell ⟨q8, 2, none⟩ z).setCell ⟨q9, 1, none⟩ z1).setCell ⟨q9, 2, none⟩ z2).heap[k]? = wr.heap[k]? := fun k k8 k9 => by
    rw [heap_setCell_other _ _ _ _ (show k ≠ q9 from k9), heap_setCell_other _ _ _ _ (show k ≠ q9 from k9), heap_setCell_other _ _ _ _ (show k ≠ q8 from k8)]
  have e8 : (((wr.setCell ⟨q8, 2, none⟩ z).setCell ⟨q9, 1, none⟩ z1).setCell ⟨q9, 2, none⟩ z2).heap[q8]? = some (.cells #[u0, u1, z] 28 (0, 0)) := by
    rw [heap_setCell_other _ _ _ _ (show q8 ≠ q9 by omega), heap_setCell_other _ _ _ _ (show q8 ≠ q9 by omega)]
    exact heap_setCell_same wr q8 2 _ _ z h.p8
  have e9 : (((wr.setCell ⟨q8, 2, none⟩ z).setCell ⟨q9, 1, none⟩ z1).setCell ⟨q9, 2, none⟩ z2).heap[q9]? = some (.cells #[v0, z1, z2] 28 (0, 0)) := by
    have f0 : (wr.setCell ⟨q8, 2, none⟩ z).heap[q9]? = some (.cells #[v0, v1, v2] 28 (0, 0)) := by rw [heap_setCell_other _ _ _ _ (show q9 ≠ q8 by omega)]; exact h.p9
    have f1 := heap_setCell_same _ q9 1 _ _ z1 f0
    exact heap_setCell_same _ q9 2 _ _ z2 f1
  have hsz : (((wr.setCell ⟨q8, 2, none⟩ z).setCell ⟨q9, 1, none⟩ z1).setCell ⟨q9, 2, none⟩ z2).heap.size = wr.heap.size := by simp [World.setCell]
  have bw : Below w.heap.size w (((wr.setCell ⟨q8, 2, none⟩ z).setCell ⟨q9, 1, none⟩ z1).setCell ⟨q9, 2, none⟩ z2) := ((h.v.nq.bx.below.setCell (show w.heap.size ≤ q8 by omega) z).setCell (show w.heap.size ≤ q9 by omega) z1).setCell (show w.heap.size ≤ q9 by omega) z2
  have b5 : Below w5.heap.size w5 (((wr.setCell ⟨q8, 2, none⟩ z).setCell ⟨q9, 1, none⟩ z1).setCell ⟨q9, 2, none⟩ z2) := ((h.bel.setCell (show w5.heap.size ≤ q8 by omega) z).setCell (show w5.heap.size ≤ q9 by omega) z1).setCell (show w5.heap.size ≤ q9 by omega) z2
  have g4 := (oth p4 (by omega) (by omega)).trans h.p4
  have g6 := (oth p6 (by omega) (by omega)).trans h.p6
  have g3 := (oth p3 (by omega) (by omega)).trans h.v.b3
  have gw : ∀ i, (((wr.setCell ⟨q8, 2, none⟩ z).setCell ⟨q9, 1, none⟩ z1).setCell ⟨q9, 2, none⟩ z2).cell? ⟨w.heap.size, i, none⟩ = wr.cell? ⟨w.heap.size, i, none⟩ := fun i => World.cell?_of_block (w := wr) (a := ⟨w.heap.size, i, none⟩) (oth w.heap.size (by omega) (by omega))
  have hlt : w.heap.size < (((wr.setCell ⟨q8, 2, none⟩ z).setCell ⟨q9, 1, none⟩ z1).setCell ⟨q9, 2, none⟩ z2).heap.size := by rw [hsz]; exact h.v.nq.bx.lt
  generalize ((wr.setCell ⟨q8, 2, none⟩ z).setCell ⟨q9, 1, none⟩ z1).setCell ⟨q9, 2, none⟩ z2 = X at *
  have k0 := (gw 0).trans h.v.nq.bx.c0
  have k1 := (gw 1).trans h.v.nq.bx.c1
  have k2 := (gw 2).trans h.v.nq.bx.c2
  have m : V7 w n a c a' c' p3 w5 p4 p6 x4 x6 q8 (.cells #[u0, u1, z] 28 (0, 0)) q9 (.cells #[v0, z1, z2] 28 (0, 0)) X := ⟨⟨⟨⟨⟨bw, k0, k1, k2, hlt⟩, hr.below bw⟩, g3⟩, b5, g4, g6, e8⟩, e9⟩
  exact m.on (below_drew X)

set_option maxRecDepth 100000 in
set_option maxHeartbeats 4000000 in
theorem splits_walk {n : No} {a : Option Addr} {c : Nat} {a' : Option Addr} {c' : Nat} {w : World} (hr : NR w n a c a' c') :
    Calls Try.prog 6 #[nodeV n a c a' c'] w fun e w' => e = .returned (.bool true) ∧ Below w.heap.size w w' := by
  have HN : Hid (Nq w n a c a' c' (w.alloc (.cells #[.bool n.leaf, .slice a n.recs.length c, .slice a' n.kids.length c'] 25))) := Nq.new hr _
  have hcap : n.recs.length ≤ c := by have := hr.recs.1; rwa [svs_length] at this
  have hcm := hr.recs.2.1
  have hcap' : n.kids.length ≤ c' := by have := hr.kids.1; rwa [ivs_length] at this
  have hcm' := hr.kids.2.1
  unfold maxLen at hcm hcm'
  have HR : Hid (NR w n a c a' c') := hr
  clear hr
  go_enter Try.func6, Try.ntmps6
  unfold nodeV
  go_wp2_with fail
  refine (awake_walk _).mono ?_
  rintro e w1 ⟨rfl, B1⟩
  have HN1 : Hid (Nq w n a c a' c' w1) := HN.out.on B1
  have c0 := HN1.out.bx.c0
  have c1 := HN1.out.bx.c1
  have c2 := HN1.out.bx.c2
  have xl := HN1.out.bx.lt
  clear HN B1
  go_wp2_with fail
  refine (plain_walk (n := n)).mono ?_
  rintro e w2 ⟨rfl, B2⟩
  unfold nodeV
  have HV2 : Hid (V2 w n a c a' c' w2.heap.size (w2.alloc (.cells #[.bool n.leaf, .slice a n.recs.length c, .slice a' n.kids.length c'] 28))) := ⟨(HN1.out.on B2).on (below_alloc _ _), heap_alloc_last _ _⟩
  have hp3 : w.heap.size < w2.heap.size := (HN1.out.on B2).bx.lt
  clear c0 c1 c2 xl HN1 B2
  obtain ⟨⟨c0, c1, c2, xl⟩, d0, d1, d2, dl⟩ := HV2.out.cells
  go_wp2_with fail
  generalize w2.alloc (.cells #[.bool n.leaf, .slice a n.recs.length c, .slice a' n.kids.length c'] 28) = W2 at *
  generalize w2.heap.size = p3 at *
  refine (great_walk (n := n) HV2.out.nq.nr).mono ?_
  rintro e w3 ⟨rfl, B3⟩
  have HV3 : Hid (V2 w n a c a' c' p3 w3) := HV2.out.on B3
  clear c0 c1 c2 xl d0 d1 d2 dl HV2 B3
  obtain ⟨⟨c0, c1, c2, xl⟩, d0, d1, d2, dl⟩ := HV3.out.cells
  cases hg : greatB n
  · have hsm := small_of_great hg
    go_wp2_with fail
    refine (shaped_walk (n := n) HV3.out.nq.nr hsm).mono ?_
    rintro e w4 ⟨rfl, B4⟩
    have HV4 : Hid (V2 w n a c a' c' p3 w4) := HV3.out.on B4
    clear c0 c1 c2 xl d0 d1 d2 dl HV3 B4
    obtain ⟨⟨c0, c1, c2, xl⟩, d0, d1, d2, dl⟩ := HV4.out.cells
    cases hshp : n.shaped
    · go_wp2
      go_ret
      exact ⟨rfl, HV4.out.nq.bx.below⟩
    by_cases hl2 : n.recs.length < 2
    · have hl2' : (n.recs.length : Int) < 2 := by omega
      go_wp2
      go_ret
      exact ⟨rfl, HV4.out.nq.bx.below⟩
    have hl2' : (2 : Int) ≤ (n.recs.length : Int) := by omega
    cases hlf : n.leaf
    · rw [hlf] at c0 d0
      have HLF : Hid (n.leaf = false) := hlf
      by_cases hl3 : n.recs.length < 3
      · have hl3' : (n.recs.length : Int) < 3 := by omega
        go_wp2
        go_ret
        exact ⟨rfl, HV4.out.nq.bx.below⟩
      have hl3' : (3 : Int) ≤ (n.recs.length : Int) := by omega
      have h2 := hsm.kids
      have HKL : Hid (n.kids.length = n.recs.length + 1) := by
        show _ = _
        rw [shaped_eq, Bool.and_eq_true] at hshp
        have := hshp.2
        unfold numbB at this
        rw [hlf, if_neg (by decide), Bool.and_eq_true, beq_iff_eq] at this
        exact this.2
      have hkg : n.recs.length < n.kids.length := by have := HKL.out; omega
      have h1 := hsm.recs
      obtain ⟨s, hsk⟩ : ∃ s, n.recs[cutN 8 1 n.recs]? = some s := ⟨_, List.getElem?_eq_getElem (by have := cutN_le 8 1 n.recs (by omega); omega)⟩
      have hcl := cutN_le 8 1 n.recs (by omega)
      have HSP := hid (split_inner HV4.out.nq.nr hsm hlf (by omega) HKL.out _ rfl s hsk)
      have HCT := hid (fun (W : World) (hv : V2 w n a c a' c' p3 W) => cut_walk (n := n) hv.nq.nr hsm (by unfold No.gap; rw [hlf]; show 1 + 2 ≤ _; omega))
      rw [cut_inner hlf] at HCT
      unfold nodeV at HSP HCT
      rw [hlf] at HSP HCT
      clear hlf
      obtain ⟨k, hk⟩ : ∃ k, Hid (cutN 8 1 n.recs = k) := ⟨_, rfl⟩
      rw [hk.out] at HSP HCT hsk hcl
      go_wp2_with fail
      refine HSP.out.mono ?_
      rintro e w5 ⟨r1, k1, r2, k2, rfl, HV⟩
      clear HSP
      obtain ⟨b, o, rfl, hbn, hcn⟩ := HR.out.recs.2.2 k (.string s) (by simp [svs, hsk])
      have la : (n.recs.take k).length = k := by simp; omega
      have lb : (n.recs.drop (k + 1)).length = n.recs.length - (k + 1) := List.length_drop
      have lc : (n.kids.take (k + 1)).length = k + 1 := by simp; omega
      have ld : (n.kids.drop (k + 1)).length = n.kids.length - (k + 1) := List.length_drop
      obtain ⟨b', o', rfl, hbn', hcn'⟩ := HR.out.kids.int 0 (by omega)
      clear hcn'
      have oa := HV.a1
      have ob := HV.a2
      have oc := HV.b1
      have od := HV.b2
      rw [show (innL n k).recs.length = k from la, show (innL n k).recs = n.recs.take k from rfl] at oa
      rw [show (innL n k).kids.length = k + 1 from lc, show (innL n k).kids = n.kids.take (k + 1) from rfl] at ob
      rw [show (innR n k).recs.length = n.recs.length - (k + 1) from lb, show (innR n k).recs = n.recs.drop (k + 1) from rfl] at oc
      rw [show (innR n k).kids.length = n.kids.length - (k + 1) from ld, show (innR n k).kids = n.kids.drop (k + 1) from rfl] at od
      obtain ⟨y1, t1, rfl, ra, _, _⟩ := owns_rd oa
      obtain ⟨y2, t2, rfl, rb, _, _⟩ := owns_rd ob
      obtain ⟨y3, t3, rfl, rc, _, _⟩ := owns_rd oc
      obtain ⟨y4, t4, rfl, rd, _, _⟩ := owns_rd od
      obtain ⟨g1, f1, rfl, _, _⟩ := ra.str 0 (by rw [la]; omega)
      obtain ⟨g2, f2, rfl, _, _⟩ := rb.int 0 (by rw [lc]; omega)
      obtain ⟨g3, f3, rfl, _, _⟩ := rc.str 0 (by rw [lb]; omega)
      obtain ⟨g4, f4, rfl, _, _⟩ := rd.int 0 (by rw [ld]; omega)
      have HRA := hid ra
      have HRB := hid rb
      have HRC := hid rc
      have HRD := hid rd
      have HV5 := hid (HV4.out.on HV.below)
      clear c0 c1 c2 xl d0 d1 d2 dl oa ob oc od ra rb rc rd HV HV4
      have BK := hid (blocks2 w5 (.cells #[.bool false, .slice (some ⟨g1, f1, none⟩) k t1, .slice (some ⟨g2, f2, none⟩) (k + 1) t2] 25) (.cells #[.bool false, .slice (some ⟨g3, f3, none⟩) (n.recs.length - (k + 1)) t3, .slice (some ⟨g4, f4, none⟩) (n.kids.length - (k + 1)) t4] 25))
      have HV6 := hid (HV5.out.on BK.out.2.2)
      obtain ⟨⟨c0, c1, c2, xl⟩, d0, d1, d2, dl⟩ := HV6.out.cells
      rw [HLF.out] at c0 d0
      go_wp2_with fail
      generalize (w5.alloc (.cells #[.bool false, .slice (some ⟨g1, f1, none⟩) k t1, .slice (some ⟨g2, f2, none⟩) (k + 1) t2] 25)).alloc (.cells #[.bool false, .slice (some ⟨g3, f3, none⟩) (n.recs.length - (k + 1)) t3, .slice (some ⟨g4, f4, none⟩) (n.kids.length - (k + 1)) t4] 25) = W5 at *
      refine (HCT.out W5 HV6.out).mono ?_
      rintro e w6 ⟨rfl, B6⟩
      have HV7 := hid (HV6.out.on B6)
      have H45 := hid (below_on BK.out.2.2 B6)
      have p4 : w6.heap[w5.heap.size]? = some (.cells #[.bool false, .slice (some ⟨g1, f1, none⟩) k t1, .slice (some ⟨g2, f2, none⟩) (k + 1) t2] 25 (0, 0)) := (B6.block _ (Array.getElem?_eq_some_iff.1 BK.out.1).1).trans BK.out.1
      have p6 : w6.heap[w5.heap.size + 1]? = some (.cells #[.bool false, .slice (some ⟨g3, f3, none⟩) (n.recs.length - (k + 1)) t3, .slice (some ⟨g4, f4, none⟩) (n.kids.length - (k + 1)) t4] 25 (0, 0)) := (B6.block _ (Array.getElem?_eq_some_iff.1 BK.out.2.1).1).trans BK.out.2.1
      have P4 := hid p4
      have P6 := hid p6
      clear c0 c1 c2 xl d0 d1 d2 dl HV6 B6 BK p4 p6 HCT
      obtain ⟨⟨c0, c1, c2, xl⟩, d0, d1, d2, dl⟩ := HV7.out.cells
      rw [HLF.out] at c0 d0
      have i1 : (k : Int) ≤ (c : Int) := by omega
      have i2 : (k : Int) ≤ (n.recs.length : Int) := by omega
      have i3 : (n.recs.length : Int) ≤ (c : Int) := by omega
      have i4 : ¬ c = k := by omega
      have i5 : ¬ c - k = 0 := by omega
      have hal : ∀ (W : World) (ob : Obj) (q o : Nat), q < W.heap.size → (W.alloc ob).cell? ⟨q, o, none⟩ = W.cell? ⟨q, o, none⟩ := fun W ob q o h => (below_alloc W ob).cell h
      have hst : ∀ (W : World) (p q o : Nat) (u : Value) (o' : Nat), q < p → (W.setCell ⟨p, o, none⟩ u).cell? ⟨q, o', none⟩ = W.cell? ⟨q, o', none⟩ := fun W p q o u o' h => set_far (by omega) W o u o'
      go_wp2_with fail
      go_region_held (fun w' => w'.cell? ⟨w.heap.size, 0, none⟩ = some (.bool false) ∧ w'.cell? ⟨p3, 1, none⟩ = some (.slice (some ⟨b, o, none⟩) n.recs.length c)) (simp [*]) (fail)
      have X8 := V6.new HV7.out H45.out P4.out P6.out (.cells #[.bool false, .slice (some ⟨b, o, none⟩) k c, .slice none 0 0] 28)
      have hp8 : p3 < w6.heap.size := dl
      have hp45 : w5.heap.size + 1 < w6.heap.size := (Array.getElem?_eq_some_iff.1 P6.out).1
      have hp35 : p3 < w5.heap.size := (Array.getElem?_eq_some_iff.1 HV5.out.b3).1
      refine to_letter X8 ?_
      clear c0 c1 c2 xl d0 d1 d2 dl HV7 H45 P4 P6 X8
      intro W8 HX8
      have HX := hid HX8
      obtain ⟨⟨c0, c1, c2, xl⟩, d0, d1, d2, dl⟩ := HX8.v.cells
      rw [HLF.out] at c0 d0
      clear HX8
      go_wp2_with fail
      go_region_held (fun w' => w'.cell? ⟨w.heap.size, 0, none⟩ = some (.bool false) ∧ w'.cell? ⟨p3, 1, none⟩ = some (.slice (some ⟨b, o, none⟩) n.recs.length c)) (simp [*]) (fail)
      have X9 := V7.new HX.out (.cells #[.bool false, .slice (some ⟨b, o + k, none⟩) (n.recs.length - k) (c - k), .slice none 0 0] 28)
      have hp9 : w6.heap.size < W8.heap.size := (Array.getElem?_eq_some_iff.1 HX.out.p8).1
      refine to_letter X9 ?_
      clear c0 c1 c2 xl d0 d1 d2 dl HX X9
      intro W9 HX9
      generalize W8.heap.size = q9 at *
      generalize w6.heap.size = q8 at *
      have HX := hid HX9
      obtain ⟨⟨c0, c1, c2, xl⟩, d0, d1, d2, dl⟩ := HX9.v.cells
      rw [HLF.out] at c0 d0
      clear HX9
      have j1 : ((k : Int) + 1).toNat = k + 1 := by omega
      have j2 : (0 : Int) ≤ (k : Int) + 1 := by omega
      have j3 : (k : Int) + 1 ≤ (n.recs.length : Int) := by omega
      have j4 : (k : Int) + 1 ≤ (n.kids.length : Int) := by omega
      have j5 : (k : Int) + 1 ≤ (c' : Int) := by omega
      have j6 : (n.kids.length : Int) ≤ (c' : Int) := by omega
      have j7 : ¬ c = k + 1 := by omega
      have j8 : ¬ c' = k + 1 := by omega
      have j9 : IntKind.i64.wrap ((k : Int) + 1) = (k : Int) + 1 := by rw [IntKind.wrap_i64]; omega
      obtain ⟨l80, l81, l82⟩ := node_cells HX.out.p8
      obtain ⟨l90, l91, l92⟩ := node_cells HX.out.p9
      have f8 : ∀ i, W9.frozen? ⟨q8, i, none⟩ = false := fun i => frozen_of_row _ _ _ _ _ HX.out.p8
      have f9 : ∀ i, W9.frozen? ⟨q9, i, none⟩ = false := fun i => frozen_of_row _ _ _ _ _ HX.out.p9
      have hp38 : p3 < q9 := by omega
      have s1 := set_far (p := q8) (q := q9) (by omega)
      go_wp2_with fail
      go_region_held (fun w' => w'.cell? ⟨p3, 1, none⟩ = some (.slice (some ⟨b, o, none⟩) n.recs.length c) ∧ w'.cell? ⟨p3, 2, none⟩ = some (.slice (some ⟨b', o', none⟩) n.kids.length c')) (simp [*]) (fail)
      have X11 := V7.sets HR.out HX.out hp3 hp35 (by omega) (by omega) (by omega) hp9 (.slice (some ⟨b', o', none⟩) (k + 1) c') (.slice (some ⟨b, o + (k + 1), none⟩) (n.recs.length - (k + 1)) (c - (k + 1))) (.slice (some ⟨b', o' + (k + 1), none⟩) (n.kids.length - (k + 1)) (c' - (k + 1)))
      refine to_letter X11 ?_
      clear c0 c1 c2 xl d0 d1 d2 dl l80 l81 l82 l90 l91 l92 f8 f9 s1 X11 HX hal hst
      intro W11 HX11
      have HX := hid HX11
      obtain ⟨⟨c0, c1, c2, xl⟩, d0, d1, d2, dl⟩ := HX11.v.cells
      rw [HLF.out] at c0 d0
      clear HX11
      go_wp2_with fail
      have sma : (No.mk false (n.recs.take k) (n.kids.take (k + 1))).small := ⟨by show (n.recs.take k).length ≤ 1000; omega, by show (n.kids.take (k + 1)).length ≤ 1000; omega, fun x hx => hsm.each x (List.mem_of_mem_take hx)⟩
      have smb : (No.mk false (n.recs.drop (k + 1)) (n.kids.drop (k + 1))).small := ⟨by show (n.recs.drop (k + 1)).length ≤ 1000; omega, by show (n.kids.drop (k + 1)).length ≤ 1000; omega, fun x hx => hsm.each x (List.mem_of_mem_drop hx)⟩
      have NX : ∀ W : World, Below W11.heap.size W11 W → NR W ⟨false, n.recs.take k, n.kids.take (k + 1)⟩ (some ⟨b, o, none⟩) c (some ⟨b', o', none⟩) c' := fun W hb => ⟨by have := ((HX.out.v.nq.nr.below hb).recs.take k); unfold svs at this ⊢; rwa [← List.map_take] at this, by have := ((HX.out.v.nq.nr.below hb).kids.take (k + 1)); unfold ivs at this ⊢; rwa [← List.map_take] at this⟩
      have NY : ∀ W : World, Below W11.heap.size W11 W → NR W ⟨false, n.recs.drop (k + 1), n.kids.drop (k + 1)⟩ (some ⟨b, o + (k + 1), none⟩) (c - (k + 1)) (some ⟨b', o' + (k + 1), none⟩) (c' - (k + 1)) := fun W hb => ⟨by have := ((HX.out.v.nq.nr.below hb).recs.drop (k + 1)); unfold svs at this ⊢; rwa [← List.map_drop] at this, by have := ((HX.out.v.nq.nr.below hb).kids.drop (k + 1)); unfold ivs at this ⊢; rwa [← List.map_drop] at this⟩
      have NA : ∀ W : World, Below W11.heap.size W11 W → NR W ⟨false, n.recs.take k, n.kids.take (k + 1)⟩ (some ⟨g1, f1, none⟩) t1 (some ⟨g2, f2, none⟩) t2 := fun W hb => NR.below ⟨HRA.out, HRB.out⟩ (below_on HX.out.bel hb)
      have NB : ∀ W : World, Below W11.heap.size W11 W → NR W ⟨false, n.recs.drop (k + 1), n.kids.drop (k + 1)⟩ (some ⟨g3, f3, none⟩) t3 (some ⟨g4, f4, none⟩) t4 := fun W hb => NR.below ⟨HRC.out, HRD.out⟩ (below_on HX.out.bel hb)
      have PA := hid (fun (W : World) => plain_walk (n := ⟨false, n.recs.take k, n.kids.take (k + 1)⟩) (a := some ⟨g1, f1, none⟩) (c := t1) (a' := some ⟨g2, f2, none⟩) (c' := t2) (w := W))
      have PB := hid (fun (W : World) => plain_walk (n := ⟨false, n.recs.drop (k + 1), n.kids.drop (k + 1)⟩) (a := some ⟨g3, f3, none⟩) (c := t3) (a' := some ⟨g4, f4, none⟩) (c' := t4) (w := W))
      have SA := hid (fun (W : World) (hb : Below W11.heap.size W11 W) => same_walk (NA W hb) (NX W hb) sma)
      have SB := hid (fun (W : World) (hb : Below W11.heap.size W11 W) => same_walk (NB W hb) (NY W hb) smb)
      have JN := hid (fun (W : World) (hb : Below W11.heap.size W11 W) => join_inner (lf2 := false) (NA W hb).recs (NB W hb).recs (NA W hb).kids (NB W hb).kids (by show (n.recs.take k).length ≤ 1000; omega) (by show (n.recs.drop (k + 1)).length ≤ 1000; omega) (by show (n.kids.take (k + 1)).length ≤ 1001; omega) (by show (n.kids.drop (k + 1)).length ≤ 1001; omega) s)
      have PC := hid (fun (W : World) (z1 z2 : Option Addr) (q1 q2 : Nat) => plain_walk (n := n) (a := z1) (c := q1) (a' := z2) (c' := q2) (w := W))
      have SC := hid (fun (W : World) (hb : Below W11.heap.size W11 W) (z1 z2 : Option Addr) (q1 q2 : Nat) (hn : NR W n z1 q1 z2 q2) => same_walk hn (HX.out.v.nq.nr.below hb) hsm)
      unfold nodeV at PA PB SA SB PC SC
      simp only [la, lb, lc, ld, HLF.out] at PA PB SA SB JN PC SC
      have HCK : Hid (n.recs.take k ++ [s] ++ n.recs.drop (k + 1) = n.recs) := take_mid hsk
      have HCQ : Hid (n.kids.take (k + 1) ++ n.kids.drop (k + 1) = n.kids) := List.take_append_drop _ _
      clear NX NY NA NB sma smb
      have KS : ∀ W : World, Below W11.heap.size W11 W → ((W.cell? ⟨p3, 0, none⟩ = some (.bool false) ∧ W.cell? ⟨p3, 1, none⟩ = some (.slice (some ⟨b, o, none⟩) n.recs.length c) ∧ W.cell? ⟨p3, 2, none⟩ = some (.slice (some ⟨b', o', none⟩) n.kids.length c')) ∧ (W.cell? ⟨w5.heap.size, 0, none⟩ = some (.bool false) ∧ W.cell? ⟨w5.heap.size, 1, none⟩ = some (.slice (some ⟨g1, f1, none⟩) k t1) ∧ W.cell? ⟨w5.heap.size, 2, none⟩ = some (.slice (some ⟨g2, f2, none⟩) (k + 1) t2)) ∧ (W.cell? ⟨w5.heap.size + 1, 0, none⟩ = some (.bool false) ∧ W.cell? ⟨w5.heap.size + 1, 1, none⟩ = some (.slice (some ⟨g3, f3, none⟩) (n.recs.length - (k + 1)) t3) ∧ W.cell? ⟨w5.heap.size + 1, 2, none⟩ = some (.slice (some ⟨g4, f4, none⟩) (n.kids.length - (k + 1)) t4)) ∧ (W.cell? ⟨q8, 0, none⟩ = some (.bool false) ∧ W.cell? ⟨q8, 1, none⟩ = some (.slice (some ⟨b, o, none⟩) k c) ∧ W.cell? ⟨q8, 2, none⟩ = some (.slice (some ⟨b', o', none⟩) (k + 1) c')) ∧ (W.cell? ⟨q9, 0, none⟩ = some (.bool false) ∧ W.cell? ⟨q9, 1, none⟩ = some (.slice (some ⟨b, o + (k + 1), none⟩) (n.recs.length - (k + 1)) (c - (k + 1))) ∧ W.cell? ⟨q9, 2, none⟩ = some (.slice (some ⟨b', o' + (k + 1), none⟩) (n.kids.length - (k + 1)) (c' - (k + 1)))) ∧ W.cell? ⟨b, o + k, none⟩ = some (.string s)) := fun W hb => by
        have h := HX.out.on hb
        have h3 := node_cells h.v.b3
        rw [HLF.out] at h3
        exact ⟨h3, node_cells h.p4, node_cells h.p6, node_cells h.p8, node_cells h.p9, (h.v.nq.bx.below.cell hbn).trans hcn⟩
      have HKS := hid KS
      clear KS
      have tb0 : Below W11.heap.size W11 W11.drew := below_drew W11
      have hkl : (k : Int) < (n.recs.length : Int) := by omega
      have HBW := hid (fun (W : World) (hb : Below W11.heap.size W11 W) => (HX.out.on hb).v.nq.bx.below)
      clear c0 c1 c2 xl d0 d1 d2 dl
      go_region_held (fun w' => (w'.cell? ⟨p3, 0, none⟩ = some (.bool false) ∧ w'.cell? ⟨p3, 1, none⟩ = some (.slice (some ⟨b, o, none⟩) n.recs.length c) ∧ w'.cell? ⟨p3, 2, none⟩ = some (.slice (some ⟨b', o', none⟩) n.kids.length c')) ∧ (w'.cell? ⟨w5.heap.size, 0, none⟩ = some (.bool false) ∧ w'.cell? ⟨w5.heap.size, 1, none⟩ = some (.slice (some ⟨g1, f1, none⟩) k t1) ∧ w'.cell? ⟨w5.heap.size, 2, none⟩ = some (.slice (some ⟨g2, f2, none⟩) (k + 1) t2)) ∧ (w'.cell? ⟨w5.heap.size + 1, 0, none⟩ = some (.bool false) ∧ w'.cell? ⟨w5.heap.size + 1, 1, none⟩ = some (.slice (some ⟨g3, f3, none⟩) (n.recs.length - (k + 1)) t3) ∧ w'.cell? ⟨w5.heap.size + 1, 2, none⟩ = some (.slice (some ⟨g4, f4, none⟩) (n.kids.length - (k + 1)) t4)) ∧ (w'.cell? ⟨q8, 0, none⟩ = some (.bool false) ∧ w'.cell? ⟨q8, 1, none⟩ = some (.slice (some ⟨b, o, none⟩) k c) ∧ w'.cell? ⟨q8, 2, none⟩ = some (.slice (some ⟨b', o', none⟩) (k + 1) c')) ∧ (w'.cell? ⟨q9, 0, none⟩ = some (.bool false) ∧ w'.cell? ⟨q9, 1, none⟩ = some (.slice (some ⟨b, o + (k + 1), none⟩) (n.recs.length - (k + 1)) (c - (k + 1))) ∧ w'.cell? ⟨q9, 2, none⟩ = some (.slice (some ⟨b', o' + (k + 1), none⟩) (n.kids.length - (k + 1)) (c' - (k + 1)))) ∧ w'.cell? ⟨b, o + k, none⟩ = some (.string s)) (exact HKS.out _ (by assumption)) (first
        | (go_at_call 11; with_reducible refine (PA.out _).mono ?_; rintro e wa ⟨rfl, Ba⟩; have tb1 : Below W11.heap.size W11 wa := below_on tb0 Ba; clear PA Ba)
        | (go_at_call 19; with_reducible refine (SA.out _ tb1).mono ?_; rintro e wb ⟨rfl, Bb⟩; have tb2 : Below W11.heap.size W11 wb := below_on tb1 Bb; clear SA Bb)
        | (go_at_call 11; with_reducible refine (PB.out _).mono ?_; rintro e wc ⟨rfl, Bc⟩; have tb3 : Below W11.heap.size W11 wc := below_on tb2 Bc; clear PB Bc)
        | (go_at_call 19; with_reducible refine (SB.out _ tb3).mono ?_; rintro e wd ⟨rfl, Bd⟩; have tb4 : Below W11.heap.size W11 wd := below_on tb3 Bd; clear SB Bd)
        | (go_at_call 26
           with_reducible refine (JN.out _ tb4).mono ?_
           rintro e we ⟨rj, kj, rfl, hj⟩
           rw [HCK.out, HCQ.out] at hj
           have tb5 : Below W11.heap.size W11 we := below_on tb4 hj.below
           obtain ⟨z1, q1, rfl, rj1, _, _⟩ := owns_rd hj.o1
           obtain ⟨z2, q2, rfl, rj2, _, _⟩ := owns_rd hj.o2
           have NRC := hid (show NR we n z1 q1 z2 q2 from ⟨rj1, rj2⟩)
           clear hj rj1 rj2 JN)
        | (go_at_call 11; with_reducible refine (PC.out _ z1 z2 q1 q2).mono ?_; rintro e wf ⟨rfl, Bf⟩; have tb6 : Below W11.heap.size W11 wf := below_on tb5 Bf; have NRD := hid (NRC.out.below Bf); clear PC Bf)
        | (go_at_call 19; with_reducible refine (SC.out _ tb6 z1 z2 q1 q2 NRD.out).mono ?_; rintro e wg ⟨rfl, Bg⟩; have tb7 : Below W11.heap.size W11 wg := below_on tb6 Bg; clear SC Bg))
      go_wp2
      go_ret
      exact ⟨rfl, HBW.out _ tb7⟩
    · rw [hlf] at c0 d0
      have HLF : Hid (n.leaf = true) := hlf
      have h1 := hsm.recs
      obtain ⟨s, hsk⟩ : ∃ s, n.recs[cutN 4 0 n.recs]? = some s := ⟨_, List.getElem?_eq_getElem (by have := cutN_le 4 0 n.recs (by omega); omega)⟩
      have hcl := cutN_le 4 0 n.recs (by omega)
      have HSP := hid (split_leaf HV4.out.nq.nr hsm hlf (by omega) _ rfl s hsk)
      have HCT := hid (fun (W : World) (hv : V2 w n a c a' c' p3 W) => cut_walk (n := n) hv.nq.nr hsm (by unfold No.gap; rw [hlf]; show 0 + 2 ≤ _; omega))
      rw [cut_leaf hlf] at HCT
      unfold nodeV at HSP HCT
      rw [hlf] at HSP HCT
      clear hlf
      obtain ⟨k, hk⟩ : ∃ k, Hid (cutN 4 0 n.recs = k) := ⟨_, rfl⟩
      rw [hk.out] at HSP HCT hsk hcl
      go_wp2_with fail
      refine HSP.out.mono ?_
      rintro e w5 ⟨r1, k1, r2, k2, rfl, HV⟩
      clear HSP
      obtain ⟨b, o, rfl, hbn, hcn⟩ := HR.out.recs.2.2 k (.string s) (by simp [svs, hsk])
      have la : (n.recs.take k).length = k := by simp; omega
      have lb : (n.recs.drop k).length = n.recs.length - k := List.length_drop
      have oa := HV.a1
      have ob := HV.a2
      have oc := HV.b1
      have od := HV.b2
      rw [show (leafL n k).recs.length = k from la, show (leafL n k).recs = n.recs.take k from rfl] at oa
      rw [show (leafL n k).kids.length = 0 from rfl, show (leafL n k).kids = [] from rfl] at ob
      rw [show (leafR n k).recs.length = n.recs.length - k from lb, show (leafR n k).recs = n.recs.drop k from rfl] at oc
      rw [show (leafR n k).kids.length = 0 from rfl, show (leafR n k).kids = [] from rfl] at od
      obtain ⟨y1, t1, rfl, ra, _, _⟩ := owns_rd oa
      obtain ⟨y2, t2, rfl, rb, _, _⟩ := owns_rd ob
      obtain ⟨y3, t3, rfl, rc, _, _⟩ := owns_rd oc
      obtain ⟨y4, t4, rfl, rd, _, _⟩ := owns_rd od
      obtain ⟨g1, f1, rfl, _, _⟩ := ra.str 0 (by rw [la]; omega)
      obtain ⟨g3, f3, rfl, _, _⟩ := rc.str 0 (by rw [lb]; omega)
      have HRA := hid ra
      have HRB := hid rb
      have HRC := hid rc
      have HRD := hid rd
      have HV5 := hid (HV4.out.on HV.below)
      clear c0 c1 c2 xl d0 d1 d2 dl oa ob oc od ra rb rc rd HV HV4
      have BK := hid (blocks2 w5 (.cells #[.bool true, .slice (some ⟨g1, f1, none⟩) k t1, .slice y2 0 t2] 25) (.cells #[.bool true, .slice (some ⟨g3, f3, none⟩) (n.recs.length - k) t3, .slice y4 0 t4] 25))
      have HV6 := hid (HV5.out.on BK.out.2.2)
      obtain ⟨⟨c0, c1, c2, xl⟩, d0, d1, d2, dl⟩ := HV6.out.cells
      rw [HLF.out] at c0 d0
      go_wp2_with fail
      generalize (w5.alloc (.cells #[.bool true, .slice (some ⟨g1, f1, none⟩) k t1, .slice y2 0 t2] 25)).alloc (.cells #[.bool true, .slice (some ⟨g3, f3, none⟩) (n.recs.length - k) t3, .slice y4 0 t4] 25) = W5 at *
      refine (HCT.out W5 HV6.out).mono ?_
      rintro e w6 ⟨rfl, B6⟩
      have HV7 := hid (HV6.out.on B6)
      have H45 := hid (below_on BK.out.2.2 B6)
      have p4 : w6.heap[w5.heap.size]? = some (.cells #[.bool true, .slice (some ⟨g1, f1, none⟩) k t1, .slice y2 0 t2] 25 (0, 0)) := (B6.block _ (Array.getElem?_eq_some_iff.1 BK.out.1).1).trans BK.out.1
      have p6 : w6.heap[w5.heap.size + 1]? = some (.cells #[.bool true, .slice (some ⟨g3, f3, none⟩) (n.recs.length - k) t3, .slice y4 0 t4] 25 (0, 0)) := (B6.block _ (Array.getElem?_eq_some_iff.1 BK.out.2.1).1).trans BK.out.2.1
      have P4 := hid p4
      have P6 := hid p6
      clear c0 c1 c2 xl d0 d1 d2 dl HV6 B6 BK p4 p6 HCT
      obtain ⟨⟨c0, c1, c2, xl⟩, d0, d1, d2, dl⟩ := HV7.out.cells
      rw [HLF.out] at c0 d0
      have i1 : (k : Int) ≤ (c : Int) := by omega
      have i2 : (k : Int) ≤ (n.recs.length : Int) := by omega
      have i3 : (n.recs.length : Int) ≤ (c : Int) := by omega
      have i4 : ¬ c = k := by omega
      have i5 : ¬ c - k = 0 := by omega
      have hal : ∀ (W : World) (ob : Obj) (q o : Nat), q < W.heap.size → (W.alloc ob).cell? ⟨q, o, none⟩ = W.cell? ⟨q, o, none⟩ := fun W ob q o h => (below_alloc W ob).cell h
      have hst : ∀ (W : World) (p q o : Nat) (u : Value) (o' : Nat), q < p → (W.setCell ⟨p, o, none⟩ u).cell? ⟨q, o', none⟩ = W.cell? ⟨q, o', none⟩ := fun W p q o u o' h => set_far (by omega) W o u o'
      go_wp2_with fail
      go_region_held (fun w' => w'.cell? ⟨w.heap.size, 0, none⟩ = some (.bool true) ∧ w'.cell? ⟨p3, 1, none⟩ = some (.slice (some ⟨b, o, none⟩) n.recs.length c)) (simp [*]) (fail)
      have X8 := V6.new HV7.out H45.out P4.out P6.out (.cells #[.bool true, .slice (some ⟨b, o, none⟩) k c, .slice none 0 0] 28)
      have hp8 : p3 < w6.heap.size := dl
      have hp45 : w5.heap.size + 1 < w6.heap.size := (Array.getElem?_eq_some_iff.1 P6.out).1
      refine to_letter X8 ?_
      clear c0 c1 c2 xl d0 d1 d2 dl HV7 H45 P4 P6 X8
      intro W8 HX8
      have HX := hid HX8
      obtain ⟨⟨c0, c1, c2, xl⟩, d0, d1, d2, dl⟩ := HX8.v.cells
      rw [HLF.out] at c0 d0
      clear HX8
      go_wp2_with fail
      go_region_held (fun w' => w'.cell? ⟨w.heap.size, 0, none⟩ = some (.bool true) ∧ w'.cell? ⟨p3, 1, none⟩ = some (.slice (some ⟨b, o, none⟩) n.recs.length c)) (simp [*]) (fail)
      have X9 := V7.new HX.out (.cells #[.bool true, .slice (some ⟨b, o + k, none⟩) (n.recs.length - k) (c - k), .slice none 0 0] 28)
      have hp9 : w6.heap.size < W8.heap.size := (Array.getElem?_eq_some_iff.1 HX.out.p8).1
      refine to_letter X9 ?_
      clear c0 c1 c2 xl d0 d1 d2 dl HX X9
      intro W9 HX9
      generalize W8.heap.size = q9 at *
      generalize w6.heap.size = q8 at *
      have HX := hid HX9
      obtain ⟨⟨c0, c1, c2, xl⟩, d0, d1, d2, dl⟩ := HX9.v.cells
      rw [HLF.out] at c0 d0
      clear HX9
      go_wp2_with fail
      have hk0 : n.kids = [] := by
        rw [shaped_eq, Bool.and_eq_true] at hshp
        have := hshp.2
        unfold numbB at this
        rw [HLF.out, if_pos rfl, beq_iff_eq] at this
        exact List.eq_nil_of_length_eq_zero this
      have sma : (No.mk true (n.recs.take k) []).small := ⟨by show (n.recs.take k).length ≤ 1000; omega, Nat.zero_le _, fun x hx => hsm.each x (List.mem_of_mem_take hx)⟩
      have smb : (No.mk true (n.recs.drop k) []).small := ⟨by show (n.recs.drop k).length ≤ 1000; omega, Nat.zero_le _, fun x hx => hsm.each x (List.mem_of_mem_drop hx)⟩
      have NX : ∀ W : World, Below W9.heap.size W9 W → NR W ⟨true, n.recs.take k, []⟩ (some ⟨b, o, none⟩) c none 0 := fun W hb => ⟨by have := ((HX.out.v.nq.nr.below hb).recs.take k); unfold svs at this ⊢; rwa [← List.map_take] at this, rd_nil _⟩
      have NY : ∀ W : World, Below W9.heap.size W9 W → NR W ⟨true, n.recs.drop k, []⟩ (some ⟨b, o + k, none⟩) (c - k) none 0 := fun W hb => ⟨by have := ((HX.out.v.nq.nr.below hb).recs.drop k); unfold svs at this ⊢; rwa [← List.map_drop] at this, rd_nil _⟩
      have NA : ∀ W : World, Below W9.heap.size W9 W → NR W ⟨true, n.recs.take k, []⟩ (some ⟨g1, f1, none⟩) t1 y2 t2 := fun W hb => NR.below ⟨HRA.out, HRB.out⟩ (below_on HX.out.bel hb)
      have NB : ∀ W : World, Below W9.heap.size W9 W → NR W ⟨true, n.recs.drop k, []⟩ (some ⟨g3, f3, none⟩) t3 y4 t4 := fun W hb => NR.below ⟨HRC.out, HRD.out⟩ (below_on HX.out.bel hb)
      have PA := hid (fun (W : World) => plain_walk (n := ⟨true, n.recs.take k, []⟩) (a := some ⟨g1, f1, none⟩) (c := t1) (a' := y2) (c' := t2) (w := W))
      have PB := hid (fun (W : World) => plain_walk (n := ⟨true, n.recs.drop k, []⟩) (a := some ⟨g3, f3, none⟩) (c := t3) (a' := y4) (c' := t4) (w := W))
      have SA := hid (fun (W : World) (hb : Below W9.heap.size W9 W) => same_walk (NA W hb) (NX W hb) sma)
      have SB := hid (fun (W : World) (hb : Below W9.heap.size W9 W) => same_walk (NB W hb) (NY W hb) smb)
      have JN := hid (fun (W : World) (hb : Below W9.heap.size W9 W) => join_leaf (ka := y2) (kn := 0) (kc := t2) (kb := y4) (km := 0) (kd := t4) (lf2 := true) (NA W hb).recs (NB W hb).recs (by show (n.recs.take k).length ≤ 1000; omega) (by show (n.recs.drop k).length ≤ 1000; omega) s)
      have PC := hid (fun (W : World) (z1 z2 : Option Addr) (q1 q2 : Nat) => plain_walk (n := n) (a := z1) (c := q1) (a' := z2) (c' := q2) (w := W))
      have SC := hid (fun (W : World) (hb : Below W9.heap.size W9 W) (z1 z2 : Option Addr) (q1 q2 : Nat) (hn : NR W n z1 q1 z2 q2) => same_walk hn (HX.out.v.nq.nr.below hb) hsm)
      unfold nodeV at PA PB SA SB PC SC
      simp only [la, lb, List.length_nil, HLF.out, hk0] at PA PB SA SB JN PC SC
      rw [hk0, List.length_nil] at c2 d2
      have HCK : Hid (n.recs.take k ++ n.recs.drop k = n.recs) := List.take_append_drop k n.recs
      clear NX NY NA NB sma smb
      have KS : ∀ W : World, Below W9.heap.size W9 W → ((W.cell? ⟨p3, 0, none⟩ = some (.bool true) ∧ W.cell? ⟨p3, 1, none⟩ = some (.slice (some ⟨b, o, none⟩) n.recs.length c) ∧ W.cell? ⟨p3, 2, none⟩ = some (.slice a' 0 c')) ∧ (W.cell? ⟨w5.heap.size, 0, none⟩ = some (.bool true) ∧ W.cell? ⟨w5.heap.size, 1, none⟩ = some (.slice (some ⟨g1, f1, none⟩) k t1) ∧ W.cell? ⟨w5.heap.size, 2, none⟩ = some (.slice y2 0 t2)) ∧ (W.cell? ⟨w5.heap.size + 1, 0, none⟩ = some (.bool true) ∧ W.cell? ⟨w5.heap.size + 1, 1, none⟩ = some (.slice (some ⟨g3, f3, none⟩) (n.recs.length - k) t3) ∧ W.cell? ⟨w5.heap.size + 1, 2, none⟩ = some (.slice y4 0 t4)) ∧ (W.cell? ⟨q8, 0, none⟩ = some (.bool true) ∧ W.cell? ⟨q8, 1, none⟩ = some (.slice (some ⟨b, o, none⟩) k c) ∧ W.cell? ⟨q8, 2, none⟩ = some (.slice none 0 0)) ∧ (W.cell? ⟨q9, 0, none⟩ = some (.bool true) ∧ W.cell? ⟨q9, 1, none⟩ = some (.slice (some ⟨b, o + k, none⟩) (n.recs.length - k) (c - k)) ∧ W.cell? ⟨q9, 2, none⟩ = some (.slice none 0 0)) ∧ W.cell? ⟨b, o + k, none⟩ = some (.string s)) := fun W hb => by
        have h := HX.out.on hb
        have h3 := node_cells h.v.b3
        rw [HLF.out, hk0, List.length_nil] at h3
        exact ⟨h3, node_cells h.p4, node_cells h.p6, node_cells h.p8, node_cells h.p9, (h.v.nq.bx.below.cell hbn).trans hcn⟩
      have HKS := hid KS
      clear KS
      have tb0 : Below W9.heap.size W9 W9.drew := below_drew W9
      have hkl : (k : Int) < (n.recs.length : Int) := by omega
      have HBW := hid (fun (W : World) (hb : Below W9.heap.size W9 W) => (HX.out.on hb).v.nq.bx.below)
      clear c0 c1 c2 xl d0 d1 d2 dl hal hst
      go_region_held (fun w' => (w'.cell? ⟨p3, 0, none⟩ = some (.bool true) ∧ w'.cell? ⟨p3, 1, none⟩ = some (.slice (some ⟨b, o, none⟩) n.recs.length c) ∧ w'.cell? ⟨p3, 2, none⟩ = some (.slice a' 0 c')) ∧ (w'.cell? ⟨w5.heap.size, 0, none⟩ = some (.bool true) ∧ w'.cell? ⟨w5.heap.size, 1, none⟩ = some (.slice (some ⟨g1, f1, none⟩) k t1) ∧ w'.cell? ⟨w5.heap.size, 2, none⟩ = some (.slice y2 0 t2)) ∧ (w'.cell? ⟨w5.heap.size + 1, 0, none⟩ = some (.bool true) ∧ w'.cell? ⟨w5.heap.size + 1, 1, none⟩ = some (.slice (some ⟨g3, f3, none⟩) (n.recs.length - k) t3) ∧ w'.cell? ⟨w5.heap.size + 1, 2, none⟩ = some (.slice y4 0 t4)) ∧ (w'.cell? ⟨q8, 0, none⟩ = some (.bool true) ∧ w'.cell? ⟨q8, 1, none⟩ = some (.slice (some ⟨b, o, none⟩) k c) ∧ w'.cell? ⟨q8, 2, none⟩ = some (.slice none 0 0)) ∧ (w'.cell? ⟨q9, 0, none⟩ = some (.bool true) ∧ w'.cell? ⟨q9, 1, none⟩ = some (.slice (some ⟨b, o + k, none⟩) (n.recs.length - k) (c - k)) ∧ w'.cell? ⟨q9, 2, none⟩ = some (.slice none 0 0)) ∧ w'.cell? ⟨b, o + k, none⟩ = some (.string s)) (exact HKS.out _ (by assumption)) (first
        | (go_at_call 11; with_reducible refine (PA.out _).mono ?_; rintro e wa ⟨rfl, Ba⟩; have tb1 : Below W9.heap.size W9 wa := below_on tb0 Ba; clear PA Ba)
        | (go_at_call 19; with_reducible refine (SA.out _ tb1).mono ?_; rintro e wb ⟨rfl, Bb⟩; have tb2 : Below W9.heap.size W9 wb := below_on tb1 Bb; clear SA Bb)
        | (go_at_call 11; with_reducible refine (PB.out _).mono ?_; rintro e wc ⟨rfl, Bc⟩; have tb3 : Below W9.heap.size W9 wc := below_on tb2 Bc; clear PB Bc)
        | (go_at_call 19; with_reducible refine (SB.out _ tb3).mono ?_; rintro e wd ⟨rfl, Bd⟩; have tb4 : Below W9.heap.size W9 wd := below_on tb3 Bd; clear SB Bd)
        | (go_at_call 26
           with_reducible refine (JN.out _ tb4).mono ?_
           rintro e we ⟨rj, kj, rfl, hj⟩
           rw [HCK.out] at hj
           have tb5 : Below W9.heap.size W9 we := below_on tb4 hj.below
           obtain ⟨z1, q1, rfl, rj1, _, _⟩ := owns_rd hj.o1
           have hj2 := hj.o2
           rw [List.length_nil] at hj2
           obtain ⟨z2, q2, rfl, rj2, _, _⟩ := owns_rd hj2
           have NRC := hid (show NR we n z1 q1 z2 q2 from ⟨rj1, by rw [hk0]; exact rj2⟩)
           clear hj hj2 rj1 rj2 JN)
        | (go_at_call 11; with_reducible refine (PC.out _ z1 z2 q1 q2).mono ?_; rintro e wf ⟨rfl, Bf⟩; have tb6 : Below W9.heap.size W9 wf := below_on tb5 Bf; have NRD := hid (NRC.out.below Bf); clear PC Bf)
        | (go_at_call 19; with_reducible refine (SC.out _ tb6 z1 z2 q1 q2 NRD.out).mono ?_; rintro e wg ⟨rfl, Bg⟩; have tb7 : Below W9.heap.size W9 wg := below_on tb6 Bg; clear SC Bg))
      go_wp2
      go_ret
      exact ⟨rfl, HBW.out _ tb7⟩
  · go_wp2
    go_ret
    exact ⟨rfl, HV3.out.nq.bx.below⟩
end Go.Proofs.Ytmelakljiimlgaa
