/-
  PageOwns: its walk.
-/
import Derived.Deep.RegionHeldLaw
import Derived.Deep.CutRange
import Derived.Test.YtgpahhlmpdnbpaaNdH
import Derived.Test.YtgpahhlmpdnbpaaSpI
import Derived.Test.YtgpahhlmpdnbpaaSpK
import Derived.Test.YtgpahhlmpdnbpaaPgOwB
import Derived.Test.YtgpahhlmpdnbpaaOneC
namespace Go.Proofs.Ytgpahhlmpdnbpaa
open Go.RowKit

set_option maxRecDepth 100000 in
set_option maxHeartbeats 2000000 in
theorem pgowns_walk {n : No} {a : Option Addr} {c : Nat} {a' : Option Addr} {c' : Nat} {w : World} (hr : NR w n a c a' c') (hnil : a' = none → c' = 0) :
    Calls Try.prog 4 #[nodeV n a c a' c'] w fun e w' => e = .returned (.bool true) ∧ Below w.heap.size w w' := by
  have HN : Hid (Nq w n a c a' c' (w.alloc (.cells #[.bool n.leaf, .slice a n.recs.length c, .slice a' n.kids.length c'] 25))) := Nq.new hr _
  have hcap : n.recs.length ≤ c := by have := hr.recs.1; rwa [svs_length] at this
  have hcm := hr.recs.2.1
  have hcap' : n.kids.length ≤ c' := by have := hr.kids.1; rwa [ivs_length] at this
  have hcm' := hr.kids.2.1
  unfold maxLen at hcm hcm'
  have HR : Hid (NR w n a c a' c') := hr
  clear hr
  go_enter Try.func4, Try.ntmps4
  unfold nodeV
  go_wp2_with fail
  refine (awake_walk _).mono ?_
  rintro e w1 ⟨rfl, B1⟩
  have HN1 : Hid (Nq w n a c a' c' w1) := HN.out.on B1
  have c0 := HN1.out.bx.c0
  have c1 := HN1.out.bx.c1
  have c2 := HN1.out.bx.c2
  have xl := HN1.out.bx.lt
  clear HN B1
  go_wp2_with fail
  refine (great_walk (n := n) HN1.out.nr).mono ?_
  rintro e w2 ⟨rfl, B2⟩
  have HN2 : Hid (Nq w n a c a' c' w2) := HN1.out.on B2
  clear c0 c1 c2 xl HN1 B2
  have c0 := HN2.out.bx.c0
  have c1 := HN2.out.bx.c1
  have c2 := HN2.out.bx.c2
  have xl := HN2.out.bx.lt
  cases hg : greatB n
  · have hsm := small_of_great hg
    go_wp2_with fail
    refine (plain_walk (n := n)).mono ?_
    rintro e w3 ⟨rfl, B3⟩
    have HN3 : Hid (Nq w n a c a' c' w3) := HN2.out.on B3
    clear c0 c1 c2 xl HN2 B3
    unfold nodeV
    go_wp2_with fail
    refine (shaped_walk (n := n) HN3.out.nr hsm).mono ?_
    rintro e w4 ⟨rfl, B4⟩
    have HN4 : Hid (Nq w n a c a' c' w4) := HN3.out.on B4
    clear HN3 B4
    have c0 := HN4.out.bx.c0
    have c1 := HN4.out.bx.c1
    have c2 := HN4.out.bx.c2
    have xl := HN4.out.bx.lt
    cases hshp : n.shaped
    · go_wp2
      go_ret
      exact ⟨rfl, HN4.out.bx.below⟩
    by_cases hl3 : n.recs.length < 3
    · have hl3' : (n.recs.length : Int) < 3 := by omega
      go_wp2
      go_ret
      exact ⟨rfl, HN4.out.bx.below⟩
    have hl3' : (3 : Int) ≤ (n.recs.length : Int) := by omega
    have h1 := hsm.recs
    have h2 := hsm.kids
    obtain ⟨b, o, rfl, hbn, hcn⟩ := HR.out.recs.str 0 (by omega)
    clear hcn
    have HS1 : Hid (∀ W, Below w4.heap.size w4 W → Rw.Src W (some ⟨b, o, none⟩) n.recs.length c (svs n.recs)) := fun W hW => Or.inr ⟨_, rfl, fun j u hu => by
      obtain ⟨b1, o1, e1, _, h3⟩ := (HN4.out.on hW).nr.recs.2.2 j u hu
      cases e1
      rw [show (⟨b, o, none⟩ : Addr).add j = ⟨b, o + j, none⟩ by unfold Addr.add; split <;> simp_all]
      exact h3⟩
    have HS2 : Hid (∀ W, Below w4.heap.size w4 W → Rw.Src W a' n.kids.length c' (ivs n.kids)) := fun W hW => by
      cases ha : a' with
      | none =>
        have h0 := hnil ha
        have h00 : n.kids.length = 0 := by omega
        exact Or.inl ⟨rfl, h00, h0, by rw [List.length_eq_zero_iff.1 h00]; rfl⟩
      | some ad =>
        refine Or.inr ⟨ad, rfl, fun j u hu => ?_⟩
        obtain ⟨b1, o1, e1, _, h3⟩ := (HN4.out.on hW).nr.kids.2.2 j u hu
        rw [ha] at e1
        cases e1
        rw [show (⟨b1, o1, none⟩ : Addr).add j = ⟨b1, o1 + j, none⟩ by unfold Addr.add; split <;> simp_all]
        exact h3
    have HKS : Hid (∀ W, Below w4.heap.size w4 W → W.cell? ⟨w.heap.size, 0, none⟩ = some (.bool n.leaf) ∧ W.cell? ⟨w.heap.size, 1, none⟩ = some (.slice (some ⟨b, o, none⟩) n.recs.length c) ∧ W.cell? ⟨w.heap.size, 2, none⟩ = some (.slice a' n.kids.length c')) := fun W hW => ⟨(HN4.out.on hW).bx.c0, (HN4.out.on hW).bx.c1, (HN4.out.on hW).bx.c2⟩
    go_upto_region 5 with fail
    go_cut [3] from 28 to 38 (fun s3 wx => ∃ p ra rc ka kc, s3 = .pointer (some ⟨p, 0, none⟩) ∧ Hid (Nq w n (some ⟨b, o, none⟩) c a' c' wx) ∧ Hid (w.heap.size < p ∧ wx.heap[p]? = some (.cells #[.bool n.leaf, .slice ra n.recs.length rc, .slice ka n.kids.length kc] 27 (0, 0))) ∧ Hid (NR wx n ra rc ka kc))
    case first =>
      refine Rw.one_copy (s := 28) (x := 3) (xs := 1) (X := w.heap.size) (by kernel_rfl)
        ⟨⟨_, rfl, rfl, rfl, rfl⟩, ⟨_, rfl, rfl, rfl, rfl, by kernel_rfl⟩, ⟨_, rfl, rfl, rfl, rfl⟩, ⟨_, rfl, rfl, rfl, rfl⟩, ⟨_, rfl, rfl, rfl, rfl, by kernel_rfl⟩, ⟨_, rfl, rfl, rfl, rfl, by kernel_rfl, by kernel_rfl⟩, ⟨_, rfl, rfl, rfl, rfl⟩, ⟨_, rfl, rfl, rfl, rfl⟩, ⟨_, rfl, rfl, rfl, rfl, by kernel_rfl⟩, ⟨_, rfl, rfl, rfl, rfl, by kernel_rfl, by kernel_rfl⟩, ⟨_, rfl, rfl, rfl, rfl, by kernel_rfl, by kernel_rfl, by kernel_rfl⟩, ⟨_, rfl, rfl, rfl, rfl⟩, ⟨_, rfl, rfl, rfl, rfl, by kernel_rfl, by kernel_rfl⟩, rfl, by kernel_rfl⟩
        (by simp) (by decide) (by decide) (by decide) rfl HKS.out HS1.out HS2.out (by rw [svs_length, Nat.mul_one]) (by rw [ivs_length, Nat.mul_one]) (one_svs _) (one_ivs _) (by omega) (by omega) ?_
      intro v0 v1 v2 v3 v4 v5 v6 v7 v8 v9 v10 W p ra rc ka kc g1 g2 g3 g4 g5
      have G2 := hid (HN4.out.on g1)
      have G3 := hid (And.intro (Nat.lt_of_lt_of_le xl g2) g3)
      have G4 := hid (NR.mk (owns_rd_s g4) (owns_rd_s g5))
      clear g1 g2 g3 g4 g5
      simp only [Act.put, List.setIfInBounds_toArray, List.set_cons_succ, List.set_cons_zero]
      go_wp2_with fail
      go_meet
      case rel => exact ⟨p, ra, rc, ka, kc, rfl, G2, G3, G4⟩
    case rest =>
      obtain ⟨p, ra, rc, ka, kc, rfl, HN5, HWAS, HNW⟩ := hcut
      clear HS1 HS2 HKS HN4 c0 c1 c2 xl
      have c0 := HN5.out.bx.c0
      have c1 := HN5.out.bx.c1
      have c2 := HN5.out.bx.c2
      have xl := HN5.out.bx.lt
      go_wp2_with fail
      refine (split_any HN5.out.nr hsm (by omega) hshp).mono ?_
      rintro e w6 ⟨sp, y1, n1, t1, y2, n2, t2, y3, n3, t3, y4, n4, t4, rfl, HP⟩
      have HN6 : Hid (Nq w n (some ⟨b, o, none⟩) c a' c' w6) := HN5.out.on HP.out.below
      have HS6 : Hid (Below wc.heap.size wc w6) := HP.out.below
      clear c0 c1 c2 xl
      go_wp2_with fail
      have HB7 : Hid (Two w6 n.leaf (.slice y1 n1 t1) (.slice y2 n2 t2) (.slice y3 n3 t3) (.slice y4 n4 t4) ((w6.alloc (.cells #[.bool n.leaf, .slice y1 n1 t1, .slice y2 n2 t2] 25)).alloc (.cells #[.bool n.leaf, .slice y3 n3 t3, .slice y4 n4 t4] 25))) := Two.new
      refine (HP.out.join _ HB7.out.below).mono ?_
      rintro e w7 ⟨y5, n5, t5, y6, n6, t6, rfl, hj1, hj2, hj3⟩
      have HJ1 := hid (OwnS.base hj1 HB7.out.below.size)
      have HJ2 := hid (OwnI.base hj2 HB7.out.below.size)
      have HT := hid (HB7.out.on hj3)
      have HN7 : Hid (Nq w n (some ⟨b, o, none⟩) c a' c' w7) := HN6.out.on HT.out.below
      clear hj1 hj2 hj3 HB7
      obtain ⟨f0, f1, f2, f3, f4, f5, f6⟩ := HT.out.cells
      have f7 : w6.heap.size < w7.heap.size := by omega
      have HL : Hid (LI wc (w7.heap.size + 1) n.leaf ⟨y1, n1, t1, y2, n2, t2⟩ ⟨y3, n3, t3, y4, n4, t4⟩ ⟨y5, n5, t5, y6, n6, t6⟩ 0 ((w7.alloc (.cells #[.bool n.leaf, .slice y5 n5 t5, .slice y6 n6 t6] 25)).alloc (.cells (nine n.leaf ⟨y1, n1, t1, y2, n2, t2⟩ ⟨y3, n3, t3, y4, n4, t4⟩ ⟨y5, n5, t5, y6, n6, t6⟩) 25))) := LI.start HP.out HT.out.below HJ1.out HJ2.out _
      go_wp2_with fail
      clear f0 f1 f2 f3 f4 f5 f6 f7
      obtain ⟨T1, T2, T3, HL⟩ : ∃ T1 T2 T3, Hid (LI wc (w7.heap.size + 1) n.leaf T1 T2 T3 0 ((w7.alloc (.cells #[.bool n.leaf, .slice y5 n5 t5, .slice y6 n6 t6] 25)).alloc (.cells #[.bool n.leaf, .slice y1 n1 t1, .slice y2 n2 t2, .bool n.leaf, .slice y3 n3 t3, .slice y4 n4 t4, .bool n.leaf, .slice y5 n5 t5, .slice y6 n6 t6] 25))) := ⟨_, _, _, HL⟩
      generalize hQ : w7.heap.size + 1 = Q at *
      clear hQ
      go_loopw [54] (fun i wr => ∃ j : Nat, j ≤ 3 ∧ i = .int .i64 (j : Int) ∧ Hid (LI wc Q n.leaf T1 T2 T3 j wr)) (fun i _ => 3 - (intOf i).toNat)
      case atStart => exact ⟨0, by omega, rfl, HL⟩
      case round =>
        clear HL
        obtain ⟨j, hj, rfl, HI⟩ := hrel
        by_cases hlt : j < 3
        · obtain ⟨W0, rfl⟩ : ∃ W0, W0 = wr := ⟨_, rfl⟩
          obtain ⟨⟨ta, tn, tc, ta', tn', tc'⟩, ht, c0, c1, c2, hown, ql⟩ := HI.out.cells hlt
          have HT1 := hid ht
          have HO := hid hown
          clear ht hown
          unfold Tr.r at c1
          unfold Tr.k at c2
          obtain ⟨z1, z2, ⟨xs0, hx0⟩, ⟨ys0, hy0⟩⟩ := HO.out
          have z1 : tn ≤ 2100 := z1
          have z2 : tn' ≤ 2100 := z2
          have HIT := hid (ItR.new HI.out.below HI.out.below.size hx0 hy0)
          unfold Tr.r at hx0
          unfold Tr.k at hy0
          unfold Tr.r Tr.k at HIT
          clear hx0 hy0 HL HJ1 HJ2 HT HN7 HP HN6 HS6
          go_wp2_with (first | (at_builtin; revert HIT) | go_in)
          intro HIT
          refine to_letter (F := fun W => Below W0.heap.size W0 W ∧ W.heap[W0.heap.size]? = some (.cells #[.bool n.leaf, .slice ta tn tc, .slice ta' tn' tc'] 25 (0, 0)) ∧ Rw.Src W (some ⟨W0.heap.size + 1, 0, none⟩) 1 1 [.string ⟨#[122]⟩]) ⟨?_, ?_, ?_⟩ ?_
          · exact (below_alloc W0 _).alloc (by simp) _
          · rw [(below_alloc (W0.alloc _) _).block _ (by simp)]; exact heap_alloc_last _ _
          · exact Rw.src_new _ [.string ⟨#[122]⟩] _ 1 1 (by simp)
          rintro U ⟨bU, xU, sU⟩
          have I0 := HIT.out.on bU
          obtain ⟨xs, o1⟩ := I0.o1
          refine Rw.append_src Try.underlying22 Rw.infoS rfl (by decide) (by decide) rfl _ _ rfl wc.heap.size (Nat.le_trans I0.base I0.size) _ tn xs rfl o1 _ 1 1 [.string ⟨#[122]⟩] rfl sU rfl (by simp [Value.oneCell']) (by omega) ?_
          intro v2 W2 O2 G2 V2
          have HI1 := hid (I0.grow1 G2 O2 V2)
          have HX1 := hid ((G2.block _ (Array.getElem?_eq_some_iff.1 xU).1 (own_ne_tag o1 xU (by decide))).trans xU)
          obtain ⟨sa, sc, rfl, _⟩ := owns_rd O2
          clear bU xU sU I0 o1 O2 G2 V2 HIT c0 c1 c2 ql
          obtain ⟨⟨d0, d1, d2, dl⟩, dx⟩ : (W2.cell? ⟨W0.heap.size, 0, none⟩ = some (.bool n.leaf) ∧ W2.cell? ⟨W0.heap.size, 1, none⟩ = some (.slice ta tn tc) ∧ W2.cell? ⟨W0.heap.size, 2, none⟩ = some (.slice ta' tn' tc') ∧ W0.heap.size < W2.heap.size) ∧ W2.frozen? ⟨W0.heap.size, 1, none⟩ = false := ⟨⟨by rw [cell_of_row _ _ _ _ _ _ HX1.out]; rfl, by rw [cell_of_row _ _ _ _ _ _ HX1.out]; rfl, by rw [cell_of_row _ _ _ _ _ _ HX1.out]; rfl, (Array.getElem?_eq_some_iff.1 HX1.out).1⟩, frozen_of_row _ _ _ _ _ HX1.out⟩
          go_wp2_with (first | (at_builtin; revert HI1) | go_in)
          intro HI1
          refine to_letter (F := fun W => ItR wc.heap.size wc W0 (.slice ta tn tc) (.slice ta' tn' tc') (.slice sa (tn + 1) sc) (.slice ta' tn' tc') (tn + 1) tn' W ∧ W.heap[W0.heap.size]? = some (.cells #[.bool n.leaf, .slice sa (tn + 1) sc, .slice ta' tn' tc'] 25 (0, 0)) ∧ Rw.Src W (some ⟨W2.heap.size, 0, none⟩) 1 1 [.int .i64 7]) ⟨?_, ?_, ?_⟩ ?_
          · exact (HI1.out.box HX1.out (Nat.le_refl _) 1 _).on (below_alloc _ _)
          · rw [(below_alloc _ _).block _ (by simp [World.setCell]; exact dl)]; exact heap_setCell_same _ _ 1 _ _ _ HX1.out
          · exact Rw.src_new _ [.int .i64 7] _ 1 1 (by simp [World.setCell])
          rintro U ⟨I2, xU, sU⟩
          obtain ⟨ys, o2⟩ := I2.o2
          refine Rw.append_src Try.underlying23 Rw.infoI rfl (by decide) (by decide) rfl _ _ rfl wc.heap.size (Nat.le_trans I2.base I2.size) _ tn' ys rfl o2 _ 1 1 [.int .i64 7] rfl sU rfl (by simp [Value.oneCell']) (by omega) ?_
          intro v3 W3 O3 G3 V3
          have HI3 := hid (I2.grow2 G3 O3 V3)
          have HX3 := hid ((G3.block _ (Array.getElem?_eq_some_iff.1 xU).1 (own_ne_tag o2 xU (by decide))).trans xU)
          obtain ⟨ka3, kc3, rfl, _⟩ := owns_rd O3
          clear xU sU I2 o2 O3 G3 V3 HI1 HX1 d0 d1 d2 dl dx
          obtain ⟨⟨d0, d1, d2, dl⟩, dx⟩ : (W3.cell? ⟨W0.heap.size, 0, none⟩ = some (.bool n.leaf) ∧ W3.cell? ⟨W0.heap.size, 1, none⟩ = some (.slice sa (tn + 1) sc) ∧ W3.cell? ⟨W0.heap.size, 2, none⟩ = some (.slice ta' tn' tc') ∧ W0.heap.size < W3.heap.size) ∧ W3.frozen? ⟨W0.heap.size, 2, none⟩ = false := ⟨⟨by rw [cell_of_row _ _ _ _ _ _ HX3.out]; rfl, by rw [cell_of_row _ _ _ _ _ _ HX3.out]; rfl, by rw [cell_of_row _ _ _ _ _ _ HX3.out]; rfl, (Array.getElem?_eq_some_iff.1 HX3.out).1⟩, frozen_of_row _ _ _ _ _ HX3.out⟩
          have HI4 : Hid (Pass wc W0 n.leaf ta tn tc ta' tn' tc' sa (tn + 1) sc ka3 (tn' + 1) kc3 (W3.setCell ⟨W0.heap.size, 2, none⟩ (.slice ka3 (tn' + 1) kc3))) := ⟨HI3.out.box HX3.out (Nat.le_refl _) 2 _, heap_setCell_same _ _ 2 _ _ _ HX3.out⟩
          clear HI3 HX3
          go_wp2_with fail
          clear d0 d1 d2 dl dx
          go_loopw [71] (fun i wq => ∃ m : Nat, m ≤ tn + 1 ∧ i = .int .i64 (m : Int) ∧ Hid (Pass wc W0 n.leaf ta tn tc ta' tn' tc' sa (tn + 1) sc ka3 (tn' + 1) kc3 wq)) (fun i _ => tn + 1 - (intOf i).toNat)
          case atStart => exact ⟨0, Nat.zero_le _, rfl, HI4⟩
          case round =>
            clear HI4
            obtain ⟨m, hm, rfl, HPS⟩ := hrel
            obtain ⟨g0, g1, g2, gl⟩ := HPS.out.cells
            by_cases hmt : m < tn + 1
            · obtain ⟨xs1, o1⟩ := HPS.out.it.o1
              obtain ⟨g, v, rfl, gc, gf, gg⟩ := owns_cell o1 hmt
              have HP2 := hid (HPS.out.set1 m (.string ⟨#[99, 104, 97, 110, 103, 101, 100]⟩))
              clear o1 HPS
              go_wp2_with fail
              exact ⟨⟨m + 1, hmt, by go_num, HP2⟩, by simp [intOf]; omega⟩
            · have hmm : m = tn + 1 := by omega
              subst hmm
              go_wp2_with fail
              go_loopw [82] (fun i wq => ∃ m : Nat, m ≤ tn' + 1 ∧ i = .int .i64 (m : Int) ∧ Hid (Pass wc W0 n.leaf ta tn tc ta' tn' tc' sa (tn + 1) sc ka3 (tn' + 1) kc3 wq)) (fun i _ => tn' + 1 - (intOf i).toNat)
              case atStart => exact ⟨0, Nat.zero_le _, rfl, HPS⟩
              case round =>
                clear HPS g0 g1 g2 gl
                obtain ⟨m, hm, rfl, HPS⟩ := hrel
                obtain ⟨g0, g1, g2, gl⟩ := HPS.out.cells
                by_cases hmt' : m < tn' + 1
                · obtain ⟨xs1, o1⟩ := HPS.out.it.o2
                  obtain ⟨g, v, rfl, gc, gf, gg⟩ := owns_cell o1 hmt'
                  have HP2 := hid (HPS.out.set2 m (.int .i64 (-1)))
                  clear o1 HPS
                  go_wp2_with fail
                  exact ⟨⟨m + 1, hmt', by go_num, HP2⟩, by simp [intOf]; omega⟩
                · have hmm : m = tn' + 1 := by omega
                  subst hmm
                  have HI9 := hid (HI.out.step HT1.out HPS.out.it)
                  go_wp2_with fail
                  exact ⟨⟨j + 1, hlt, by go_num, HI9⟩, by simp [intOf]; omega⟩
        · have hj3 : j = 3 := by omega
          subst hj3
          have HN9 : Hid (Nq w n (some ⟨b, o, none⟩) c a' c' wr) := HN5.out.on HI.out.below
          have HW9 : Hid (wr.heap[p]? = some (.cells #[.bool n.leaf, .slice ra n.recs.length rc, .slice ka n.kids.length kc] 27 (0, 0))) := (HI.out.below.block _ (Array.getElem?_eq_some_iff.1 HWAS.out.2).1).trans HWAS.out.2
          have HQ9 : Hid (NR wr n ra rc ka kc) := HNW.out.below HI.out.below
          clear HI HN5 HNW HL HJ1 HJ2 HT HN7 HP HN6 HS6
          have HC9 : ∀ q : BelowW wr, (q.w.cell? ⟨w.heap.size, 0, none⟩ = some (.bool n.leaf) ∧ q.w.cell? ⟨w.heap.size, 1, none⟩ = some (.slice (some ⟨b, o, none⟩) n.recs.length c) ∧ q.w.cell? ⟨w.heap.size, 2, none⟩ = some (.slice a' n.kids.length c')) ∧ q.w.cell? ⟨p, 0, none⟩ = some (.bool n.leaf) ∧ q.w.cell? ⟨p, 1, none⟩ = some (.slice ra n.recs.length rc) ∧ q.w.cell? ⟨p, 2, none⟩ = some (.slice ka n.kids.length kc) := fun q => by
            have h9 := HN9.out.on q.below
            have hw := (q.below.block _ (Array.getElem?_eq_some_iff.1 HW9.out).1).trans HW9.out
            exact ⟨⟨h9.bx.c0, h9.bx.c1, h9.bx.c2⟩, by rw [cell_of_row _ _ _ _ _ _ hw]; rfl, by rw [cell_of_row _ _ _ _ _ _ hw]; rfl, by rw [cell_of_row _ _ _ _ _ _ hw]; rfl⟩
          have e0 : ∀ q : BelowW wr, q.w.cell? ⟨w.heap.size, 0, none⟩ = some (.bool n.leaf) := fun q => (HC9 q).1.1
          have e1 : ∀ q : BelowW wr, q.w.cell? ⟨w.heap.size, 1, none⟩ = some (.slice (some ⟨b, o, none⟩) n.recs.length c) := fun q => (HC9 q).1.2.1
          have e2 : ∀ q : BelowW wr, q.w.cell? ⟨w.heap.size, 2, none⟩ = some (.slice a' n.kids.length c') := fun q => (HC9 q).1.2.2
          have e3 : ∀ q : BelowW wr, q.w.cell? ⟨p, 0, none⟩ = some (.bool n.leaf) := fun q => (HC9 q).2.1
          have e4 : ∀ q : BelowW wr, q.w.cell? ⟨p, 1, none⟩ = some (.slice ra n.recs.length rc) := fun q => (HC9 q).2.2.1
          have e5 : ∀ q : BelowW wr, q.w.cell? ⟨p, 2, none⟩ = some (.slice ka n.kids.length kc) := fun q => (HC9 q).2.2.2
          have HPL := fun q : BelowW wr => plain_walk (n := n) (a := some ⟨b, o, none⟩) (c := c) (a' := a') (c' := c') (w := q.w)
          have HSA := fun q : BelowW wr => same_walk (HN9.out.on q.below).nr (HQ9.out.below q.below) hsm
          unfold nodeV at HPL HSA
          clear HC9
          go_wp2_with fail
          refine wp_region_below (by kernel_rfl) (by kernel_rfl) (fun _ => ?_)
          repeat (go_big_quiet_step (first | (go_at_call 6; exact quiet_of_below (HPL _)) | (go_at_call 11; exact quiet_of_below (HSA _))))
          refine wpQuiet_nil ?_
          rintro _ ⟨q, rfl⟩
          have B9 := hid (HN9.out.on q.below).bx.below
          go_wp2
          go_ret
          exact ⟨rfl, B9.out⟩
  · go_wp2
    go_ret
    exact ⟨rfl, HN2.out.bx.below⟩
end Go.Proofs.Ytgpahhlmpdnbpaa
