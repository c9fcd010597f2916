/-
  The document's Read.
-/
import Derived.Deep.CutRange
import Derived.Test.YtpmagonmfaaihaaRfRa
import Derived.Test.YtpmagonmfaaihaaNdI
import Derived.Test.YtpmagonmfaaihaaConvR
namespace Go.Proofs.Ytpmagonmfaaihaa
open Go.RowKit

theorem toList_inj {a b : ByteArray} (h : a.toList = b.toList) : a = b := by
  rw [ByteArray.ext_iff]
  rw [ByteArray.toList_eq, ByteArray.toList_eq] at h
  exact Array.toList_inj.1 h

theorem mark_of (n : Nd) : byteAt (pageL n) 0 = 1 ∨ byteAt (pageL n) 0 = 2 := by
  unfold pageL headL byteAt
  cases n.leaf
  · exact Or.inr rfl
  · exact Or.inl rfl

theorem fresh_fail (w : World) : ROut w (.bool false) (.slice none 0 0) (.slice none 0 0) (w.alloc (.cells #[.bool false, .slice none 0 0, .slice none 0 0] 28)) := by
  obtain ⟨c0, c1, c2⟩ := node_cells (heap_alloc_last w (.cells #[.bool false, .slice none 0 0, .slice none 0 0] 28))
  exact ⟨c0, c1, c2, below_alloc _ _⟩

set_option maxRecDepth 100000 in
set_option maxHeartbeats 4000000 in
theorem refread_walk {b : Nat} {L : List UInt8} {w : World} (hb : Blk w b L) (hl : L.length = 1024) :
    Calls Try.prog 17 #[.slice (some ⟨b, 0, none⟩) 1024 1024] w fun e w' => Below w.heap.size w w' ∧ ((pageOk L ∧ ∃ r k, e = .returned (.tuple #[.agg #[.bool (leafB L), r, k], .bool true]) ∧ w'.ownsRow w.heap.size 9 1 r (cntL L) (svs (rawN L).recs) ∧ w'.ownsRow w.heap.size 3 1 k (kidN L) (ivs (rawN L).kids)) ∨ (¬ pageOk L ∧ e = .returned (.tuple #[.agg #[.bool false, .slice none 0 0, .slice none 0 0], .bool false]))) := by
  have HB : Hid (Blk w b L) := hb
  have HL : Hid (L.length = 1024) := hl
  have hc0 := hb.cell 0 (by omega)
  have hc1 := hb.cell 1 (by omega)
  have hc2 := hb.cell 2 (by omega)
  have hbl := hb.lt
  have e0 : byteAt L 0 = L[0].toNat := byteAt_get L 0 (by omega)
  have e1 : byteAt L 1 = L[1].toNat := byteAt_get L 1 (by omega)
  have e2 : byteAt L 2 = L[2].toNat := byteAt_get L 2 (by omega)
  rw [← e0] at hc0
  rw [← e1] at hc1
  rw [← e2] at hc2
  have HCN : Hid (cntL L = byteAt L 1 * 256 + byteAt L 2) := by show _ = _; rw [cnt_at hl]; rfl
  have hb1 : byteAt L 1 < 256 := by rw [e1]; exact UInt8.toNat_lt _
  have hb2 : byteAt L 2 < 256 := by rw [e2]; exact UInt8.toNat_lt _
  clear hb hl e0 e1 e2
  go_enter Try.func17, Try.ntmps17
  generalize hy0 : byteAt L 0 = y0 at *
  obtain ⟨y1, hy1⟩ : ∃ y, Hid (byteAt L 1 = y) := ⟨_, rfl⟩
  obtain ⟨y2, hy2⟩ : ∃ y, Hid (byteAt L 2 = y) := ⟨_, rfl⟩
  rw [hy1.out] at hc1 hb1 HCN
  rw [hy2.out] at hc2 hb2 HCN
  by_cases h12 : y0 = 1 ∨ y0 = 2
  · go_upto_region 1 with fail
    go_cut [27] from 13 (fun s27 wx => s27 = .bool false ∧ wx = w.alloc (.cells #[.bool false, .slice none 0 0, .slice none 0 0] 28))
    case first =>
      rcases h12 with h1 | h1
      all_goals
        subst h1
        go_wp2
        go_meet
        exact ⟨rfl, rfl⟩
    case rest =>
      obtain ⟨rfl, rfl⟩ := hcut
      obtain ⟨lf, hlf⟩ : ∃ lf : Bool, ((y0 : Int) == 1) = lf := ⟨_, rfl⟩
      have HLF0 : Hid (leafB L = lf) := by
        show _ = _
        unfold leafB
        rw [hy0, ← hlf]
        rcases h12 with h1 | h1 <;> subst h1 <;> rfl
      have HQ := hidf (Rq.new HB.out lf)
      go_wp2_with fail
      clear hlf
      generalize (w.alloc (.cells #[.bool false, .slice none 0 0, .slice none 0 0] 28)).alloc (.cells #[.bool lf, .slice none 0 0, .slice none 0 0] 28) = w1 at HQ ⊢
      clear hc0 hc1 hc2
      have hc1 := HQ.out.blk.cell 1 (by have := HL.out; omega)
      have hc2 := HQ.out.blk.cell 2 (by have := HL.out; omega)
      rw [← byteAt_get, hy1.out] at hc1
      rw [← byteAt_get, hy2.out] at hc2
      have hbl1 := HQ.out.blk.lt
      go_quiet (fail)
      obtain ⟨cn, hcn⟩ : ∃ cn : Nat, Hid (cn = y1 * 256 + y2) := ⟨_, rfl⟩
      rw [show (y1 : Int) * 256 + (y2 : Int) = (cn : Int) by have := hcn.out; omega]
      have HC := hidf (HCN.out.trans hcn.out.symm)
      have hcm : cn < 65536 := by have := hcn.out; omega
      have HQ2 := hidf (HQ.out.on (below_drewN (Below.refl _ _) nq))
      clear HQ hc1 hc2 hbl1 HCN hcn hb1 hb2 hy1 hy2
      generalize w1.drewN nq = w2 at HQ2 ⊢
      clear hy0 h12
      have n0 := (node_cells HQ2.out.n).1
      have nl : w.heap.size + 1 < w2.heap.size := (Array.getElem?_eq_some_iff.1 HQ2.out.n).1
      go_upto_if 46 with fail
      clear n0 nl
      go_cut [6] from 13 (fun s6 wx => s6 = .int .i64 ((slotAt L : Nat) : Int) ∧ slotAt L ≤ 1024 ∧ ∃ kv, Hid (Rq w b L (w.heap.size + 1) lf (.slice none 0 0) kv [] (kidsL L 3 (kidN L)) wx))
      case first =>
        cases lf
        · have HKD : Hid (kidN L = cn + 1) := by show _ = _; unfold kidN; rw [HLF0.out, HC.out]; rfl
          clear HLF0
          go_wp2_with fail
          go_loopw [6, 7] (fun x i wr => ∃ j : Nat, j ≤ cn + 1 ∧ i = .int .i64 (j : Int) ∧ x = .int .i64 ((3 + 4 * j : Nat) : Int) ∧ 3 + 4 * j ≤ 1024 ∧ ∃ kv, Hid (Rq w b L (w.heap.size + 1) false (.slice none 0 0) kv [] (kidsL L 3 j) wr)) (fun _ i _ => cn + 1 - (intOf i).toNat)
          case atStart => exact ⟨0, Nat.zero_le _, rfl, rfl, by omega, _, HQ2⟩
          case round =>
            clear HQ2
            obtain ⟨j, hj, rfl, rfl, hjO, kv, HQ⟩ := hrel
            by_cases hlt : j ≤ cn
            · have hlt' : (j : Int) ≤ (cn : Int) := by omega
              by_cases hend : 3 + 4 * j + 4 ≤ 1024
              · have hend' : ((3 + 4 * j : Nat) : Int) + 4 ≤ 1024 := by omega
                have HKS := hidf (kidsL_snoc L 3 j)
                generalize hA : 3 + 4 * j = A at *
                go_wp2_with fail
                go_loopw [8, 9] (fun x i wx => ∃ m : Nat, m ≤ 4 ∧ i = .int .i64 (m : Int) ∧ x = .int .i64 ((numL (cut L A m) : Nat) : Int) ∧ Hid (Rq w b L (w.heap.size + 1) false (.slice none 0 0) kv [] (kidsL L 3 j) wx)) (fun _ i _ => 4 - (intOf i).toNat)
                case atStart => exact ⟨0, Nat.zero_le _, rfl, by rw [cut_zero]; rfl, HQ⟩
                case round =>
                  clear HQ
                  obtain ⟨m, hm, rfl, rfl, HQ⟩ := hrel
                  by_cases hlm : m < 4
                  · have hlm' : (m : Int) < 4 := by omega
                    have g0 := HQ.out.blk.cell (A + m) (by have := HL.out; omega)
                    have hbl1 := HQ.out.blk.lt
                    have HNS : Hid (numL (cut L A (m + 1)) = numL (cut L A m) * 256 + (L[A + m]'(by have := HL.out; omega)).toNat) := by
                      show _ = _
                      have e : cut L A (m + 1) = cut L A m ++ [L[A + m]'(by have := HL.out; omega)] := by
                        unfold cut
                        rw [List.take_succ_eq_append_getElem (by simp; have := HL.out; omega), List.getElem_drop]
                      rw [e, numL_snoc]
                    have hnl : numL (cut L A m) < 16777216 := by
                      have h := numL_lt (cut L A m) 0
                      have hl : (cut L A m).length ≤ 3 := by unfold cut; simp; omega
                      refine Nat.lt_of_lt_of_le (show numL (cut L A m) < 1 * 256 ^ (cut L A m).length by simpa [numL] using h) ?_
                      rw [Nat.one_mul]
                      exact Nat.pow_le_pow_right (by decide) hl
                    have hcl : (L[A + m]'(by have := HL.out; omega)).toNat < 256 := UInt8.toNat_lt _
                    generalize (L[A + m]'(by have := HL.out; omega)).toNat = cc at g0 HNS hcl
                    generalize numL (cut L A m) = nn at hnl HNS ⊢
                    go_wp2
                    exact ⟨⟨m + 1, by omega, by go_num, by rw [HNS.out]; go_num, HQ⟩, by simp [intOf]; omega⟩
                  · have hlm' : (4 : Int) ≤ (m : Int) := by omega
                    have hm4 : m = 4 := by omega
                    subst hm4
                    generalize numL (cut L A 4) = kk at HKS ⊢
                    have HBA := hidf (below_alloc wr (.cells #[.int .i64 (kk : Int)] 3))
                    have HQ5 := hidf (HQ.out.on HBA.out)
                    have HO5 := hidf HQ5.out.kk
                    rw [kidsL_length] at HO5
                    have n1 := (node_cells HQ.out.n).2.2
                    have nl : w.heap.size + 1 < wr.heap.size := (Array.getElem?_eq_some_iff.1 HQ.out.n).1
                    go_wp2_with (first
                      | (at_builtin
                         revert HQ5)
                      | fail)
                    intro HQ5
                    refine append_row (z := .int .i64 0) (by_ := 8) Try.underlying23 (by kernel_rfl) (by decide) rfl w.heap.size HQ5.out.below.size rfl _ _ rfl kv j (ivs (kidsL L 3 j)) (ivs [(kk : Int)]) rfl HO5.out (by omega) 1 (by omega) ⟨wr.heap.size, 0, none⟩ 1 rfl rfl (one_int wr _ _) (one_ivs _) ?_
                    intro v2 w2 hown hgr _
                    obtain ⟨ad2, cp2, rfl, _, _⟩ := owns_slice hown
                    have HQ6 := hidf (HQ.out.moreK HB.out HBA.out hgr hown (by rw [kidsL_length])).1
                    have hn2 := (HQ.out.moreK HB.out HBA.out hgr hown (by rw [kidsL_length])).2
                    have x1 := (node_cells hn2).2.2
                    have x2 : ∀ i, w2.frozen? ⟨w.heap.size + 1, i, none⟩ = false := fun i => frozen_of_row _ _ _ _ _ hn2
                    have x3 : w.heap.size + 1 < w2.heap.size := (Array.getElem?_eq_some_iff.1 hn2).1
                    clear hown hgr hn2 n1 nl HQ HBA HQ5 HO5
                    go_wp2_with fail
                    clear x1 x2 x3
                    generalize w2.setCell ⟨w.heap.size + 1, 2, none⟩ (.slice ad2 (j + 1) cp2) = w6 at HQ6 ⊢
                    go_roundw
                    case rel =>
                      (repeat apply Exists.intro)
                      exact ⟨⟨j + 1, by omega, by go_num, by go_num, by omega, _, by rw [HKS.out]; exact HQ6⟩, rfl⟩
                    case measure => simp [intOf]; omega
              · have hend' : 1024 < ((3 + 4 * j : Nat) : Int) + 4 := by omega
                have HO : Hid (slotAt L = 3 + 4 * (cn + 1)) := by show _ = _; unfold slotAt; rw [HKD.out]
                have z0 := (node_cells HQ.out.z).1
                have z1 := (node_cells HQ.out.z).2.1
                have z2 := (node_cells HQ.out.z).2.2
                have zf : ∀ i, wr.frozen? ⟨w.heap.size, i, none⟩ = false := fun i => frozen_of_row _ _ _ _ _ HQ.out.z
                have xl : w.heap.size < wr.heap.size := (Array.getElem?_eq_some_iff.1 HQ.out.z).1
                have HN : Hid (¬ pageOk L) := fun h => by have := h.1.1; rw [HC.out, HO.out] at this; omega
                go_wp2_with fail
                refine to_letter (HQ.out.fail (.bool false) (.slice none 0 0) (.slice none 0 0)) ?_
                clear z0 z1 z2 zf HQ xl
                intro Wf hF
                obtain ⟨g0, g1, g2, hF⟩ := hF
                refine bodyPost_ret (v := .tuple #[.agg #[.bool false, .slice none 0 0, .slice none 0 0], .bool false]) ?_ rfl ?_
                · simp [results, Try.results17, go_sem, g0, g1, g2]
                · exact ⟨hF, Or.inr ⟨HN.out, rfl⟩⟩
            · have hlt' : (cn : Int) < (j : Int) := by omega
              have hjc : j = cn + 1 := by omega
              have HO : Hid (slotAt L = 3 + 4 * j) := by show _ = _; unfold slotAt; rw [HKD.out, hjc]
              go_wp2
              go_meet
              refine ⟨by rw [HO.out], by rw [HO.out]; exact hjO, kv, ?_⟩
              rw [HKD.out, ← hjc]
              exact HQ
        · have HKD : Hid (kidN L = 0) := by show _ = _; unfold kidN; rw [HLF0.out]; rfl
          have HO : Hid (slotAt L = 3) := by show _ = _; unfold slotAt; rw [HKD.out]
          go_wp2
          go_meet
          refine ⟨by rw [HO.out]; rfl, by rw [HO.out]; omega, .slice none 0 0, ?_⟩
          rw [HKD.out]
          exact HQ2
      case rest =>
        clear HQ2
        obtain ⟨rfl, hO1, kv, HQ2⟩ := hcut
        obtain ⟨O, hO⟩ : ∃ O : Nat, O = slotAt L := ⟨_, rfl⟩
        have HO := hidf hO.symm
        rw [← hO] at hO1 ⊢
        clear hO
        obtain ⟨K, hK⟩ : ∃ K : List Int, K = kidsL L 3 (kidN L) := ⟨_, rfl⟩
        have HRAW : Hid (rawN L = ⟨lf, recsL L O cn, K⟩) := by
          show _ = _
          unfold rawN
          rw [HC.out, HO.out, hK, HLF0.out]
        rw [← hK] at HQ2
        clear hK HLF0
        go_wp2_with fail
        generalize wc = w2 at HQ2 ⊢
        go_loopw [6, 10] (fun x i wr => ∃ j : Nat, j ≤ cn ∧ i = .int .i64 (j : Int) ∧ x = .int .i64 ((O + 4 * j : Nat) : Int) ∧ O + 4 * j ≤ 1024 ∧ Hid (inL L O j) ∧ ∃ r, Hid (Rq w b L (w.heap.size + 1) lf r kv (recsL L O j) K wr)) (fun _ i _ => cn - (intOf i).toNat)
        case atStart => exact ⟨0, Nat.zero_le _, rfl, rfl, by omega, (fun i hi => absurd hi (Nat.not_lt_zero _)), _, HQ2⟩
        case round =>
          clear HQ2
          obtain ⟨j, hj, rfl, rfl, hjO, HI, r, HQ⟩ := hrel
          by_cases hlt : j < cn
          · have hlt' : (j : Int) < (cn : Int) := by omega
            by_cases hend : O + 4 * j + 4 ≤ 1024
            · have hend' : ((O + 4 * j : Nat) : Int) + 4 ≤ 1024 := by omega
              have g0 := HQ.out.blk.cell (O + 4 * j) (by have := HL.out; omega)
              have g1 := HQ.out.blk.cell (O + 4 * j + 1) (by have := HL.out; omega)
              have g2 := HQ.out.blk.cell (O + 4 * j + 2) (by have := HL.out; omega)
              have g3 := HQ.out.blk.cell (O + 4 * j + 3) (by have := HL.out; omega)
              have HBG : Hid (begL L O j = byteAt L (O + 4 * j) * 256 + byteAt L (O + 4 * j + 1)) := by show _ = _; unfold begL; rw [num2_at _ _ (by have := HL.out; omega)]; rfl
              have HLN : Hid (lenL L O j = byteAt L (O + 4 * j + 2) * 256 + byteAt L (O + 4 * j + 3)) := by show _ = _; unfold lenL; rw [num2_at _ _ (by have := HL.out; omega)]; rfl
              rw [← byteAt_get] at g0 g1 g2 g3
              have t0 : byteAt L (O + 4 * j) < 256 := by unfold byteAt; exact UInt8.toNat_lt _
              have t1 : byteAt L (O + 4 * j + 1) < 256 := by unfold byteAt; exact UInt8.toNat_lt _
              have t2 : byteAt L (O + 4 * j + 2) < 256 := by unfold byteAt; exact UInt8.toNat_lt _
              have t3 : byteAt L (O + 4 * j + 3) < 256 := by unfold byteAt; exact UInt8.toNat_lt _
              generalize byteAt L (O + 4 * j) = x0 at g0 HBG t0
              generalize byteAt L (O + 4 * j + 1) = x1 at g1 HBG t1
              generalize byteAt L (O + 4 * j + 2) = x2 at g2 HLN t2
              generalize byteAt L (O + 4 * j + 3) = x3 at g3 HLN t3
              generalize hA : O + 4 * j = A at *
              have hbl1 := HQ.out.blk.lt
              go_wp2_with fail
              go_quiet (fail)
              obtain ⟨P, hP⟩ : ∃ P : Nat, P = x0 * 256 + x1 := ⟨_, rfl⟩
              rw [show (x0 : Int) * 256 + (x1 : Int) = (P : Int) by omega]
              rw [← hP] at HBG
              have hPm : P < 65536 := by omega
              clear hP
              have HQ3 := hidf (HQ.out.on (below_drewN (Below.refl _ _) nq))
              have g2' : (wr.drewN nq).cell? ⟨b, A + 2, none⟩ = some (.int .u8 (x2 : Int)) := g2
              have g3' : (wr.drewN nq).cell? ⟨b, A + 3, none⟩ = some (.int .u8 (x3 : Int)) := g3
              have hbl2 : b < (wr.drewN nq).heap.size := hbl1
              clear HQ g0 g1 g2 g3 t0 t1 hbl1
              generalize wr.drewN nq = w3 at HQ3 g2' g3' hbl2 ⊢
              clear nq
              go_wp2_with fail
              go_quiet (fail)
              obtain ⟨Z, hZ⟩ : ∃ Z : Nat, Z = x2 * 256 + x3 := ⟨_, rfl⟩
              rw [show (x2 : Int) * 256 + (x3 : Int) = (Z : Int) by omega]
              rw [← hZ] at HLN
              have hZm : Z < 65536 := by omega
              clear hZ
              have HQ4 := hidf (HQ3.out.on (below_drewN (Below.refl _ _) nq))
              clear HQ3 g2' g3' hbl2 t2 t3
              generalize w3.drewN nq = w4 at HQ4 ⊢
              clear nq
              by_cases hPZ : P + Z ≤ 1024
              · have hPZ' : (P : Int) + (Z : Int) ≤ 1024 := by omega
                have hP0 : (P : Int) ≤ (P : Int) + (Z : Int) := by omega
                have HIj : Hid (inL L O (j + 1)) := fun i hi => by
                  by_cases e : i = j
                  · subst e; rw [HBG.out, HLN.out, HL.out]; exact hPZ
                  · exact HI.out i (by omega)
                have HS : Hid (recL L O j = ⟨(cut L P Z).toArray⟩) := by show recL L O j = _; unfold recL; rw [HBG.out, HLN.out]
                have HRS := hidf (recsL_snoc L O j)
                rw [HS.out] at HRS
                have hKd : Blk w4.drew b L := HQ4.out.blk
                have hcv : (convert 31 9 (.slice (some ⟨b, P, none⟩) Z (1024 - P))).run Try.prog w4.drew = .ok (.string ⟨(cut L P Z).toArray⟩) w4.drew := conv_blk hKd P Z (1024 - P) (by have := HL.out; omega)
                have hcv0 : Z = 0 → (convert 31 9 (.slice (some ⟨b, 0, none⟩) 0 0)).run Try.prog w4.drew = .ok (.string ⟨(cut L P Z).toArray⟩) w4.drew := fun h => by
                  have := conv_blk hKd 0 0 0 (by omega)
                  rw [this, h]
                  simp [cut]
                generalize (⟨(cut L P Z).toArray⟩ : ByteArray) = S at hcv hcv0 HRS
                clear hKd HS
                have HBA := hidf ((below_drew w4).alloc (Nat.le_refl _) (.cells #[.string S] 9) : Below w4.heap.size w4 (w4.drew.alloc (.cells #[.string S] 9)))
                have HQ5 := hidf (HQ4.out.on HBA.out)
                have HO5 := hidf HQ5.out.rr
                rw [recsL_length] at HO5
                have HC5 := hidf (one_str w4.drew S 9)
                have hz5 : w.heap.size ≤ (w4.drew.alloc (.cells #[.string S] 9)).heap.size := HQ5.out.below.size
                have n1 := (node_cells HQ4.out.n).2.1
                have n1' := (node_cells HQ5.out.n).2.1
                have nl : w.heap.size + 1 < w4.heap.size := (Array.getElem?_eq_some_iff.1 HQ4.out.n).1
                have hbl4 := HQ4.out.blk.lt
                have hw1 : IntKind.i64.wrap ((P : Int) + (Z : Int)) = (P : Int) + (Z : Int) := by rw [IntKind.wrap_i64]; omega
                have hw2 : ((P : Int) + (Z : Int)).toNat = P + Z := by omega
                have hw3 : P + Z - P = Z := by omega
                have hw4 : IntKind.i64.wrap 1024 = 1024 := rfl
                by_cases hcp : P = 1024
                · have hZ0 : Z = 0 := by omega
                  have hcv1 := hcv0 hZ0
                  clear hcv hcv0
                  subst hcp
                  subst hZ0
                  go_wp2_with fail
                  go_region_law (first
                    | (refine step_row (z := .string ⟨#[]⟩) (by_ := 16) Try.underlying22 (by kernel_rfl) (by decide) rfl w.heap.size hz5 rfl (.tmp 120) (.tmp 128) rfl r j _ (svs [S]) ?_ HO5.out (by omega) ⟨w4.heap.size, 0, none⟩ 1 1 ?_ rfl (by decide) HC5.out (one_svs _) ?_
                       · simp [Act.eval]
                       · simp [Act.eval]
                       intro v2 w2 hown hgr
                       obtain ⟨ad2, cp2, rfl, _, _⟩ := owns_slice hown
                       have HQ6 := hidf (HQ4.out.more HB.out HBA.out hgr hown (by rw [recsL_length])).1
                       have hn2 := (HQ4.out.more HB.out HBA.out hgr hown (by rw [recsL_length])).2
                       have x1 := (node_cells hn2).2.1
                       have x2 : ∀ i, w2.frozen? ⟨w.heap.size + 1, i, none⟩ = false := fun i => frozen_of_row _ _ _ _ _ hn2
                       clear hown hgr hn2))
                  all_goals
                    clear n1 n1' nl hbl4 HQ4 HBA HQ5 HO5 HC5 x1 x2
                    generalize w2.setCell ⟨w.heap.size + 1, 1, none⟩ (.slice ad2 (j + 1) cp2) = w6 at HQ6 ⊢
                    go_wp2
                    exact ⟨⟨j + 1, by omega, by go_num, by go_num, by omega, HIj, _, by rw [HRS.out]; exact HQ6⟩, by simp [intOf]; omega⟩
                · have hcp1 : ¬ 1024 = P := by omega
                  go_wp2_with fail
                  go_region_law (first
                    | (refine step_row (z := .string ⟨#[]⟩) (by_ := 16) Try.underlying22 (by kernel_rfl) (by decide) rfl w.heap.size hz5 rfl (.tmp 120) (.tmp 128) rfl r j _ (svs [S]) ?_ HO5.out (by omega) ⟨w4.heap.size, 0, none⟩ 1 1 ?_ rfl (by decide) HC5.out (one_svs _) ?_
                       · simp [Act.eval]
                       · simp [Act.eval]
                       intro v2 w2 hown hgr
                       obtain ⟨ad2, cp2, rfl, _, _⟩ := owns_slice hown
                       have HQ6 := hidf (HQ4.out.more HB.out HBA.out hgr hown (by rw [recsL_length])).1
                       have hn2 := (HQ4.out.more HB.out HBA.out hgr hown (by rw [recsL_length])).2
                       have x1 := (node_cells hn2).2.1
                       have x2 : ∀ i, w2.frozen? ⟨w.heap.size + 1, i, none⟩ = false := fun i => frozen_of_row _ _ _ _ _ hn2
                       clear hown hgr hn2))
                  all_goals
                    clear n1 n1' nl hbl4 HQ4 HBA HQ5 HO5 HC5 x1 x2
                    generalize w2.setCell ⟨w.heap.size + 1, 1, none⟩ (.slice ad2 (j + 1) cp2) = w6 at HQ6 ⊢
                    go_wp2
                    exact ⟨⟨j + 1, by omega, by go_num, by go_num, by omega, HIj, _, by rw [HRS.out]; exact HQ6⟩, by simp [intOf]; omega⟩
              · have hPZ' : 1024 < (P : Int) + (Z : Int) := by omega
                have z0 := (node_cells HQ4.out.z).1
                have z1 := (node_cells HQ4.out.z).2.1
                have z2 := (node_cells HQ4.out.z).2.2
                have zf : ∀ i, w4.frozen? ⟨w.heap.size, i, none⟩ = false := fun i => frozen_of_row _ _ _ _ _ HQ4.out.z
                have xl : w.heap.size < w4.heap.size := (Array.getElem?_eq_some_iff.1 HQ4.out.z).1
                have HN : Hid (¬ pageOk L) := fun h => by have := h.1.2 j (by rw [HC.out]; exact hlt); rw [HO.out, HBG.out, HLN.out, HL.out] at this; omega
                go_wp2_with fail
                refine to_letter (HQ4.out.fail (.bool false) (.slice none 0 0) (.slice none 0 0)) ?_
                clear z0 z1 z2 zf HQ4 xl
                intro Wf hF
                obtain ⟨g0, g1, g2, hF⟩ := hF
                refine bodyPost_ret (v := .tuple #[.agg #[.bool false, .slice none 0 0, .slice none 0 0], .bool false]) ?_ rfl ?_
                · simp [results, Try.results17, go_sem, g0, g1, g2]
                · exact ⟨hF, Or.inr ⟨HN.out, rfl⟩⟩
            · have hend' : 1024 < ((O + 4 * j : Nat) : Int) + 4 := by omega
              have z0 := (node_cells HQ.out.z).1
              have z1 := (node_cells HQ.out.z).2.1
              have z2 := (node_cells HQ.out.z).2.2
              have zf : ∀ i, wr.frozen? ⟨w.heap.size, i, none⟩ = false := fun i => frozen_of_row _ _ _ _ _ HQ.out.z
              have xl : w.heap.size < wr.heap.size := (Array.getElem?_eq_some_iff.1 HQ.out.z).1
              have HN : Hid (¬ pageOk L) := fun h => by have := h.1.1; rw [HC.out, HO.out] at this; omega
              go_wp2_with fail
              refine to_letter (HQ.out.fail (.bool false) (.slice none 0 0) (.slice none 0 0)) ?_
              clear z0 z1 z2 zf HQ xl
              intro Wf hF
              obtain ⟨g0, g1, g2, hF⟩ := hF
              refine bodyPost_ret (v := .tuple #[.agg #[.bool false, .slice none 0 0, .slice none 0 0], .bool false]) ?_ rfl ?_
              · simp [results, Try.results17, go_sem, g0, g1, g2]
              · exact ⟨hF, Or.inr ⟨HN.out, rfl⟩⟩
          · have hlt' : (cn : Int) ≤ (j : Int) := by omega
            have hjc : j = cn := by omega
            subst hjc
            have HOK : Hid (rawOk L) := ⟨by rw [HC.out, HO.out]; exact hjO, by rw [HC.out, HO.out]; exact HI.out⟩
            have hsm := raw_small HL.out HOK.out
            have hrr := HQ.out.rr
            have hkk := HQ.out.kk
            obtain ⟨ra, rc, rfl, hr1, _, _⟩ := owns_rd hrr
            obtain ⟨ka, kc, rfl, hk1, _, _⟩ := owns_rd hkk
            obtain ⟨N, hN⟩ : ∃ N : No, N = ⟨lf, recsL L O j, K⟩ := ⟨_, rfl⟩
            have HRN := hidf (HRAW.out.trans hN.symm)
            rw [HRN.out] at hsm
            have HNR : Hid (NR wr N ra rc ka kc) := by rw [hN]; exact ⟨hr1, hk1⟩
            have HPO : Hid (pageOk L ↔ N.shaped = true ∧ N.size ≤ 1024 ∧ pageL N.toNd = L) := by
              show _ ↔ _
              unfold pageOk
              rw [HRN.out]
              exact ⟨fun h => h.2, fun h => ⟨HOK.out, h⟩⟩
            have HQN : Hid (Rq w b L (w.heap.size + 1) N.leaf (.slice ra N.recs.length rc) (.slice ka N.kids.length kc) N.recs N.kids wr) := by rw [hN]; exact HQ.out
            have HLF : Hid (leafB L = N.leaf) := by show _ = _; rw [← HRN.out]; rfl
            have HCN2 : Hid (cntL L = N.recs.length) := by show _ = _; rw [← HRN.out]; exact (recsL_length _ _ _).symm
            have HKN2 : Hid (kidN L = N.kids.length) := by show _ = _; rw [← HRN.out]; exact (kidsL_length _ _ _).symm
            clear hrr hkk hr1 hk1 hN HQ HOK HRAW HI
            have x0 : ∀ q : BelowW wr, q.w.cell? ⟨w.heap.size + 1, 0, none⟩ = some (.bool N.leaf) := fun q => (node_cells (HQN.out.on q.below).n).1
            have x1 : ∀ q : BelowW wr, q.w.cell? ⟨w.heap.size + 1, 1, none⟩ = some (.slice ra N.recs.length rc) := fun q => (node_cells (HQN.out.on q.below).n).2.1
            have x2 : ∀ q : BelowW wr, q.w.cell? ⟨w.heap.size + 1, 2, none⟩ = some (.slice ka N.kids.length kc) := fun q => (node_cells (HQN.out.on q.below).n).2.2
            have HS1 := hidf (fun q : BelowW wr => shaped_walk (n := N) (HNR.out.below q.below) hsm)
            have HS2 := hidf (fun q : BelowW wr => rsize_walk (n := N) (HNR.out.below q.below) hsm)
            have HM := hidf (fun q : BelowW wr => HQN.out.on q.below)
            unfold nodeV at HS1 HS2
            cases hshp : N.shaped
            · rw [hshp] at HS1
              clear HQN
              go_wp2_with fail
              refine wp_region_below (by kernel_rfl) (by kernel_rfl) (fun _ => ?_)
              repeat (go_big_quiet_step (first | (go_at_call 9; exact quiet_of_below (HS1.out _)) | (go_at_call 12; exact quiet_of_below (HS2.out _))))
              refine wpQuiet_nil ?_
              rintro _ ⟨q, rfl⟩
              have HV6 := hidf (HM.out q)
              generalize q.w = w6 at HV6 ⊢
              clear HM HS1 HS2 x0 x1 x2 q
              have z0 := (node_cells HV6.out.z).1
              have z1 := (node_cells HV6.out.z).2.1
              have z2 := (node_cells HV6.out.z).2.2
              have zf : ∀ i, w6.frozen? ⟨w.heap.size, i, none⟩ = false := fun i => frozen_of_row _ _ _ _ _ HV6.out.z
              have xl : w.heap.size < w6.heap.size := (Array.getElem?_eq_some_iff.1 HV6.out.z).1
              have HN : Hid (¬ pageOk L) := fun h => by have := (HPO.out.1 h).1; rw [hshp] at this; cases this
              go_wp2_with fail
              refine to_letter (HV6.out.fail (.bool false) (.slice none 0 0) (.slice none 0 0)) ?_
              clear z0 z1 z2 zf HV6 xl
              intro Wf hF
              obtain ⟨g0, g1, g2, hF⟩ := hF
              refine bodyPost_ret (v := .tuple #[.agg #[.bool false, .slice none 0 0, .slice none 0 0], .bool false]) ?_ rfl ?_
              · simp [results, Try.results17, go_sem, g0, g1, g2]
              · exact ⟨hF, Or.inr ⟨HN.out, rfl⟩⟩
            rw [hshp] at HS1
            by_cases hsz : 1024 < N.size
            · have d1 : decide ((1024 : Int) < (N.size : Int)) = true := decide_eq_true (by omega)
              clear HQN
              go_wp2_with fail
              refine wp_region_below (by kernel_rfl) (by kernel_rfl) (fun _ => ?_)
              repeat (go_big_quiet_step (first | (go_at_call 9; exact quiet_of_below (HS1.out _)) | (go_at_call 12; exact quiet_of_below (HS2.out _))))
              refine wpQuiet_nil ?_
              rintro _ ⟨q, rfl⟩
              have HV6 := hidf (HM.out q)
              generalize q.w = w6 at HV6 ⊢
              clear HM HS1 HS2 x0 x1 x2 q
              have z0 := (node_cells HV6.out.z).1
              have z1 := (node_cells HV6.out.z).2.1
              have z2 := (node_cells HV6.out.z).2.2
              have zf : ∀ i, w6.frozen? ⟨w.heap.size, i, none⟩ = false := fun i => frozen_of_row _ _ _ _ _ HV6.out.z
              have xl : w.heap.size < w6.heap.size := (Array.getElem?_eq_some_iff.1 HV6.out.z).1
              have HN : Hid (¬ pageOk L) := fun h => by have := (HPO.out.1 h).2.1; omega
              go_wp2_with fail
              refine to_letter (HV6.out.fail (.bool false) (.slice none 0 0) (.slice none 0 0)) ?_
              clear z0 z1 z2 zf HV6 xl
              intro Wf hF
              obtain ⟨g0, g1, g2, hF⟩ := hF
              refine bodyPost_ret (v := .tuple #[.agg #[.bool false, .slice none 0 0, .slice none 0 0], .bool false]) ?_ rfl ?_
              · simp [results, Try.results17, go_sem, g0, g1, g2]
              · exact ⟨hF, Or.inr ⟨HN.out, rfl⟩⟩
            have d1 : decide ((1024 : Int) < (N.size : Int)) = false := by rw [decide_eq_false_iff_not]; omega
            clear HS1 HS2 HM x0 x1 x2
            have hz : N.toNd.size ≤ 1024 := by rw [toNd_size]; omega
            have PS := hidf (fun (W : World) (hb' : Below wr.heap.size wr W) => shaped_walk (n := N) (HNR.out.below hb') hsm)
            have PZ := hidf (fun (W : World) (hb' : Below wr.heap.size wr W) => rsize_walk (n := N) (HNR.out.below hb') hsm)
            have PG := hidf (fun (W : World) (hb' : Below wr.heap.size wr W) => refpage_walk (n := N) (HNR.out.below hb') hsm hshp (by omega))
            rw [hshp] at PS
            unfold nodeV at PS PZ PG
            have HKS := hidf (fun (W : World) (hb' : Below wr.heap.size wr W) => show (W.cell? ⟨w.heap.size + 1, 0, none⟩ = some (.bool N.leaf) ∧ W.cell? ⟨w.heap.size + 1, 1, none⟩ = some (.slice ra N.recs.length rc) ∧ W.cell? ⟨w.heap.size + 1, 2, none⟩ = some (.slice ka N.kids.length kc)) ∧ (convert 31 9 (.slice (some ⟨b, 0, none⟩) 1024 1024)).run Try.prog W = .ok (.string ⟨L.toArray⟩) W from ⟨node_cells (HQN.out.on hb').n, by
              have := conv_blk (HQN.out.on hb').blk 0 1024 1024 (by rw [HL.out]; omega)
              rwa [cut_all _ HL.out] at this⟩)
            have HPL := hidf (pageL_length hz)
            have HBW := hidf (fun (W : World) (hb' : Below wr.heap.size wr W) => HQN.out.on hb')
            clear HQN HNR
            generalize pageL N.toNd = PL at PG HPL HPO
            obtain ⟨SL, hSL⟩ : ∃ S : ByteArray, Hid (S = ⟨L.toArray⟩) := ⟨_, rfl⟩
            obtain ⟨SP, hSP⟩ : ∃ S : ByteArray, Hid (S = ⟨PL.toArray⟩) := ⟨_, rfl⟩
            rw [← hSL.out] at HKS
            have HSE : Hid (PL = L ↔ SP = SL) := by
              show _ ↔ _
              rw [hSL.out, hSP.out]
              exact ⟨fun h => by rw [h], fun h => by simpa using h⟩
            have tb0 : Below wr.heap.size wr wr.drew := (Below.refl _ _).drew
            generalize hZZ : (N.size : Int) = ZZ at PZ d1
            by_cases heq : PL = L
            · have hss := (HSE.out.1 heq).symm
              subst hss
              go_wp2_with fail
              go_region_held (fun W => (W.cell? ⟨w.heap.size + 1, 0, none⟩ = some (.bool N.leaf) ∧ W.cell? ⟨w.heap.size + 1, 1, none⟩ = some (.slice ra N.recs.length rc) ∧ W.cell? ⟨w.heap.size + 1, 2, none⟩ = some (.slice ka N.kids.length kc)) ∧ (convert 31 9 (.slice (some ⟨b, 0, none⟩) 1024 1024)).run Try.prog W = .ok (.string SL) W) (exact HKS.out _ (by assumption)) (first
                | (go_at_call 9; with_reducible refine (PS.out _ tb0).mono ?_; rintro e wa ⟨rfl, Ba⟩; have tb1 : Below wr.heap.size wr wa := below_on tb0 Ba; clear PS Ba)
                | (go_at_call 12; with_reducible refine (PZ.out _ tb1).mono ?_; rintro e wb ⟨rfl, Bb⟩; have tb2 : Below wr.heap.size wr wb := below_on tb1 Bb; clear PZ Bb)
                | (go_at_call 15
                   with_reducible refine (PG.out _ tb2).mono ?_
                   rintro e wc ⟨v, rfl, Ov, Bc⟩
                   have tb3 : Below wr.heap.size wr wc := below_on tb2 Bc
                   have hcv := conv_row Ov HPL.out (by decide)
                   rw [← hSP.out] at hcv
                   clear PG Bc Ov))
              have HV6 := hidf (HBW.out _ tb3)
              clear HKS HBW hcv tb0 tb1 tb2 tb3
              have HPK : Hid (pageOk L) := HPO.out.2 ⟨hshp, by omega, heq⟩
              have z0 := (node_cells HV6.out.z).1
              have z1 := (node_cells HV6.out.z).2.1
              have z2 := (node_cells HV6.out.z).2.2
              have zf : ∀ i, wc.frozen? ⟨w.heap.size, i, none⟩ = false := fun i => frozen_of_row _ _ _ _ _ HV6.out.z
              have xl : w.heap.size < wc.heap.size := (Array.getElem?_eq_some_iff.1 HV6.out.z).1
              have y0 := (node_cells HV6.out.n).1
              have y1 := (node_cells HV6.out.n).2.1
              have y2 := (node_cells HV6.out.n).2.2
              have yl : w.heap.size + 1 < wc.heap.size := (Array.getElem?_eq_some_iff.1 HV6.out.n).1
              go_wp2_with fail
              refine to_letter (HV6.out.all (.bool N.leaf)) ?_
              clear z0 z1 z2 zf HV6 xl y0 y1 y2 yl
              intro Wf hF
              obtain ⟨⟨g0, g1, g2, hB⟩, r1, r2⟩ := hF
              refine bodyPost_ret (v := .tuple #[.agg #[.bool N.leaf, .slice ra N.recs.length rc, .slice ka N.kids.length kc], .bool true]) ?_ rfl ?_
              · simp [results, Try.results17, go_sem, g0, g1, g2]
              · exact ⟨hB, Or.inl ⟨HPK.out, _, _, by rw [HLF.out], by rw [HCN2.out, HRN.out]; exact r1, by rw [HKN2.out, HRN.out]; exact r2⟩⟩
            · have hne : (SP.toList == SL.toList) = false := by
                rw [beq_eq_false_iff_ne]
                intro h
                exact heq (HSE.out.2 (toList_inj h))
              go_wp2_with fail
              go_region_held (fun W => (W.cell? ⟨w.heap.size + 1, 0, none⟩ = some (.bool N.leaf) ∧ W.cell? ⟨w.heap.size + 1, 1, none⟩ = some (.slice ra N.recs.length rc) ∧ W.cell? ⟨w.heap.size + 1, 2, none⟩ = some (.slice ka N.kids.length kc)) ∧ (convert 31 9 (.slice (some ⟨b, 0, none⟩) 1024 1024)).run Try.prog W = .ok (.string SL) W) (exact HKS.out _ (by assumption)) (first
                | (go_at_call 9; with_reducible refine (PS.out _ tb0).mono ?_; rintro e wa ⟨rfl, Ba⟩; have tb1 : Below wr.heap.size wr wa := below_on tb0 Ba; clear PS Ba)
                | (go_at_call 12; with_reducible refine (PZ.out _ tb1).mono ?_; rintro e wb ⟨rfl, Bb⟩; have tb2 : Below wr.heap.size wr wb := below_on tb1 Bb; clear PZ Bb)
                | (go_at_call 15
                   with_reducible refine (PG.out _ tb2).mono ?_
                   rintro e wc ⟨v, rfl, Ov, Bc⟩
                   have tb3 : Below wr.heap.size wr wc := below_on tb2 Bc
                   have hcv := conv_row Ov HPL.out (by decide)
                   rw [← hSP.out] at hcv
                   clear PG Bc Ov))
              have HV6 := hidf (HBW.out _ tb3)
              clear HKS HBW hcv tb0 tb1 tb2 tb3
              have z0 := (node_cells HV6.out.z).1
              have z1 := (node_cells HV6.out.z).2.1
              have z2 := (node_cells HV6.out.z).2.2
              have zf : ∀ i, wc.frozen? ⟨w.heap.size, i, none⟩ = false := fun i => frozen_of_row _ _ _ _ _ HV6.out.z
              have xl : w.heap.size < wc.heap.size := (Array.getElem?_eq_some_iff.1 HV6.out.z).1
              have HN : Hid (¬ pageOk L) := fun h => heq (HPO.out.1 h).2.2
              go_wp2_with fail
              refine to_letter (HV6.out.fail (.bool false) (.slice none 0 0) (.slice none 0 0)) ?_
              clear z0 z1 z2 zf HV6 xl
              intro Wf hF
              obtain ⟨g0, g1, g2, hF⟩ := hF
              refine bodyPost_ret (v := .tuple #[.agg #[.bool false, .slice none 0 0, .slice none 0 0], .bool false]) ?_ rfl ?_
              · simp [results, Try.results17, go_sem, g0, g1, g2]
              · exact ⟨hF, Or.inr ⟨HN.out, rfl⟩⟩
  have h1 : ¬ y0 = 1 := fun h => h12 (Or.inl h)
  have h2 : ¬ y0 = 2 := fun h => h12 (Or.inr h)
  have h1' : (y0 == 1) = false := by rw [beq_eq_false_iff_ne]; exact h1
  have h2' : (y0 == 2) = false := by rw [beq_eq_false_iff_ne]; exact h2
  have i1 : ((y0 : Int) == 1) = false := by rw [beq_eq_false_iff_ne]; omega
  have i2 : ((y0 : Int) == 2) = false := by rw [beq_eq_false_iff_ne]; omega
  have k1 : ((y0 : Int) != 1) = true := by rw [bne_iff_ne]; omega
  have k2 : ((y0 : Int) != 2) = true := by rw [bne_iff_ne]; omega
  have j1 : ¬ (y0 : Int) = 1 := by omega
  have j2 : ¬ (y0 : Int) = 2 := by omega
  have HN : Hid (¬ pageOk L) := fun h => by
    have e := mark_of (rawN L).toNd
    rw [h.2.2.2, hy0] at e
    omega
  go_wp2_with fail
  refine to_letter (fresh_fail w) ?_
  intro Wf hF
  obtain ⟨g0, g1, g2, hF⟩ := hF
  refine bodyPost_ret (v := .tuple #[.agg #[.bool false, .slice none 0 0, .slice none 0 0], .bool false]) ?_ rfl ?_
  · simp [results, Try.results17, go_sem, g0, g1, g2]
  · exact ⟨hF, Or.inr ⟨HN.out, rfl⟩⟩
end Go.Proofs.Ytpmagonmfaaihaa
