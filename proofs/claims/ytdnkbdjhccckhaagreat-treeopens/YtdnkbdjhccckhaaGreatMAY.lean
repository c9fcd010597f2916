import Derived.Test.YtdnkbdjhccckhaaGreatMAQ
import Derived.Test.YtdnkbdjhccckhaaGreatMAX
set_option maxRecDepth 100000
set_option maxHeartbeats 4000000
namespace Go.Proofs.YtdnkbdjhccckhaaGreat.L5
open Go.RowKit
theorem readg_walk {b: Nat} {L: List UInt8} {w: World} (hb: RBg w b L) (hl: L.length = 1024) {C: Nat} (hC: 1024 <= C) (hC2: C <= 9223372036854775807) :
 Calls Tryz.prog 40 #[.slice (some ⟨b,0,none⟩) 1024 C] w fun e w' => Below w.heap.size w w' /\ ((pageOk L /\ ∃ r k,e = .returned (.tuple #[.agg #[.bool (leafB L),r,k], .bool true]) /\ w'.ownsRow w.heap.size 9 1 r (cntL L) (svs (rawN L).recs) /\ w'.ownsRow w.heap.size 3 1 k (kidN L) (ivs (rawN L).kids)) \/ (¬ pageOk L /\ e = .returned (.tuple #[.agg #[.bool false, .slice none 0 0, .slice none 0 0], .bool false]))) := by
 have HB: Hid (RBg w b L) := hb
 have HL: Hid (L.length = 1024) := hl
 have hc0 := hb.cell 0 (by omega)
 have hc1 := hb.cell 1 (by omega)
 have hc2 := hb.cell 2 (by omega)
 have hbl := hb.lt
 have e0: byteAt L 0 = L[0].toNat := byteAt_get L 0 (by omega)
 have e1: byteAt L 1 = L[1].toNat := byteAt_get L 1 (by omega)
 have e2: byteAt L 2 = L[2].toNat := byteAt_get L 2 (by omega)
 rw [<- e0] at hc0
 rw [<- e1] at hc1
 rw [<- e2] at hc2
 have HCN: Hid (cntL L = byteAt L 1 * 256 + byteAt L 2) := by show _ = _; rw [cnt_at hl]; rfl
 have hb1: byteAt L 1 < 256 := by rw [e1]; exact UInt8.toNat_lt _
 have hb2: byteAt L 2 < 256 := by rw [e2]; exact UInt8.toNat_lt _
 clear hb hl e0 e1 e2
 go_enter Tryz.func40,Tryz.ntmps40
 generalize hy0: byteAt L 0 = y0 at *
 obtain ⟨y1,hy1⟩: ∃ y,Hid (byteAt L 1 = y) := ⟨_,rfl⟩
 obtain ⟨y2,hy2⟩: ∃ y,Hid (byteAt L 2 = y) := ⟨_,rfl⟩
 rw [hy1.out] at hc1 hb1 HCN
 rw [hy2.out] at hc2 hb2 HCN
 by_cases h12: y0 = 1 \/ y0 = 2
 · go_upto_region 1 with fail
   go_cut [27] from 13 (fun s27 wx => s27 = .bool false /\ wx = w.alloc (.cells #[.bool false, .slice none 0 0, .slice none 0 0] 91))
   case first =>
    rcases h12 with h1 | h1
    all_goals
     subst h1
     go_wp2
     go_meet
     exact ⟨rfl,rfl⟩
   case rest =>
    obtain ⟨rfl,rfl⟩ := hcut
    obtain ⟨lf,hlf⟩: ∃ lf: Bool,((y0: Int) == 1) = lf := ⟨_,rfl⟩
    have HLF0: Hid (leafB L = lf) := by
     show _ = _
     unfold leafB
     rw [hy0, <- hlf]
     rcases h12 with h1 | h1 <;> subst h1 <;> rfl
    have HQ := hidf (Rg.new HB.out lf)
    go_wp2_with fail
    clear hlf
    generalize (w.alloc (.cells #[.bool false, .slice none 0 0, .slice none 0 0] 91)).alloc (.cells #[.bool lf, .slice none 0 0, .slice none 0 0] 91) = w1 at HQ ⊢
    clear hc0 hc1 hc2
    have hc1 := HQ.out.blk.cell 1 (by have := HL.out; omega)
    have hc2 := HQ.out.blk.cell 2 (by have := HL.out; omega)
    rw [<- byteAt_get,hy1.out] at hc1
    rw [<- byteAt_get,hy2.out] at hc2
    have hbl1 := HQ.out.blk.lt
    go_quiet (fail)
    obtain ⟨cn,hcn⟩: ∃ cn: Nat,Hid (cn = y1 * 256 + y2) := ⟨_,rfl⟩
    rw [show (y1: Int) * 256 + (y2: Int) = (cn: Int) by have := hcn.out; omega]
    have HC := hidf (HCN.out.trans hcn.out.symm)
    have hcm: cn < 65536 := by have := hcn.out; omega
    have HQ2 := hidf (HQ.out.on (below_drewN (Below.refl _ _) nq))
    clear HQ hc1 hc2 hbl1 HCN hcn hb1 hb2 hy1 hy2
    generalize w1.drewN nq = w2 at HQ2 ⊢
    clear hy0 h12
    have n0 := (node_cells HQ2.out.n).1
    have nl: w.heap.size + 1 < w2.heap.size := (Array.getElem?_eq_some_iff.1 HQ2.out.n).1
    go_upto_if 46 with fail
    clear n0 nl
    go_cut [6] from 13 (fun s6 wx => s6 = .int .i64 ((slotAt L: Nat): Int) /\ slotAt L <= 1024 /\ ∃ kv,Hid (Rg w b L (w.heap.size + 1) lf (.slice none 0 0) kv [] (kidsL L 3 (kidN L)) wx))
    case first =>
     cases lf
     · have HKD: Hid (kidN L = cn + 1) := by show _ = _; unfold kidN; rw [HLF0.out,HC.out]; rfl
       clear HLF0
       go_wp2_with fail
       go_loopw [6,7] (fun x i wr => ∃ j: Nat,j <= cn + 1 /\ i = .int .i64 (j: Int) /\ x = .int .i64 ((3 + 4 * j: Nat): Int) /\ 3 + 4 * j <= 1024 /\ ∃ kv,Hid (Rg w b L (w.heap.size + 1) false (.slice none 0 0) kv [] (kidsL L 3 j) wr)) (fun _ i _ => cn + 1 - (intOf i).toNat)
       case atStart => exact ⟨0,Nat.zero_le _,rfl,rfl,by omega,_,HQ2⟩
       case round =>
        clear HQ2
        obtain ⟨j,hj,rfl,rfl,hjO,kv,HQ⟩ := hrel
        by_cases hlt: j <= cn
        · have hlt': (j: Int) <= (cn: Int) := by omega
          by_cases hend: 3 + 4 * j + 4 <= 1024
          · have hend': ((3 + 4 * j: Nat): Int) + 4 <= 1024 := by omega
            have HKS := hidf (kidsL_snoc L 3 j)
            generalize hA: 3 + 4 * j = A at *
            go_wp2_with fail
            go_loopw [8,9] (fun x i wx => ∃ m: Nat,m <= 4 /\ i = .int .i64 (m: Int) /\ x = .int .i64 ((numL (cut L A m): Nat): Int) /\ Hid (Rg w b L (w.heap.size + 1) false (.slice none 0 0) kv [] (kidsL L 3 j) wx)) (fun _ i _ => 4 - (intOf i).toNat)
            case atStart => exact ⟨0,Nat.zero_le _,rfl,by rw [cut_zero]; rfl,HQ⟩
            case round =>
             clear HQ
             obtain ⟨m,hm,rfl,rfl,HQ⟩ := hrel
             by_cases hlm: m < 4
             · have hlm': (m: Int) < 4 := by omega
               have g0 := HQ.out.blk.cell (A + m) (by have := HL.out; omega)
               have hbl1 := HQ.out.blk.lt
               have HNS: Hid (numL (cut L A (m + 1)) = numL (cut L A m) * 256 + (L[A + m]'(by have := HL.out; omega)).toNat) := by
                show _ = _
                have e: cut L A (m + 1) = cut L A m ++ [L[A + m]'(by have := HL.out; omega)] := by
                 unfold cut
                 rw [List.take_succ_eq_append_getElem (by simp; have := HL.out; omega),List.getElem_drop]
                rw [e,numL_snoc]
               have hnl: numL (cut L A m) < 16777216 := by
                have h := numL_lt (cut L A m) 0
                have hl: (cut L A m).length <= 3 := by unfold cut; simp; omega
                refine Nat.lt_of_lt_of_le (show numL (cut L A m) < 1 * 256 ^ (cut L A m).length by simpa [numL] using h) ?_
                rw [Nat.one_mul]
                exact Nat.pow_le_pow_right (by decide) hl
               have hcl: (L[A + m]'(by have := HL.out; omega)).toNat < 256 := UInt8.toNat_lt _
               generalize (L[A + m]'(by have := HL.out; omega)).toNat = cc at g0 HNS hcl
               generalize numL (cut L A m) = nn at hnl HNS ⊢
               go_wp2
               exact ⟨⟨m + 1,by omega,by go_num,by rw [HNS.out]; go_num,HQ⟩,by simp [intOf]; omega⟩
             · have hlm': (4: Int) <= (m: Int) := by omega
               have hm4: m = 4 := by omega
               subst hm4
               generalize numL (cut L A 4) = kk at HKS ⊢
               have HBA := hidf (below_alloc wr (.cells #[.int .i64 (kk: Int)] 3))
               have HQ5 := hidf (HQ.out.on HBA.out)
               have HO5 := hidf HQ5.out.kk
               rw [kidsL_length] at HO5
               have n1 := (node_cells HQ.out.n).2.2
               have nl: w.heap.size + 1 < wr.heap.size := (Array.getElem?_eq_some_iff.1 HQ.out.n).1
               go_wp2_with (first
                | (at_builtin
                   revert HQ5)
                | fail)
               intro HQ5
               refine append_row (z := .int .i64 0) (by_ := 8) Tryz.underlying55 (by kernel_rfl) (by decide) rfl w.heap.size HQ5.out.below.size rfl _ _ rfl kv j (ivs (kidsL L 3 j)) (ivs [(kk: Int)]) rfl HO5.out (by omega) 1 (by omega) ⟨wr.heap.size,0,none⟩ 1 rfl rfl (one_int wr _ _) (one_ivs _) ?_
               intro v2 w2 hown hgr _
               obtain ⟨ad2,cp2,rfl,_,_⟩ := owns_slice hown
               have HQ6 := hidf (HQ.out.moreK HB.out HBA.out hgr hown (by rw [kidsL_length])).1
               have hn2 := (HQ.out.moreK HB.out HBA.out hgr hown (by rw [kidsL_length])).2
               have x1 := (node_cells hn2).2.2
               have x2: ∀ i,w2.frozen? ⟨w.heap.size + 1,i,none⟩ = false := fun i => frozen_of_row _ _ _ _ _ hn2
               have x3: w.heap.size + 1 < w2.heap.size := (Array.getElem?_eq_some_iff.1 hn2).1
               clear hown hgr hn2 n1 nl HQ HBA HQ5 HO5
               go_wp2_with fail
               clear x1 x2 x3
               generalize w2.setCell ⟨w.heap.size + 1,2,none⟩ (.slice ad2 (j + 1) cp2) = w6 at HQ6 ⊢
               go_roundw
               case rel =>
                (repeat apply Exists.intro)
                exact ⟨⟨j + 1,by omega,by go_num,by go_num,by omega,_,by rw [HKS.out]; exact HQ6⟩,rfl⟩
               case measure => simp [intOf]; omega
          · have hend': 1024 < ((3 + 4 * j: Nat): Int) + 4 := by omega
            have HO: Hid (slotAt L = 3 + 4 * (cn + 1)) := by show _ = _; unfold slotAt; rw [HKD.out]
            have z0 := (node_cells HQ.out.z).1
            have z1 := (node_cells HQ.out.z).2.1
            have z2 := (node_cells HQ.out.z).2.2
            have zf: ∀ i,wr.frozen? ⟨w.heap.size,i,none⟩ = false := fun i => frozen_of_row _ _ _ _ _ HQ.out.z
            have xl: w.heap.size < wr.heap.size := (Array.getElem?_eq_some_iff.1 HQ.out.z).1
            have HN: Hid (¬ pageOk L) := fun h => by have := h.1.1; rw [HC.out,HO.out] at this; omega
            go_wp2_with fail
            refine to_letter (HQ.out.fail (.bool false) (.slice none 0 0) (.slice none 0 0)) ?_
            clear z0 z1 z2 zf HQ xl
            intro Wf hF
            obtain ⟨g0,g1,g2,hF⟩ := hF
            refine bodyPost_ret (v := .tuple #[.agg #[.bool false, .slice none 0 0, .slice none 0 0], .bool false]) ?_ rfl ?_
            · simp [results,Tryz.results40,go_sem,g0,g1,g2]
            · exact ⟨hF,Or.inr ⟨HN.out,rfl⟩⟩
        · have hlt': (cn: Int) < (j: Int) := by omega
          have hjc: j = cn + 1 := by omega
          have HO: Hid (slotAt L = 3 + 4 * j) := by show _ = _; unfold slotAt; rw [HKD.out,hjc]
          go_wp2
          go_meet
          refine ⟨by rw [HO.out],by rw [HO.out]; exact hjO,kv, ?_⟩
          rw [HKD.out, <- hjc]
          exact HQ
     · have HKD: Hid (kidN L = 0) := by show _ = _; unfold kidN; rw [HLF0.out]; rfl
       have HO: Hid (slotAt L = 3) := by show _ = _; unfold slotAt; rw [HKD.out]
       go_wp2
       go_meet
       refine ⟨by rw [HO.out]; rfl,by rw [HO.out]; omega, .slice none 0 0, ?_⟩
       rw [HKD.out]
       exact HQ2
    case rest =>
     clear HQ2
     obtain ⟨rfl,hO1,kv,HQ2⟩ := hcut
     obtain ⟨O,hO⟩: ∃ O: Nat,O = slotAt L := ⟨_,rfl⟩
     have HO := hidf hO.symm
     rw [<- hO] at hO1 ⊢
     clear hO
     obtain ⟨K,hK⟩: ∃ K: List Int,K = kidsL L 3 (kidN L) := ⟨_,rfl⟩
     have HRAW: Hid (rawN L = ⟨lf,recsL L O cn,K⟩) := by
      show _ = _
      unfold rawN
      rw [HC.out,HO.out,hK,HLF0.out]
     rw [<- hK] at HQ2
     clear hK HLF0
     go_wp2_with fail
     generalize wc = w2 at HQ2 ⊢
     go_loopw [6,10] (fun x i wr => ∃ j: Nat,j <= cn /\ i = .int .i64 (j: Int) /\ x = .int .i64 ((O + 4 * j: Nat): Int) /\ O + 4 * j <= 1024 /\ Hid (inL L O j) /\ ∃ r,Hid (Rg w b L (w.heap.size + 1) lf r kv (recsL L O j) K wr)) (fun _ i _ => cn - (intOf i).toNat)
     case atStart => exact ⟨0,Nat.zero_le _,rfl,rfl,by omega,(fun i hi => absurd hi (Nat.not_lt_zero _)),_,HQ2⟩
     case round =>
      clear HQ2
      obtain ⟨j,hj,rfl,rfl,hjO,HI,r,HQ⟩ := hrel
      by_cases hlt: j < cn
      · have hlt': (j: Int) < (cn: Int) := by omega
        by_cases hend: O + 4 * j + 4 <= 1024
        · have hend': ((O + 4 * j: Nat): Int) + 4 <= 1024 := by omega
          have g0 := HQ.out.blk.cell (O + 4 * j) (by have := HL.out; omega)
          have g1 := HQ.out.blk.cell (O + 4 * j + 1) (by have := HL.out; omega)
          have g2 := HQ.out.blk.cell (O + 4 * j + 2) (by have := HL.out; omega)
          have g3 := HQ.out.blk.cell (O + 4 * j + 3) (by have := HL.out; omega)
          have HBG: Hid (begL L O j = byteAt L (O + 4 * j) * 256 + byteAt L (O + 4 * j + 1)) := by show _ = _; unfold begL; rw [num2_at _ _ (by have := HL.out; omega)]; rfl
          have HLN: Hid (lenL L O j = byteAt L (O + 4 * j + 2) * 256 + byteAt L (O + 4 * j + 3)) := by show _ = _; unfold lenL; rw [num2_at _ _ (by have := HL.out; omega)]; rfl
          rw [<- byteAt_get] at g0 g1 g2 g3
          have t0: byteAt L (O + 4 * j) < 256 := by unfold byteAt; exact UInt8.toNat_lt _
          have t1: byteAt L (O + 4 * j + 1) < 256 := by unfold byteAt; exact UInt8.toNat_lt _
          have t2: byteAt L (O + 4 * j + 2) < 256 := by unfold byteAt; exact UInt8.toNat_lt _
          have t3: byteAt L (O + 4 * j + 3) < 256 := by unfold byteAt; exact UInt8.toNat_lt _
          generalize byteAt L (O + 4 * j) = x0 at g0 HBG t0
          generalize byteAt L (O + 4 * j + 1) = x1 at g1 HBG t1
          generalize byteAt L (O + 4 * j + 2) = x2 at g2 HLN t2
          generalize byteAt L (O + 4 * j + 3) = x3 at g3 HLN t3
          generalize hA: O + 4 * j = A at *
          have hbl1 := HQ.out.blk.lt
          go_wp2_with fail
          go_quiet (fail)
          obtain ⟨P,hP⟩: ∃ P: Nat,P = x0 * 256 + x1 := ⟨_,rfl⟩
          rw [show (x0: Int) * 256 + (x1: Int) = (P: Int) by omega]
          rw [<- hP] at HBG
          have hPm: P < 65536 := by omega
          clear hP
          have HQ3 := hidf (HQ.out.on (below_drewN (Below.refl _ _) nq))
          have g2': (wr.drewN nq).cell? ⟨b,A + 2,none⟩ = some (.int .u8 (x2: Int)) := g2
          have g3': (wr.drewN nq).cell? ⟨b,A + 3,none⟩ = some (.int .u8 (x3: Int)) := g3
          have hbl2: b < (wr.drewN nq).heap.size := hbl1
          clear HQ g0 g1 g2 g3 t0 t1 hbl1
          generalize wr.drewN nq = w3 at HQ3 g2' g3' hbl2 ⊢
          clear nq
          go_wp2_with fail
          go_quiet (fail)
          obtain ⟨Z,hZ⟩: ∃ Z: Nat,Z = x2 * 256 + x3 := ⟨_,rfl⟩
          rw [show (x2: Int) * 256 + (x3: Int) = (Z: Int) by omega]
          rw [<- hZ] at HLN
          have hZm: Z < 65536 := by omega
          clear hZ
          have HQ4 := hidf (HQ3.out.on (below_drewN (Below.refl _ _) nq))
          clear HQ3 g2' g3' hbl2 t2 t3
          generalize w3.drewN nq = w4 at HQ4 ⊢
          clear nq
          by_cases hPZ: P + Z <= 1024
          · have hPZ': (P: Int) + (Z: Int) <= 1024 := by omega
            have hP0: (P: Int) <= (P: Int) + (Z: Int) := by omega
            have HIj: Hid (inL L O (j + 1)) := fun i hi => by
             by_cases e: i = j
             · subst e; rw [HBG.out,HLN.out,HL.out]; exact hPZ
             · exact HI.out i (by omega)
            have HS: Hid (recL L O j = ⟨(cut L P Z).toArray⟩) := by show recL L O j = _; unfold recL; rw [HBG.out,HLN.out]
            have HRS := hidf (recsL_snoc L O j)
            rw [HS.out] at HRS
            have hKd: RBg w4.drew b L := HQ4.out.blk
            have hcv: (convert 81 9 (.slice (some ⟨b,P,none⟩) Z (C - P))).run Tryz.prog w4.drew = .ok (.string ⟨(cut L P Z).toArray⟩) w4.drew := conv_rbg hKd P Z (C - P) (by have := HL.out; omega)
            have hcv0: Z = 0 -> (convert 81 9 (.slice (some ⟨b,0,none⟩) 0 0)).run Tryz.prog w4.drew = .ok (.string ⟨(cut L P Z).toArray⟩) w4.drew := fun h => by
             have := conv_rbg hKd 0 0 0 (by omega)
             rw [this,h]
             simp [cut]
            generalize (⟨(cut L P Z).toArray⟩: ByteArray) = S at hcv hcv0 HRS
            clear hKd HS
            have HBA := hidf ((below_drew w4).alloc (Nat.le_refl _) (.cells #[.string S] 9): Below w4.heap.size w4 (w4.drew.alloc (.cells #[.string S] 9)))
            have HQ5 := hidf (HQ4.out.on HBA.out)
            have HO5 := hidf HQ5.out.rr
            rw [recsL_length] at HO5
            have HC5 := hidf (one_str w4.drew S 9)
            have hz5: w.heap.size <= (w4.drew.alloc (.cells #[.string S] 9)).heap.size := HQ5.out.below.size
            have n1 := (node_cells HQ4.out.n).2.1
            have n1' := (node_cells HQ5.out.n).2.1
            have nl: w.heap.size + 1 < w4.heap.size := (Array.getElem?_eq_some_iff.1 HQ4.out.n).1
            have hbl4 := HQ4.out.blk.lt
            have hw1: IntKind.i64.wrap ((P: Int) + (Z: Int)) = (P: Int) + (Z: Int) := by rw [IntKind.wrap_i64]; omega
            have hw2: ((P: Int) + (Z: Int)).toNat = P + Z := by omega
            have hw3: P + Z - P = Z := by omega
            have hw4: IntKind.i64.wrap (C: Int) = (C: Int) := by rw [IntKind.wrap_i64]; omega
            have hPC: (P: Int) + (Z: Int) <= (C: Int) := by omega
            by_cases hcp: P = C
            · have hZ0: Z = 0 := by omega
              have hcv1 := hcv0 hZ0
              clear hcv hcv0
              subst hcp
              subst hZ0
              go_wp2_with fail
              go_region_law (first
               | (refine step_row (z := .string ⟨#[]⟩) (by_ := 16) Tryz.underlying33 (by kernel_rfl) (by decide) rfl w.heap.size hz5 rfl (.tmp 120) (.tmp 128) rfl r j _ (svs [S]) ?_ HO5.out (by omega) ⟨w4.heap.size,0,none⟩ 1 1 ?_ rfl (by decide) HC5.out (one_svs _) ?_
                  · simp [Act.eval]
                  · simp [Act.eval]
                  intro v2 w2 hown hgr
                  obtain ⟨ad2,cp2,rfl,_,_⟩ := owns_slice hown
                  have HQ6 := hidf (HQ4.out.more HB.out HBA.out hgr hown (by rw [recsL_length])).1
                  have hn2 := (HQ4.out.more HB.out HBA.out hgr hown (by rw [recsL_length])).2
                  have x1 := (node_cells hn2).2.1
                  have x2: ∀ i,w2.frozen? ⟨w.heap.size + 1,i,none⟩ = false := fun i => frozen_of_row _ _ _ _ _ hn2
                  clear hown hgr hn2))
              all_goals
               clear n1 n1' nl hbl4 HQ4 HBA HQ5 HO5 HC5 x1 x2
               generalize w2.setCell ⟨w.heap.size + 1,1,none⟩ (.slice ad2 (j + 1) cp2) = w6 at HQ6 ⊢
               go_wp2
               exact ⟨⟨j + 1,by omega,by go_num,by go_num,by omega,HIj,_,by rw [HRS.out]; exact HQ6⟩,by simp [intOf]; omega⟩
            · have hcp1: ¬ C = P := by omega
              go_wp2_with fail
              go_region_law (first
               | (refine step_row (z := .string ⟨#[]⟩) (by_ := 16) Tryz.underlying33 (by kernel_rfl) (by decide) rfl w.heap.size hz5 rfl (.tmp 120) (.tmp 128) rfl r j _ (svs [S]) ?_ HO5.out (by omega) ⟨w4.heap.size,0,none⟩ 1 1 ?_ rfl (by decide) HC5.out (one_svs _) ?_
                  · simp [Act.eval]
                  · simp [Act.eval]
                  intro v2 w2 hown hgr
                  obtain ⟨ad2,cp2,rfl,_,_⟩ := owns_slice hown
                  have HQ6 := hidf (HQ4.out.more HB.out HBA.out hgr hown (by rw [recsL_length])).1
                  have hn2 := (HQ4.out.more HB.out HBA.out hgr hown (by rw [recsL_length])).2
                  have x1 := (node_cells hn2).2.1
                  have x2: ∀ i,w2.frozen? ⟨w.heap.size + 1,i,none⟩ = false := fun i => frozen_of_row _ _ _ _ _ hn2
                  clear hown hgr hn2))
              all_goals
               clear n1 n1' nl hbl4 HQ4 HBA HQ5 HO5 HC5 x1 x2
               generalize w2.setCell ⟨w.heap.size + 1,1,none⟩ (.slice ad2 (j + 1) cp2) = w6 at HQ6 ⊢
               go_wp2
               exact ⟨⟨j + 1,by omega,by go_num,by go_num,by omega,HIj,_,by rw [HRS.out]; exact HQ6⟩,by simp [intOf]; omega⟩
          · have hPZ': 1024 < (P: Int) + (Z: Int) := by omega
            have z0 := (node_cells HQ4.out.z).1
            have z1 := (node_cells HQ4.out.z).2.1
            have z2 := (node_cells HQ4.out.z).2.2
            have zf: ∀ i,w4.frozen? ⟨w.heap.size,i,none⟩ = false := fun i => frozen_of_row _ _ _ _ _ HQ4.out.z
            have xl: w.heap.size < w4.heap.size := (Array.getElem?_eq_some_iff.1 HQ4.out.z).1
            have HN: Hid (¬ pageOk L) := fun h => by have := h.1.2 j (by rw [HC.out]; exact hlt); rw [HO.out,HBG.out,HLN.out,HL.out] at this; omega
            go_wp2_with fail
            refine to_letter (HQ4.out.fail (.bool false) (.slice none 0 0) (.slice none 0 0)) ?_
            clear z0 z1 z2 zf HQ4 xl
            intro Wf hF
            obtain ⟨g0,g1,g2,hF⟩ := hF
            refine bodyPost_ret (v := .tuple #[.agg #[.bool false, .slice none 0 0, .slice none 0 0], .bool false]) ?_ rfl ?_
            · simp [results,Tryz.results40,go_sem,g0,g1,g2]
            · exact ⟨hF,Or.inr ⟨HN.out,rfl⟩⟩
        · have hend': 1024 < ((O + 4 * j: Nat): Int) + 4 := by omega
          have z0 := (node_cells HQ.out.z).1
          have z1 := (node_cells HQ.out.z).2.1
          have z2 := (node_cells HQ.out.z).2.2
          have zf: ∀ i,wr.frozen? ⟨w.heap.size,i,none⟩ = false := fun i => frozen_of_row _ _ _ _ _ HQ.out.z
          have xl: w.heap.size < wr.heap.size := (Array.getElem?_eq_some_iff.1 HQ.out.z).1
          have HN: Hid (¬ pageOk L) := fun h => by have := h.1.1; rw [HC.out,HO.out] at this; omega
          go_wp2_with fail
          refine to_letter (HQ.out.fail (.bool false) (.slice none 0 0) (.slice none 0 0)) ?_
          clear z0 z1 z2 zf HQ xl
          intro Wf hF
          obtain ⟨g0,g1,g2,hF⟩ := hF
          refine bodyPost_ret (v := .tuple #[.agg #[.bool false, .slice none 0 0, .slice none 0 0], .bool false]) ?_ rfl ?_
          · simp [results,Tryz.results40,go_sem,g0,g1,g2]
          · exact ⟨hF,Or.inr ⟨HN.out,rfl⟩⟩
      · have hlt': (cn: Int) <= (j: Int) := by omega
        have hjc: j = cn := by omega
        subst hjc
        have HOK: Hid (rawOk L) := ⟨by rw [HC.out,HO.out]; exact hjO,by rw [HC.out,HO.out]; exact HI.out⟩
        have hsm := raw_small HL.out HOK.out
        have hrr := HQ.out.rr
        have hkk := HQ.out.kk
        obtain ⟨ra,rc,rfl,hr1,_,_⟩ := owns_rd hrr
        obtain ⟨ka,kc,rfl,hk1,_,_⟩ := owns_rd hkk
        obtain ⟨N,hN⟩: ∃ N: No,N = ⟨lf,recsL L O j,K⟩ := ⟨_,rfl⟩
        have HRN := hidf (HRAW.out.trans hN.symm)
        rw [HRN.out] at hsm
        have HNR: Hid (NR wr N ra rc ka kc) := by rw [hN]; exact ⟨hr1,hk1⟩
        have HPO: Hid (pageOk L ↔ N.shaped = true /\ N.size <= 1024 /\ pageL N.toNd = L) := by
         show _ ↔ _
         unfold pageOk
         rw [HRN.out]
         exact ⟨fun h => h.2,fun h => ⟨HOK.out,h⟩⟩
        have HQN: Hid (Rg w b L (w.heap.size + 1) N.leaf (.slice ra N.recs.length rc) (.slice ka N.kids.length kc) N.recs N.kids wr) := by rw [hN]; exact HQ.out
        have HLF: Hid (leafB L = N.leaf) := by show _ = _; rw [<- HRN.out]; rfl
        have HCN2: Hid (cntL L = N.recs.length) := by show _ = _; rw [<- HRN.out]; exact (recsL_length _ _ _).symm
        have HKN2: Hid (kidN L = N.kids.length) := by show _ = _; rw [<- HRN.out]; exact (kidsL_length _ _ _).symm
        clear hrr hkk hr1 hk1 hN HQ HOK HRAW HI
        have x0: ∀ q: BelowW wr,q.w.cell? ⟨w.heap.size + 1,0,none⟩ = some (.bool N.leaf) := fun q => (node_cells (HQN.out.on q.below).n).1
        have x1: ∀ q: BelowW wr,q.w.cell? ⟨w.heap.size + 1,1,none⟩ = some (.slice ra N.recs.length rc) := fun q => (node_cells (HQN.out.on q.below).n).2.1
        have x2: ∀ q: BelowW wr,q.w.cell? ⟨w.heap.size + 1,2,none⟩ = some (.slice ka N.kids.length kc) := fun q => (node_cells (HQN.out.on q.below).n).2.2
        have HS1 := hidf (fun q: BelowW wr => shaped_walk (n := N) (HNR.out.below q.below) hsm)
        have HS2 := hidf (fun q: BelowW wr => rsize_walk (n := N) (HNR.out.below q.below) hsm)
        have HM := hidf (fun q: BelowW wr => HQN.out.on q.below)
        unfold nodeV at HS1 HS2
        cases hshp: N.shaped
        · rw [hshp] at HS1
          clear HQN
          go_wp2_with fail
          refine wp_region_below (by kernel_rfl) (by kernel_rfl) (fun _ => ?_)
          repeat (go_big_quiet_step (first | (go_at_call 60; exact quiet_of_below (HS1.out _)) | (go_at_call 61; exact quiet_of_below (HS2.out _))))
          refine wpQuiet_nil ?_
          rintro _ ⟨q,rfl⟩
          have HV6 := hidf (HM.out q)
          generalize q.w = w6 at HV6 ⊢
          clear HM HS1 HS2 x0 x1 x2 q
          have z0 := (node_cells HV6.out.z).1
          have z1 := (node_cells HV6.out.z).2.1
          have z2 := (node_cells HV6.out.z).2.2
          have zf: ∀ i,w6.frozen? ⟨w.heap.size,i,none⟩ = false := fun i => frozen_of_row _ _ _ _ _ HV6.out.z
          have xl: w.heap.size < w6.heap.size := (Array.getElem?_eq_some_iff.1 HV6.out.z).1
          have HN: Hid (¬ pageOk L) := fun h => by have := (HPO.out.1 h).1; rw [hshp] at this; cases this
          go_wp2_with fail
          refine to_letter (HV6.out.fail (.bool false) (.slice none 0 0) (.slice none 0 0)) ?_
          clear z0 z1 z2 zf HV6 xl
          intro Wf hF
          obtain ⟨g0,g1,g2,hF⟩ := hF
          refine bodyPost_ret (v := .tuple #[.agg #[.bool false, .slice none 0 0, .slice none 0 0], .bool false]) ?_ rfl ?_
          · simp [results,Tryz.results40,go_sem,g0,g1,g2]
          · exact ⟨hF,Or.inr ⟨HN.out,rfl⟩⟩
        rw [hshp] at HS1
        by_cases hsz: 1024 < N.size
        · have d1: decide ((1024: Int) < (N.size: Int)) = true := decide_eq_true (by omega)
          clear HQN
          go_wp2_with fail
          refine wp_region_below (by kernel_rfl) (by kernel_rfl) (fun _ => ?_)
          repeat (go_big_quiet_step (first | (go_at_call 60; exact quiet_of_below (HS1.out _)) | (go_at_call 61; exact quiet_of_below (HS2.out _))))
          refine wpQuiet_nil ?_
          rintro _ ⟨q,rfl⟩
          have HV6 := hidf (HM.out q)
          generalize q.w = w6 at HV6 ⊢
          clear HM HS1 HS2 x0 x1 x2 q
          have z0 := (node_cells HV6.out.z).1
          have z1 := (node_cells HV6.out.z).2.1
          have z2 := (node_cells HV6.out.z).2.2
          have zf: ∀ i,w6.frozen? ⟨w.heap.size,i,none⟩ = false := fun i => frozen_of_row _ _ _ _ _ HV6.out.z
          have xl: w.heap.size < w6.heap.size := (Array.getElem?_eq_some_iff.1 HV6.out.z).1
          have HN: Hid (¬ pageOk L) := fun h => by have := (HPO.out.1 h).2.1; omega
          go_wp2_with fail
          refine to_letter (HV6.out.fail (.bool false) (.slice none 0 0) (.slice none 0 0)) ?_
          clear z0 z1 z2 zf HV6 xl
          intro Wf hF
          obtain ⟨g0,g1,g2,hF⟩ := hF
          refine bodyPost_ret (v := .tuple #[.agg #[.bool false, .slice none 0 0, .slice none 0 0], .bool false]) ?_ rfl ?_
          · simp [results,Tryz.results40,go_sem,g0,g1,g2]
          · exact ⟨hF,Or.inr ⟨HN.out,rfl⟩⟩
        have d1: decide ((1024: Int) < (N.size: Int)) = false := by rw [decide_eq_false_iff_not]; omega
        clear HS1 HS2 HM x0 x1 x2
        have hz: N.toNd.size <= 1024 := by rw [toNd_size]; omega
        have PS := hidf (fun (W: World) (hb': Below wr.heap.size wr W) => shaped_walk (n := N) (HNR.out.below hb') hsm)
        have PZ := hidf (fun (W: World) (hb': Below wr.heap.size wr W) => rsize_walk (n := N) (HNR.out.below hb') hsm)
        have PG := hidf (fun (W: World) (hb': Below wr.heap.size wr W) => refpage_walk (n := N) (HNR.out.below hb') hsm hshp (by omega))
        rw [hshp] at PS
        unfold nodeV at PS PZ PG
        have HKS := hidf (fun (W: World) (hb': Below wr.heap.size wr W) => show (W.cell? ⟨w.heap.size + 1,0,none⟩ = some (.bool N.leaf) /\ W.cell? ⟨w.heap.size + 1,1,none⟩ = some (.slice ra N.recs.length rc) /\ W.cell? ⟨w.heap.size + 1,2,none⟩ = some (.slice ka N.kids.length kc)) /\ (convert 81 9 (.slice (some ⟨b,0,none⟩) 1024 C)).run Tryz.prog W = .ok (.string ⟨L.toArray⟩) W from ⟨node_cells (HQN.out.on hb').n,by
         have := conv_rbg (HQN.out.on hb').blk 0 1024 C (by rw [HL.out]; omega)
         rwa [cut_all _ HL.out] at this⟩)
        have HPL := hidf (pageL_length hz)
        have HBW := hidf (fun (W: World) (hb': Below wr.heap.size wr W) => HQN.out.on hb')
        clear HQN HNR
        generalize pageL N.toNd = PL at PG HPL HPO
        obtain ⟨SL,hSL⟩: ∃ S: ByteArray,Hid (S = ⟨L.toArray⟩) := ⟨_,rfl⟩
        obtain ⟨SP,hSP⟩: ∃ S: ByteArray,Hid (S = ⟨PL.toArray⟩) := ⟨_,rfl⟩
        rw [<- hSL.out] at HKS
        have HSE: Hid (PL = L ↔ SP = SL) := by
         show _ ↔ _
         rw [hSL.out,hSP.out]
         exact ⟨fun h => by rw [h],fun h => by simpa using h⟩
        have tb0: Below wr.heap.size wr wr.drew := (Below.refl _ _).drew
        generalize hZZ: (N.size: Int) = ZZ at PZ d1
        by_cases heq: PL = L
        · have hss := (HSE.out.1 heq).symm
          subst hss
          go_wp2_with fail
          go_region_held (fun W => (W.cell? ⟨w.heap.size + 1,0,none⟩ = some (.bool N.leaf) /\ W.cell? ⟨w.heap.size + 1,1,none⟩ = some (.slice ra N.recs.length rc) /\ W.cell? ⟨w.heap.size + 1,2,none⟩ = some (.slice ka N.kids.length kc)) /\ (convert 81 9 (.slice (some ⟨b,0,none⟩) 1024 C)).run Tryz.prog W = .ok (.string SL) W) (exact HKS.out _ (by assumption)) (first
           | (go_at_call 60; with_reducible refine (PS.out _ tb0).mono ?_; rintro e wa ⟨rfl,Ba⟩; have tb1: Below wr.heap.size wr wa := below_on tb0 Ba; clear PS Ba)
           | (go_at_call 61; with_reducible refine (PZ.out _ tb1).mono ?_; rintro e wb ⟨rfl,Bb⟩; have tb2: Below wr.heap.size wr wb := below_on tb1 Bb; clear PZ Bb)
           | (go_at_call 62
              with_reducible refine (PG.out _ tb2).mono ?_
              rintro e wc ⟨v,rfl,Ov,Bc⟩
              have tb3: Below wr.heap.size wr wc := below_on tb2 Bc
              have hcv := conv_row Ov HPL.out (by decide)
              rw [<- hSP.out] at hcv
              clear PG Bc Ov))
          have HV6 := hidf (HBW.out _ tb3)
          clear HKS HBW hcv tb0 tb1 tb2 tb3
          have HPK: Hid (pageOk L) := HPO.out.2 ⟨hshp,by omega,heq⟩
          have z0 := (node_cells HV6.out.z).1
          have z1 := (node_cells HV6.out.z).2.1
          have z2 := (node_cells HV6.out.z).2.2
          have zf: ∀ i,wc.frozen? ⟨w.heap.size,i,none⟩ = false := fun i => frozen_of_row _ _ _ _ _ HV6.out.z
          have xl: w.heap.size < wc.heap.size := (Array.getElem?_eq_some_iff.1 HV6.out.z).1
          have y0 := (node_cells HV6.out.n).1
          have y1 := (node_cells HV6.out.n).2.1
          have y2 := (node_cells HV6.out.n).2.2
          have yl: w.heap.size + 1 < wc.heap.size := (Array.getElem?_eq_some_iff.1 HV6.out.n).1
          go_wp2_with fail
          refine to_letter (HV6.out.all (.bool N.leaf)) ?_
          clear z0 z1 z2 zf HV6 xl y0 y1 y2 yl
          intro Wf hF
          obtain ⟨⟨g0,g1,g2,hB⟩,r1,r2⟩ := hF
          refine bodyPost_ret (v := .tuple #[.agg #[.bool N.leaf, .slice ra N.recs.length rc, .slice ka N.kids.length kc], .bool true]) ?_ rfl ?_
          · simp [results,Tryz.results40,go_sem,g0,g1,g2]
          · exact ⟨hB,Or.inl ⟨HPK.out,_,_,by rw [HLF.out],by rw [HCN2.out,HRN.out]; exact r1,by rw [HKN2.out,HRN.out]; exact r2⟩⟩
        · have hne: (SP.toList == SL.toList) = false := by
           rw [beq_eq_false_iff_ne]
           intro h
           exact heq (HSE.out.2 (toList_inj h))
          go_wp2_with fail
          go_region_held (fun W => (W.cell? ⟨w.heap.size + 1,0,none⟩ = some (.bool N.leaf) /\ W.cell? ⟨w.heap.size + 1,1,none⟩ = some (.slice ra N.recs.length rc) /\ W.cell? ⟨w.heap.size + 1,2,none⟩ = some (.slice ka N.kids.length kc)) /\ (convert 81 9 (.slice (some ⟨b,0,none⟩) 1024 C)).run Tryz.prog W = .ok (.string SL) W) (exact HKS.out _ (by assumption)) (first
           | (go_at_call 60; with_reducible refine (PS.out _ tb0).mono ?_; rintro e wa ⟨rfl,Ba⟩; have tb1: Below wr.heap.size wr wa := below_on tb0 Ba; clear PS Ba)
           | (go_at_call 61; with_reducible refine (PZ.out _ tb1).mono ?_; rintro e wb ⟨rfl,Bb⟩; have tb2: Below wr.heap.size wr wb := below_on tb1 Bb; clear PZ Bb)
           | (go_at_call 62
              with_reducible refine (PG.out _ tb2).mono ?_
              rintro e wc ⟨v,rfl,Ov,Bc⟩
              have tb3: Below wr.heap.size wr wc := below_on tb2 Bc
              have hcv := conv_row Ov HPL.out (by decide)
              rw [<- hSP.out] at hcv
              clear PG Bc Ov))
          have HV6 := hidf (HBW.out _ tb3)
          clear HKS HBW hcv tb0 tb1 tb2 tb3
          have z0 := (node_cells HV6.out.z).1
          have z1 := (node_cells HV6.out.z).2.1
          have z2 := (node_cells HV6.out.z).2.2
          have zf: ∀ i,wc.frozen? ⟨w.heap.size,i,none⟩ = false := fun i => frozen_of_row _ _ _ _ _ HV6.out.z
          have xl: w.heap.size < wc.heap.size := (Array.getElem?_eq_some_iff.1 HV6.out.z).1
          have HN: Hid (¬ pageOk L) := fun h => heq (HPO.out.1 h).2.2
          go_wp2_with fail
          refine to_letter (HV6.out.fail (.bool false) (.slice none 0 0) (.slice none 0 0)) ?_
          clear z0 z1 z2 zf HV6 xl
          intro Wf hF
          obtain ⟨g0,g1,g2,hF⟩ := hF
          refine bodyPost_ret (v := .tuple #[.agg #[.bool false, .slice none 0 0, .slice none 0 0], .bool false]) ?_ rfl ?_
          · simp [results,Tryz.results40,go_sem,g0,g1,g2]
          · exact ⟨hF,Or.inr ⟨HN.out,rfl⟩⟩
 have h1: ¬ y0 = 1 := fun h => h12 (Or.inl h)
 have h2: ¬ y0 = 2 := fun h => h12 (Or.inr h)
 have h1': (y0 == 1) = false := by rw [beq_eq_false_iff_ne]; exact h1
 have h2': (y0 == 2) = false := by rw [beq_eq_false_iff_ne]; exact h2
 have i1: ((y0: Int) == 1) = false := by rw [beq_eq_false_iff_ne]; omega
 have i2: ((y0: Int) == 2) = false := by rw [beq_eq_false_iff_ne]; omega
 have k1: ((y0: Int) != 1) = true := by rw [bne_iff_ne]; omega
 have k2: ((y0: Int) != 2) = true := by rw [bne_iff_ne]; omega
 have j1: ¬ (y0: Int) = 1 := by omega
 have j2: ¬ (y0: Int) = 2 := by omega
 have HN: Hid (¬ pageOk L) := fun h => by
  have e := mark_of (rawN L).toNd
  rw [h.2.2.2,hy0] at e
  omega
 go_wp2_with fail
 refine to_letter (fresh_fail w) ?_
 intro Wf hF
 obtain ⟨g0,g1,g2,hF⟩ := hF
 refine bodyPost_ret (v := .tuple #[.agg #[.bool false, .slice none 0 0, .slice none 0 0], .bool false]) ?_ rfl ?_
 · simp [results,Tryz.results40,go_sem,g0,g1,g2]
 · exact ⟨hF,Or.inr ⟨HN.out,rfl⟩⟩
end Go.Proofs.YtdnkbdjhccckhaaGreat.L5
namespace Go.Proofs.YtdnkbdjhccckhaaGreat.Rw
open Go.RowKit
theorem to_letter {p F: World -> Prop} {W0: World} (h: F W0) (k: ∀ W,F W -> p W): p W0 := k W0 h
theorem heap_new (w: World) (o: Obj): (w.alloc o).heap[w.heap.size]? = some o := heap_alloc_new w o
theorem add_none (b o j: Nat): (⟨b,o,none⟩: Addr).add j = ⟨b,o + j,none⟩ := by unfold Addr.add; split <;> simp_all
theorem ret_bool {a b: Bool} (h: a = b): Ending.returned (.bool a) = .returned (.bool b) := by rw [h]
section
variable {α: Type} {f: α -> List Value} {k: Nat}
def flat (f: α -> List Value) (l: List α): List Value := l.flatMap f
theorem flat_cons (x: α) (l: List α): flat f (x :: l) = f x ++ flat f l := rfl
theorem flat_append (l m: List α): flat f (l ++ m) = flat f l ++ flat f m := by simp [flat]
theorem flat_length (hf: ∀ x,(f x).length = k) (l: List α): (flat f l).length = l.length * k := by
 induction l with
 | nil => simp [flat]
 | cons x l ih => rw [flat_cons,List.length_append,hf,ih,List.length_cons,Nat.add_mul,Nat.one_mul,Nat.add_comm]
theorem flat_at (hf: ∀ x,(f x).length = k): ∀ (l: List α) (j: Nat) (x: α),l[j]? = some x -> ∀ i u,(f x)[i]? = some u -> (flat f l)[j * k + i]? = some u
 | [],j,x,h => by simp at h
 | y :: l,0,x,h => by
  simp at h
  subst h
  intro i u hu
  rw [flat_cons,Nat.zero_mul,Nat.zero_add,List.getElem?_append_left (List.getElem?_eq_some_iff.1 hu).1,hu]
 | y :: l,j + 1,x,h => by
  intro i u hu
  rw [flat_cons,List.getElem?_append_right (by rw [hf,Nat.add_mul]; omega),hf,show (j + 1) * k + i - k = j * k + i by rw [Nat.add_mul]; omega]
  exact flat_at hf l j x (by simpa using h) i u hu
def SlG (f: α -> List Value) (k: Nat) (W: World) (a: Option Addr) (l: List α): Prop := l = [] \/ ∃ b o,a = some ⟨b,o,none⟩ /\ b < W.heap.size /\ ∀ j x,l[j]? = some x -> ∀ i u,(f x)[i]? = some u -> W.cell? ⟨b,o + j * k + i,none⟩ = some u
theorem SlG.turn {W W': World} {a: Option Addr} {l: List α} (h: SlG f k W a l) (hs: W.heap.size <= W'.heap.size) (hb: ∀ b o,a = some ⟨b,o,none⟩ -> b < W.heap.size -> W'.heap[b]? = W.heap[b]?): SlG f k W' a l := by
 rcases h with h | ⟨b,o,e,hlt,hc⟩
 · exact Or.inl h
 · refine Or.inr ⟨b,o,e,Nat.lt_of_lt_of_le hlt hs,fun j x hj i u hu => ?_⟩
   rw [World.cell?_of_block (w := W) (w' := W') (a := ⟨b,o + j * k + i,none⟩) (hb _ _ e hlt)]
   exact hc j x hj i u hu
theorem SlG.below {W W': World} {a: Option Addr} {l: List α} (h: SlG f k W a l) (hb: Below W.heap.size W W'): SlG f k W' a l := h.turn hb.size fun b _ _ hlt => hb.block b hlt
theorem SlG.at {W: World} {a: Option Addr} {l: List α} (h: SlG f k W a l) {j: Nat} (hj: j < l.length): ∃ b o x,a = some ⟨b,o,none⟩ /\ b < W.heap.size /\ l[j]? = some x /\ ∀ i u,(f x)[i]? = some u -> W.cell? ⟨b,o + j * k + i,none⟩ = some u := by
 rcases h with rfl | ⟨b,o,e,hlt,hc⟩
 · simp at hj
 · exact ⟨b,o,l[j],e,hlt,List.getElem?_eq_getElem hj,hc j _ (List.getElem?_eq_getElem hj)⟩
def Src (W: World) (a: Option Addr) (m c: Nat) (news: List Value): Prop := (a = none /\ m = 0 /\ c = 0 /\ news = []) \/ ∃ ad,a = some ad /\ ∀ j u,news[j]? = some u -> W.cell? (ad.add j) = some u
theorem owns_below {W W': World} {base: Nat} {e: TypeId} {size: Nat} {v: Value} {n: Nat} {xs: List Value} (h: W.ownsRow base e size v n xs) (hb: ∀ q,v.ownBlock = some q -> W'.heap[q]? = W.heap[q]?): W'.ownsRow base e size v n xs := by
 refine ⟨h.1, ?_⟩
 rcases h.2 with hn | ⟨g,cap,cur,rfl,hbg,hgg,rest⟩
 · exact .inl hn
 · exact .inr ⟨g,cap,cur,rfl,hbg,by rw [hb g rfl]; exact hgg,rest⟩
theorem owns_on {W W': World} {base: Nat} {e: TypeId} {size: Nat} {v: Value} {n: Nat} {xs: List Value} (h: W.ownsRow base e size v n xs) (hb: Below W.heap.size W W'): W'.ownsRow base e size v n xs := owns_below h fun q hq => hb.block q (h.lt q hq).2
theorem owns_slice {W: World} {base: Nat} {e: TypeId} {size: Nat} {v: Value} {n: Nat} {xs: List Value} (h: W.ownsRow base e size v n xs): ∃ a c,v = .slice a n c := by
 rcases h.2 with ⟨rfl,h0⟩ | ⟨g,cap,cur,rfl,_⟩
 · exact ⟨none,0,by rw [h0]⟩
 · exact ⟨_,_,rfl⟩
theorem owns_cap {W: World} {base e size: Nat} {a: Option Addr} {n c m: Nat} {xs: List Value} (h: W.ownsRow base e size (.slice a n c) m xs): n <= c /\ c <= maxLen := by
 rcases h.2 with ⟨e,_⟩ | ⟨g,cap,cur,e,_,_,hc,hm,_⟩
 · cases e; exact ⟨Nat.le_refl _,Nat.zero_le _⟩
 · cases e; exact ⟨hc,hm⟩
theorem owns_addr {W: World} {base e size: Nat} {a: Option Addr} {n c m: Nat} {xs: List Value} (h: W.ownsRow base e size (.slice a n c) m xs): (a = none /\ n = 0 /\ c = 0) \/ ∃ g,a = some ⟨g,0,none⟩ := by
 rcases h.2 with ⟨e,_⟩ | ⟨g,cap,cur,e,_⟩
 · cases e; exact Or.inl ⟨rfl,rfl,rfl⟩
 · cases e; exact Or.inr ⟨g,rfl⟩
theorem owns_block {W: World} {base e size: Nat} {v: Value} {n: Nat} {xs: List Value} (h: W.ownsRow base e size v n xs) {q: Nat} (hq: v.ownBlock = some q): ∃ cur,W.heap[q]? = some (.cells cur e (0,0)) := by
 rcases h.2 with ⟨rfl,_⟩ | ⟨g,cap,cur,rfl,_,hg,_⟩
 · cases hq
 · cases hq; exact ⟨cur,hg⟩
theorem owns_ne {W: World} {b1 b2 e1 e2 s1 s2: Nat} {v1 v2: Value} {n1 n2: Nat} {xs ys: List Value} (h1: W.ownsRow b1 e1 s1 v1 n1 xs) (h2: W.ownsRow b2 e2 s2 v2 n2 ys) (hne: e1 ≠ e2) {q: Nat} (g1: v1.ownBlock = some q) (g2: v2.ownBlock = some q): False := by
 obtain ⟨c1,k1⟩ := owns_block h1 g1
 obtain ⟨c2,k2⟩ := owns_block h2 g2
 rw [k1] at k2
 cases k2
 exact hne rfl
theorem owns_far {W: World} {b1 e1 s1: Nat} {v1: Value} {n1: Nat} {xs: List Value} (h1: W.ownsRow b1 e1 s1 v1 n1 xs) {g e2: Nat} {cur: Array Value} {m: Nat × Nat} (hg: W.heap[g]? = some (Obj.cells cur e2 m)) (hne: e1 ≠ e2): v1.ownBlock ≠ some g := fun h => by
 obtain ⟨c1,k1⟩ := owns_block h1 h
 rw [k1] at hg
 cases hg
 exact hne rfl
theorem owns_slg (hf: ∀ x,(f x).length = k) (hk: 0 < k) {W: World} {base e: Nat} {a: Option Addr} {n c: Nat} {l: List α} (h: W.ownsRow base e k (.slice a n c) n (flat f l)): l.length = n /\ SlG f k W a l /\ (a = none -> c = 0) := by
 have hl: l.length = n := by have := h.1; rw [flat_length hf] at this; exact Nat.eq_of_mul_eq_mul_right hk this
 refine ⟨hl, ?_, ?_⟩
 · rcases h.2 with ⟨e,h0⟩ | ⟨g,cap,cur,e,hg,hb,_⟩
   · exact Or.inl (List.length_eq_zero_iff.1 (by omega))
   · cases e
     refine Or.inr ⟨g,0,rfl,(Array.getElem?_eq_some_iff.1 hb).1,fun j x hj i u hu => ?_⟩
     have := World.ownsRow.cells h (g := g) rfl _ u (flat_at hf l j x hj i u hu)
     rw [add_none] at this
     rwa [Nat.add_assoc]
 · rintro rfl
   rcases h.2 with ⟨e,h0⟩ | ⟨g,cap,cur,e,_⟩
   · injection e
   · injection e with e; cases e
theorem owns_src {W: World} {base e size: Nat} {a: Option Addr} {n c: Nat} {xs: List Value} (h: W.ownsRow base e size (.slice a n c) n xs): Src W a n c xs := by
 rcases h.2 with ⟨e,h0⟩ | ⟨g,cap,cur,e,_⟩
 · cases e
   have := h.1
   rw [h0,Nat.zero_mul] at this
   exact Or.inl ⟨rfl,rfl,rfl,List.length_eq_zero_iff.1 this⟩
 · cases e
   exact Or.inr ⟨_,rfl,fun j u hu => World.ownsRow.cells h (g := g) rfl j u hu⟩
theorem own_new {W: World} {base e q size: Nat} (hq: W.heap[q]? = some (.cells #[] e (0,0))) (hw: base <= q): W.ownsRow base e size (.slice (some ⟨q,0,none⟩) 0 0) 0 [] :=
 ⟨by simp,Or.inr ⟨q,0, #[],rfl,hw,hq,Nat.le_refl _,by unfold maxLen; omega,by simp,by simp⟩⟩
end
theorem src_new (W: World) (vs: List Value) (T: TypeId) (m c: Nat) {q: Nat} (hq: q = W.heap.size): Src (W.alloc (.cells vs.toArray T)) (some ⟨q,0,none⟩) m c vs := by
 subst hq
 refine Or.inr ⟨_,rfl,fun j u hu => ?_⟩
 rw [add_none,Nat.zero_add,cell_of_row _ _ _ _ _ _ (heap_new W (.cells vs.toArray T))]
 simpa using hu
theorem append_src {P: Program} {ops: Array Oper} {rest: List Oper} {o: Oper} {a: Act} {Q: Exit -> Act -> World -> Prop} {W1: World} {t e: TypeId} {z: Value} {size bytes: Nat} (ht: P.underlying t = some (.slice e)) (hinfo: (P.info? e).map (fun i => (i.zero,i.size,i.bytes)) = some (some z,size,bytes)) (hzs: z.cells.size = size) (hsz: 0 < size) (hby: bytes <= 1000)
 (hgd: o.guard = none) (s x: Operand) (ho: o.op = .call { callee := .builtin .append,args := #[s,x],argTypes := #[t,t] })
 (base: Nat) (hbase: base <= W1.heap.size) (v: Value) (n: Nat) (xs: List Value) (hs: a.eval s = v) (h: W1.ownsRow base e size v n xs) (b: Option Addr) (m cap: Nat) (news: List Value) (hx: a.eval x = .slice b m cap) (hm: Src W1 b m cap news)
 (hl: news.length = m * size) (h1: ∀ u ∈ news,u.oneCell' = true) (hn: n + m <= 1000000)
 (hK: ∀ v' W',W'.ownsRow base e size v' (n + m) (xs ++ news) -> W1.grownBy W' v.ownBlock -> (v'.ownBlock = v.ownBlock \/ v'.ownBlock = some W1.heap.size) -> wpList P ops Q rest (a.put o.dst v') W'): wpList P ops Q (o :: rest) a W1 := by
 obtain ⟨i,hi,hz⟩ := Option.map_eq_some_iff.1 hinfo
 simp only [Prod.mk.injEq] at hz
 obtain ⟨h3,h4,h5⟩ := hz
 rcases hm with ⟨rfl,rfl,rfl,rfl⟩ | ⟨ad,rfl,hc⟩
 · exact wpList_append_own_none hgd s x t ho base e i size ht hi v n xs hs h hx (hK v W1 (by rw [List.append_nil]; exact h) ⟨rfl,rfl,rfl,Nat.le_refl _,fun _ _ _ => rfl⟩ (Or.inl rfl))
 · refine wpList_append_own_at (P := P) W1 hgd s x t ho base e i z size bytes ht hi h3 h4 h5 hzs hsz v n xs hs h ad m cap news hx hl hc h1 (by unfold maxLen; omega) ?_ hbase fun v' W' g1 g2 _ g4 => hK v' W' g1 g2 g4
   exact Nat.le_trans (Nat.mul_le_mul hn hby) (by omega)
theorem step_appS {ops: Array Oper} {o: Oper} {a: Act} {K: Act -> World -> Prop} {Q: Exit -> Act -> World -> Prop} {E: Prop} {W1: World} {t e: TypeId} {z: Value} {size bytes: Nat} (ht: Tryz.prog.underlying t = some (.slice e)) (hinfo: (Tryz.prog.info? e).map (fun i => (i.zero,i.size,i.bytes)) = some (some z,size,bytes)) (hzs: z.cells.size = size) (hsz: 0 < size) (hby: bytes <= 1000)
 (hgd: o.guard = none) (s x: Operand) (ho: o.op = .call { callee := .builtin .append,args := #[s,x],argTypes := #[t,t] })
 (base: Nat) (hbase: base <= W1.heap.size) (v: Value) (n: Nat) (xs: List Value) (hs: a.eval s = v) (h: W1.ownsRow base e size v n xs) (b: Option Addr) (m cap: Nat) (news: List Value) (hx: a.eval x = .slice b m cap) (hm: Src W1 b m cap news)
 (hl: news.length = m * size) (h1: ∀ u ∈ news,u.oneCell' = true) (hn: n + m <= 1000000)
 (hK: ∀ v' W',W'.ownsRow base e size v' (n + m) (xs ++ news) -> W1.grownBy W' v.ownBlock -> K (a.put o.dst v') W') :
 if Region.wanted o (yielded ops a.tmps) = true then Oper.wp Tryz.prog o a W1 K Q else E := by
 have hw: Region.wanted o (yielded ops a.tmps) = true := by simp [Region.wanted,hgd]
 rw [if_pos hw]
 obtain ⟨i,hi,hz⟩ := Option.map_eq_some_iff.1 hinfo
 simp only [Prod.mk.injEq] at hz
 obtain ⟨h3,h4,h5⟩ := hz
 rcases hm with ⟨rfl,rfl,rfl,rfl⟩ | ⟨ad,rfl,hc⟩
 · have hrun := run_append_owned_none (P := Tryz.prog) (w := W1) base t o.type e i size ht hi v n xs h
   unfold Oper.wp
   simp [execOp,ho,resolve,invoke,builtin,hs,hx,hrun,Result.andThen]
   exact hK v W1 (by simpa using h) ⟨rfl,rfl,rfl,Nat.le_refl _,fun _ _ _ => rfl⟩
 · exact wp_append_own (P := Tryz.prog) W1 s x t ho base e i z size bytes ht hi h3 h4 h5 hzs hsz v n xs hs h ad m cap news hx hl hc h1 (by unfold maxLen; omega) (Nat.le_trans (Nat.mul_le_mul hn hby) (by omega)) hbase fun v' W' hown hg _ => hK v' W' hown hg
end Go.Proofs.YtdnkbdjhccckhaaGreat.Rw
namespace Go.Proofs.YtdnkbdjhccckhaaGreat
open Go.RowKit
open L4 (Ar ArP Abs arV nv)
open L5 (ltP ltB leB)
def pgC (x: Nat × List UInt8): List Value := [.int .i64 (x.1: Int), .string ⟨x.2.toArray⟩]
structure PgOf (a: Abs) (l: List (Nat × List UInt8)): Prop where
 at_: ∀ x ∈ l,a.at (x.1: Int) = some x.2
 all: ∀ (p: Nat) (c: List UInt8),a.at (p: Int) = some c -> ∃ x ∈ l,x.1 = p
def ShpR (w: World) (h: Nat) (es: List ByteArray) (ps: List Nat) (e: Ending) (W: World): Prop :=
 ∃ a c pa pc,e = .returned (.tuple #[.slice a es.length c, .int .i64 (h: Int), .slice pa ps.length pc, .bool true]) /\ W.ownsRow w.heap.size 9 1 (.slice a es.length c) es.length (L5.svs es) /\ L4.IS w.heap.size W (.slice pa ps.length pc) ps /\ Below w.heap.size w W
def lastAt (l: List (Nat × List UInt8)) (id j: Nat) (at_: Int): Prop := (at_ = -1 /\ ∀ i x,i < j -> l[i]? = some x -> x.1 ≠ id) \/ ∃ k: Nat,at_ = (k: Int) /\ k < j /\ ∃ x,l[k]? = some x /\ x.1 = id
theorem lastAt.get {a: Abs} {l: List (Nat × List UInt8)} {id: Nat} {at_: Int} {c: List UInt8} (h: lastAt l id l.length at_) (hp: PgOf a l) (hc: a.at (id: Int) = some c): ∃ k: Nat,at_ = (k: Int) /\ l[k]? = some (id,c) := by
 rcases h with ⟨_,h⟩ | ⟨k,e,_,x,hx,rfl⟩
 · obtain ⟨x,hx,e⟩ := hp.all id c hc
   obtain ⟨i,hi⟩ := List.mem_iff_getElem?.1 hx
   exact absurd e (h i x (List.getElem?_eq_some_iff.1 hi).1 hi)
 · refine ⟨k,e, ?_⟩
   have := hp.at_ x (List.mem_of_getElem? hx)
   rw [hc] at this
   rw [hx,Option.some.inj this]
structure Nb (w: World) (q: Nat) (n: L5.No) (ra: Option Addr) (rc: Nat) (ka: Option Addr) (kc: Nat) (W: World): Prop where
 bel: Below w.heap.size w W
 ge: w.heap.size <= q
 blk: W.heap[q]? = some (.cells #[.bool n.leaf, .slice ra n.recs.length rc, .slice ka n.kids.length kc] 91 (0,0))
 recs: W.ownsRow w.heap.size 9 1 (.slice ra n.recs.length rc) n.recs.length (L5.svs n.recs)
 kids: W.ownsRow w.heap.size 3 1 (.slice ka n.kids.length kc) n.kids.length (L5.ivs n.kids)
section
variable {w W W': World} {q: Nat} {n: L5.No} {ra ka: Option Addr} {rc kc: Nat}
theorem Nb.on (k: Nb w q n ra rc ka kc W) (hb: Below W.heap.size W W'): Nb w q n ra rc ka kc W' := ⟨tbelow_on k.bel hb,k.ge,(hb.block _ (Array.getElem?_eq_some_iff.1 k.blk).1).trans k.blk,L5.owns_below k.recs hb,L5.owns_below k.kids hb⟩
theorem Nb.cells (k: Nb w q n ra rc ka kc W): W.cell? ⟨q,0,none⟩ = some (.bool n.leaf) /\ W.cell? ⟨q,1,none⟩ = some (.slice ra n.recs.length rc) /\ W.cell? ⟨q,2,none⟩ = some (.slice ka n.kids.length kc) /\ q < W.heap.size := by
 refine ⟨?_, ?_, ?_,(Array.getElem?_eq_some_iff.1 k.blk).1⟩
 all_goals rw [cell_of_row _ _ _ _ _ _ k.blk]; rfl
theorem Nb.new (hb: Below w.heap.size w W) (o1: W.ownsRow w.heap.size 9 1 (.slice ra n.recs.length rc) n.recs.length (L5.svs n.recs)) (o2: W.ownsRow w.heap.size 3 1 (.slice ka n.kids.length kc) n.kids.length (L5.ivs n.kids)): Nb w W.heap.size n ra rc ka kc (W.alloc (.cells #[.bool n.leaf, .slice ra n.recs.length rc, .slice ka n.kids.length kc] 91)) :=
 ⟨tbelow_on hb (tbelow _ _),hb.size,heap_alloc_new _ _,L5.owns_below o1 (tbelow _ _),L5.owns_below o2 (tbelow _ _)⟩
end
theorem own_one (w: World) (B: Nat) (hB: B <= w.heap.size) (x: Nat): L4.IS B (w.alloc (.cells #[.int .i64 (x: Int)] 3)) (.slice (some ⟨w.heap.size,0,none⟩) 1 1) [x] :=
 ⟨rfl,Or.inr ⟨w.heap.size,1,_,rfl,hB,heap_alloc_new _ _,Nat.le_refl _,by unfold maxLen; omega,rfl,rfl⟩⟩
def Rest (P: Nat -> ByteArray -> ByteArray -> List ByteArray -> List Nat -> Prop) (hi lo: ByteArray) (recs: List ByteArray) (kids: List Int) (es: List ByteArray) (ps: List Nat) (j: Nat) (esd: List ByteArray) (psd: List Nat): Prop :=
 (∃ esr psr lo',Subs P hi lo' (recs.drop j) (kids.drop j) esr psr /\ es = esd ++ esr /\ ps = psd ++ psr /\ ((j = 0 /\ lo' = lo) \/ (1 <= j /\ recs[j - 1]? = some lo'))) \/ (kids.length <= j /\ es = esd /\ ps = psd)
theorem Rest.start {P: Nat -> ByteArray -> ByteArray -> List ByteArray -> List Nat -> Prop} {hi lo: ByteArray} {recs: List ByteArray} {kids: List Int} {es: List ByteArray} {ps: List Nat} (h: Subs P hi lo recs kids es ps): Rest P hi lo recs kids es ps 0 [] [] := Or.inl ⟨es,ps,lo,h,rfl,rfl,Or.inl ⟨rfl,rfl⟩⟩
theorem Rest.done {P: Nat -> ByteArray -> ByteArray -> List ByteArray -> List Nat -> Prop} {hi lo: ByteArray} {recs: List ByteArray} {kids: List Int} {es esd: List ByteArray} {ps psd: List Nat} {j: Nat} (h: Rest P hi lo recs kids es ps j esd psd) (hj: kids.length <= j): es = esd /\ ps = psd := by
 rcases h with ⟨esr,psr,lo',h,_⟩ | h
 · rw [List.drop_of_length_le hj] at h
   generalize recs.drop j = rs0 at h
   cases h
 · exact h.2
theorem Rest.step {P: Nat -> ByteArray -> ByteArray -> List ByteArray -> List Nat -> Prop} {hi lo: ByteArray} {recs: List ByteArray} {kids: List Int} {es esd: List ByteArray} {ps psd: List Nat} {j: Nat} (h: Rest P hi lo recs kids es ps j esd psd) (hj: j < kids.length): ∃ (c: Nat) (lo1 hi1: ByteArray) (es1: List ByteArray) (ps1: List Nat),kids[j]? = some (c: Int) /\ P c lo1 hi1 es1 ps1 /\ ((j = 0 /\ lo1 = lo) \/ (1 <= j /\ recs[j - 1]? = some lo1)) /\ ((recs.length <= j /\ hi1 = hi) \/ recs[j]? = some hi1) /\ Rest P hi lo recs kids es ps (j + 1) (esd ++ es1) (psd ++ ps1) /\ es1.length <= es.length /\ ps1.length <= ps.length := by
 rcases h with ⟨esr,psr,lo',h,e1,e2,e3⟩ | h
 · generalize hr: recs.drop j = rs0 at h
   generalize hk: kids.drop j = ks0 at h
   cases h with
   | one hP =>
    have hk0: kids[j]? = (kids.drop j).head? := List.head?_drop.symm
    rw [hk] at hk0
    have hr0 := congrArg List.length hr
    have hk1 := congrArg List.length hk
    simp at hr0 hk1
    exact ⟨_,_,_,_,_,hk0,hP,e3,Or.inl ⟨by omega,rfl⟩,Or.inr ⟨by omega,e1,e2⟩,by rw [e1]; simp,by rw [e2]; simp⟩
   | more hP t =>
    have hk0: kids[j]? = (kids.drop j).head? := List.head?_drop.symm
    rw [hk] at hk0
    have hr0: recs[j]? = (recs.drop j).head? := List.head?_drop.symm
    rw [hr] at hr0
    have hr1: recs.drop (j + 1) = (recs.drop j).tail := List.tail_drop.symm
    rw [hr] at hr1
    have hk1: kids.drop (j + 1) = (kids.drop j).tail := List.tail_drop.symm
    rw [hk] at hk1
    simp only [List.tail_cons,List.head?_cons] at hr1 hk1 hr0 hk0
    refine ⟨_,_,_,_,_,hk0,hP,e3,Or.inr hr0,Or.inl ⟨_,_,_,by rw [hr1,hk1]; exact t,by rw [e1]; simp,by rw [e2]; simp,Or.inr ⟨by omega,hr0⟩⟩,by rw [e1]; simp; omega,by rw [e2]; simp; omega⟩
 · omega
theorem Rest.len {P: Nat -> ByteArray -> ByteArray -> List ByteArray -> List Nat -> Prop} {hi lo: ByteArray} {recs: List ByteArray} {kids: List Int} {es esd es1: List ByteArray} {ps psd ps1: List Nat} {j: Nat} (h: Rest P hi lo recs kids es ps j (esd ++ es1) (psd ++ ps1)) (h1: es.length <= 1000) (h2: ps.length <= 5000): esd.length + es1.length <= 1000 /\ psd.length + ps1.length <= 5000 := by
 rcases h with ⟨esr,psr,lo',_,e1,e2,_⟩ | ⟨_,e1,e2⟩
 · rw [e1] at h1
   rw [e2] at h2
   simp only [List.length_append] at h1 h2
   omega
 · rw [e1] at h1
   rw [e2] at h2
   simp only [List.length_append] at h1 h2
   omega
structure Acc (w: World) (q: Nat) (n: L5.No) (ra: Option Addr) (rc: Nat) (ka: Option Addr) (kc: Nat) (av: Value) (esd: List ByteArray) (pv: Value) (psd: List Nat) (W: World): Prop where
 nb: Nb w q n ra rc ka kc W
 al: W.ownsRow w.heap.size 9 1 av esd.length (L5.svs esd)
 pg: L4.IS w.heap.size W pv psd
 d1: ∀ g,av.ownBlock = some g -> (Value.slice ra n.recs.length rc).ownBlock ≠ some g
 d2: ∀ g,pv.ownBlock = some g -> (Value.slice ka n.kids.length kc).ownBlock ≠ some g
theorem Acc.on {w W W': World} {q: Nat} {n: L5.No} {ra ka: Option Addr} {rc kc: Nat} {av pv: Value} {esd: List ByteArray} {psd: List Nat} (k: Acc w q n ra rc ka kc av esd pv psd W) (hb: Below W.heap.size W W'): Acc w q n ra rc ka kc av esd pv psd W' := ⟨k.nb.on hb,L5.owns_below k.al hb,L5.owns_below k.pg hb,k.d1,k.d2⟩
theorem Acc.new {w W: World} {q id: Nat} {n: L5.No} {ra ka: Option Addr} {rc kc: Nat} (k: Nb w q n ra rc ka kc W): Acc w q n ra rc ka kc (.slice (some ⟨W.heap.size,0,none⟩) 0 0) [] (.slice (some ⟨W.heap.size + 1,0,none⟩) 1 1) [id] ((W.alloc (.cells #[] 9)).alloc (.cells #[.int .i64 (id: Int)] 3)) := by
 have B1 := tbelow W (.cells #[] 9)
 have B2 := tbelow (W.alloc (.cells #[] 9)) (.cells #[.int .i64 (id: Int)] 3)
 have hs: (W.alloc (.cells #[] 9)).heap.size = W.heap.size + 1 := by simp
 have hw := k.bel.size
 refine ⟨(k.on B1).on B2,L5.owns_below (Rw.own_new (heap_alloc_new _ _) hw) B2, ?_,fun g hg e => ?_,fun g hg e => ?_⟩
 · have := own_one (W.alloc (.cells #[] 9)) w.heap.size (by omega) id
   rw [hs] at this
   exact this
 · have := (k.recs.lt g e).2
   simp [Value.ownBlock] at hg
   omega
 · have := (k.kids.lt g e).2
   simp [Value.ownBlock] at hg
   omega
theorem svs_oneC (l: List ByteArray): ∀ u ∈ L5.svs l,u.oneCell' = true := fun u hu => by
 obtain ⟨x,_,rfl⟩ := List.mem_map.1 hu
 rfl
theorem nv_oneC (l: List Nat): ∀ u ∈ l.map nv,u.oneCell' = true := fun u hu => by
 obtain ⟨x,_,rfl⟩ := List.mem_map.1 hu
 rfl
theorem Acc.grow1 {w W W': World} {q: Nat} {n: L5.No} {ra ka: Option Addr} {rc kc: Nat} {av pv v': Value} {esd es1: List ByteArray} {psd: List Nat} (k: Acc w q n ra rc ka kc av esd pv psd W) (hg: W.grownBy W' av.ownBlock) (ho: W'.ownsRow w.heap.size 9 1 v' (esd.length + es1.length) (L5.svs esd ++ L5.svs es1)) (hat: v'.ownBlock = av.ownBlock \/ v'.ownBlock = some W.heap.size): Acc w q n ra rc ka kc v' (esd ++ es1) pv psd W' := by
 have oth: ∀ g,g < W.heap.size -> av.ownBlock ≠ some g -> W'.heap[g]? = W.heap[g]? := fun g h1 h2 => hg.block g h1 fun e => h2 e.symm
 refine ⟨⟨⟨hg.os.trans k.nb.bel.os,hg.tape.trans k.nb.bel.tape,hg.output.trans k.nb.bel.output,Nat.le_trans k.nb.bel.size hg.size,fun g hgl => ?_⟩,k.nb.ge, ?_, ?_, ?_⟩, ?_, ?_,fun g h1 h2 => ?_,k.d2⟩
 · rw [oth g (Nat.lt_of_lt_of_le hgl k.nb.bel.size) fun e => by have := (k.al.lt g e).1; omega]
   exact k.nb.bel.block g hgl
 · rw [oth q k.nb.cells.2.2.2 (Rw.owns_far k.al k.nb.blk (by decide))]
   exact k.nb.blk
 · exact L5.owns_of_block k.nb.recs fun g hgr => oth g (k.nb.recs.lt g hgr).2 fun e => k.d1 g e hgr
 · exact L5.owns_of_block k.nb.kids fun g hgr => oth g (k.nb.kids.lt g hgr).2 fun e => Rw.owns_ne k.al k.nb.kids (by decide) e hgr
 · have: L5.svs (esd ++ es1) = L5.svs esd ++ L5.svs es1 := by simp [L5.svs]
   rw [this,List.length_append]
   exact ho
 · exact L5.owns_of_block k.pg fun g hgr => oth g (k.pg.lt g hgr).2 fun e => Rw.owns_ne k.al k.pg (by decide) e hgr
 · rcases hat with e | e
   · rw [e] at h1
     exact k.d1 g h1 h2
   · rw [e] at h1
     have := (k.nb.recs.lt g h2).2
     have := Option.some.inj h1
     omega
theorem Acc.grow2 {w W W': World} {q: Nat} {n: L5.No} {ra ka: Option Addr} {rc kc: Nat} {av pv v': Value} {esd: List ByteArray} {psd ps1: List Nat} (k: Acc w q n ra rc ka kc av esd pv psd W) (hg: W.grownBy W' pv.ownBlock) (ho: W'.ownsRow w.heap.size 3 1 v' (psd.length + ps1.length) (psd.map nv ++ ps1.map nv)) (hat: v'.ownBlock = pv.ownBlock \/ v'.ownBlock = some W.heap.size): Acc w q n ra rc ka kc av esd v' (psd ++ ps1) W' := by
 have oth: ∀ g,g < W.heap.size -> pv.ownBlock ≠ some g -> W'.heap[g]? = W.heap[g]? := fun g h1 h2 => hg.block g h1 fun e => h2 e.symm
 refine ⟨⟨⟨hg.os.trans k.nb.bel.os,hg.tape.trans k.nb.bel.tape,hg.output.trans k.nb.bel.output,Nat.le_trans k.nb.bel.size hg.size,fun g hgl => ?_⟩,k.nb.ge, ?_, ?_, ?_⟩, ?_, ?_,k.d1,fun g h1 h2 => ?_⟩
 · rw [oth g (Nat.lt_of_lt_of_le hgl k.nb.bel.size) fun e => by have := (k.pg.lt g e).1; omega]
   exact k.nb.bel.block g hgl
 · rw [oth q k.nb.cells.2.2.2 (Rw.owns_far k.pg k.nb.blk (by decide))]
   exact k.nb.blk
 · exact L5.owns_of_block k.nb.recs fun g hgr => oth g (k.nb.recs.lt g hgr).2 fun e => Rw.owns_ne k.pg k.nb.recs (by decide) e hgr
 · exact L5.owns_of_block k.nb.kids fun g hgr => oth g (k.nb.kids.lt g hgr).2 fun e => k.d2 g e hgr
 · exact L5.owns_of_block k.al fun g hgr => oth g (k.al.lt g hgr).2 fun e => Rw.owns_ne k.pg k.al (by decide) e hgr
 · unfold L4.IS
   rw [List.map_append,List.length_append]
   exact ho
 · rcases hat with e | e
   · rw [e] at h1
     exact k.d2 g h1 h2
   · rw [e] at h1
     have := (k.nb.kids.lt g h2).2
     have := Option.some.inj h1
     omega
theorem shape_step {a: Abs} {l: List (Nat × List UInt8)} {ad: Option Addr} {lc id d h: Nat} {lo hi: ByteArray} {n: L5.No} {es: List ByteArray} {ps: List Nat} {w: World} (hS: Rw.SlG pgC 2 w ad l) (hP: PgOf a l) (hll: l.length <= 5000) (hN: Holds a id n) (hd2: d <= 30) (hB: Body (Sub a h) h n lo hi es ps) (hes: es.length <= 1000) (hps: ps.length <= 5000) (hht: h <= 5000)
 (IH: ∀ (c: Nat) (lo hi: ByteArray) (es: List ByteArray) (ps: List Nat) (W: World),Sub a h c lo hi es ps -> es.length <= 1000 -> ps.length <= 5000 -> Rw.SlG pgC 2 W ad l -> Calls Tryz.prog 34 #[.slice ad l.length lc, .int .i64 (c: Int), .string lo, .string hi, .int .i64 (d: Int)] W fun e W' => ShpR W h es ps e W') :
 Calls Tryz.prog 34 #[.slice ad l.length lc, .int .i64 (id: Int), .string lo, .string hi, .int .i64 ((d + 1: Nat): Int)] w fun e W => ShpR w (h + 1) es (id :: ps) e W := by
 have HS := thid hS
 have HP := thid hP
 have HN := thid hN
 have HB := thid hB
 have HI := thid IH
 have HHT: Hid (h <= 5000) := hht
 clear hS hP hN hB IH hht
 go_enter Tryz.func34,Tryz.ntmps34
 go_wp2_with fail
 go_loopw [14,15] (fun at_ i wr => ∃ (j: Nat) (k: Int),j <= l.length /\ i = .int .i64 (j: Int) /\ at_ = .int .i64 k /\ Hid (lastAt l id j k) /\ Hid (Below w.heap.size w wr)) (fun _ i _ => l.length - (intOf i).toNat)
 case atStart => exact ⟨0, -1,Nat.zero_le _,rfl,rfl,Or.inl ⟨rfl,fun i x hi => by omega⟩,Below.refl _ _⟩
 case round =>
  obtain ⟨j,k,hj,rfl,rfl,HL,HR⟩ := hrel
  by_cases hlt: j < l.length
  · have hlt': (j: Int) < (l.length: Int) := by omega
    obtain ⟨b,o,x,rfl,hbl,hx,hc⟩ := (HS.out.below HR.out).at hlt
    have c0: wr.cell? ⟨b,o + j * 2,none⟩ = some (.int .i64 (x.1: Int)) := hc 0 _ rfl
    have HX := thid hx
    clear hc hx HI
    by_cases he: x.1 = id
    · have he': ((x.1: Int) == (id: Int)) = true := by simp [he]
      have HL2: Hid (lastAt l id (j + 1) (j: Int)) := Or.inr ⟨j,rfl,by omega,x,HX.out,he⟩
      clear HL
      go_wp2
      go_roundw
      case rel => exact ⟨j + 1,j,hlt,by go_num,rfl,HL2,HR⟩
      case measure => simp [intOf]; omega
    · have he': ((x.1: Int) == (id: Int)) = false := by rw [beq_eq_false_iff_ne]; omega
      have HL2: Hid (lastAt l id (j + 1) k) := by
       rcases HL.out with ⟨e1,e2⟩ | ⟨m,e1,e2,e3⟩
       · refine Or.inl ⟨e1,fun i y hi hy => ?_⟩
         by_cases e: i = j
         · subst e
           have := HX.out
           rw [hy] at this
           rw [Option.some.inj this]; exact he
         · exact e2 i y (by omega) hy
       · exact Or.inr ⟨m,e1,by omega,e3⟩
      clear HL
      go_wp2
      go_roundw
      case rel => exact ⟨j + 1,k,hlt,by go_num,rfl,HL2,HR⟩
      case measure => simp [intOf]; omega
  · have hlt': ¬ (j: Int) < (l.length: Int) := by omega
    have hjl: j = l.length := by omega
    subst hjl
    obtain ⟨k,rfl,hk⟩ := HL.out.get HP.out HN.out.page
    have hkl: k < l.length := (List.getElem?_eq_some_iff.1 hk).1
    obtain ⟨b,o,x,rfl,hbl,hx,hc⟩ := (HS.out.below HR.out).at hkl
    rw [hk] at hx
    obtain rfl := Option.some.inj hx
    have c1: wr.cell? ⟨b,o + k * 2 + 1,none⟩ = some (.string ⟨(L5.pageL n.toNd).toArray⟩) := hc 1 _ rfl
    clear hc hx HL hk
    have hk0: ¬ (k: Int) < 0 := by omega
    have hd0: (((d + 1: Nat): Int) == 0) = false := by rw [beq_eq_false_iff_ne]; omega
    have hkl': (k: Int) < (l.length: Int) := by omega
    have hz := HN.out.size
    have HLN := thid (page_len hz)
    go_wp2_with fail
    rw [Lib.run_convert_string_bytes (P := Tryz.prog) wr 9 81 5 _ Tryz.underlying9 Tryz.underlying81 Tryz.underlying5]
    have HCV := thid (L5.cv_of_conv wr 5 ⟨(L5.pageL n.toNd).toArray⟩)
    have HBC := thid (L5.below_conv wr 5 ⟨(L5.pageL n.toNd).toArray⟩)
    have hcap: grownCap wr (ByteArray.mk (L5.pageL n.toNd).toArray).size 0 5 <= 9223372036854775807 := grownCap_le_maxLen _ _ _ _ (by show (L5.pageL n.toNd).toArray.size <= _; simp only [List.size_toArray]; rw [HLN.out]; decide)
    have hsz: (ByteArray.mk (L5.pageL n.toNd).toArray).size = 1024 := by show (L5.pageL n.toNd).toArray.size = _; simp only [List.size_toArray]; exact HLN.out
    rw [hsz] at HCV hcap ⊢
    generalize Lib.bytesWorld wr 5 ⟨(L5.pageL n.toNd).toArray⟩ = w1 at HCV HBC ⊢
    generalize grownCap wr 1024 0 5 = cp at HCV hcap ⊢
    have HG: Hid (L5.RBg w1 wr.heap.size (L5.pageL n.toNd)) := ⟨HCV.out.lt,fun i hi => HCV.out.cells i _ (by simp [L5.bcs,hi])⟩
    have hcl: 1024 <= cp := by have := HCV.out.le; rw [<- HLN.out]; simpa using this
    have HB1 := thid (tbelow_on HR.out HBC.out)
    obtain ⟨hpo,hraw⟩ := L5.raw_page HN.out.shaped hz
    clear hbl c1 HR HCV HBC
    have HRD := thid (L5.readg_walk HG.out HLN.out hcl hcap)
    go_wp2_with fail
    refine HRD.out.mono ?_
    rintro e w2 ⟨b2,⟨_,r,kk,rfl,o1,o2⟩ | ⟨hn,_⟩⟩
    · have el: L5.leafB (L5.pageL n.toNd) = n.leaf := congrArg L5.No.leaf hraw
      rw [hraw] at o1 o2
      have n1: L5.cntL (L5.pageL n.toNd) = n.recs.length := by have := o1.1; simp [L5.svs] at this; omega
      have n2: L5.kidN (L5.pageL n.toNd) = n.kids.length := by have := o2.1; simp [L5.ivs] at this; omega
      rw [n1] at o1
      rw [n2] at o2
      rw [el]
      obtain ⟨ra,rc,rfl⟩ := Rw.owns_slice o1
      obtain ⟨ka,kc,rfl⟩ := Rw.owns_slice o2
      have HO1 := thid (L5.owns_base o1 HB1.out.size)
      have HO2 := thid (L5.owns_base o2 HB1.out.size)
      have HB2 := thid (tbelow_on HB1.out b2)
      have HSM := thid HN.out.small
      clear o1 o2 b2 HRD HG HB1 hpo hraw HLN el n1 n2 hcap hcl hsz hk0 hkl' hkl
      have HNB := thid (Nb.new HB2.out HO1.out HO2.out)
      clear HO1 HO2 HB2
      go_wp2_with fail
      generalize w2.alloc (.cells #[.bool n.leaf, .slice ra n.recs.length rc, .slice ka n.kids.length kc] 91) = w3 at *
      generalize w2.heap.size = q at *
      go_loopw [18] (fun i wx => ∃ j: Nat,j <= n.recs.length /\ i = .int .i64 (j: Int) /\ wx = w3) (fun i _ => n.recs.length - (intOf i).toNat)
      case atStart => exact ⟨0,Nat.zero_le _,rfl,rfl⟩
      case round =>
       obtain ⟨j,hj,rfl,rfl⟩ := hrel
       obtain ⟨d0,d1,d2,dl⟩ := HNB.out.cells
       have hrl := HSM.out.1
       by_cases hlt: j < n.recs.length
       · have hlt': (j: Int) < (n.recs.length: Int) := by omega
         obtain ⟨x1,o1,rfl,l1,c1⟩ := (L5.owns_rd_slice HNB.out.recs).str j hlt
         obtain ⟨b1,b2⟩ := HB.out.1 _ (List.getElem_mem hlt)
         generalize n.recs[j] = y at *
         have b1': Op.bytesLess y.toList lo.toList = false := b1
         clear b1 HI
         rcases b2 with b2 | b2
         · have ht: hi.toList.isEmpty = true := by rw [L5.isEmpty_size,b2]; rfl
           clear b2 HB HN HNB HS HP
           go_wp2
           go_roundw
           case rel => exact ⟨j + 1,hlt,by go_num,trivial⟩
           case measure => simp [intOf]; omega
         · have b2': Op.bytesLess y.toList hi.toList = true := b2
           clear b2
           cases ht: hi.toList.isEmpty
           · clear HB HN HNB HS HP
             go_wp2
             go_roundw
             case rel => exact ⟨j + 1,hlt,by go_num,trivial⟩
             case measure => simp [intOf]; omega
           · clear HB HN HNB HS HP
             go_wp2
             go_roundw
             case rel => exact ⟨j + 1,hlt,by go_num,trivial⟩
             case measure => simp [intOf]; omega
       · have hlt': ¬ (j: Int) < (n.recs.length: Int) := by omega
         obtain ⟨hbs,⟨rfl,hlf,rfl,rfl⟩ | ⟨hh,hlf,hsu⟩⟩ := HB.out
         · rw [hlf] at d0
           clear hbs HI
           go_wp2_with fail
           have HE: Hid (ShpR w 1 n.recs [id] (.returned (.tuple #[.slice ra n.recs.length rc, .int .i64 1, .slice (some ⟨wr.heap.size,0,none⟩) 1 1, .bool true])) (wr.alloc (.cells #[.int .i64 (id: Int)] 3))) := ⟨ra,rc,_,_,rfl,(HNB.out.on (tbelow _ _)).recs,own_one wr w.heap.size HNB.out.bel.size id,tbelow_on HNB.out.bel (tbelow _ _)⟩
           refine bodyPost_ret (v := .tuple #[.slice ra n.recs.length rc, .int .i64 1, .slice (some ⟨wr.heap.size,0,none⟩) 1 1, .bool true]) ?_ rfl HE.out
           simp [results,Tryz.results34,go_sem]
         · have hl0 := hlf
           rw [hlf] at d0
           have HRS := thid (Rest.start hsu)
           have HA := thid (Acc.new (id := id) HNB.out)
           have hkl := (shaped_kids HN.out.shaped hlf).2
           clear hsu hbs HB
           go_wp2_with fail
           clear HNB d0 d1 d2 dl
           generalize (wr.alloc (.cells #[] 9)).alloc (.cells #[.int .i64 (id: Int)] 3) = w4 at *
           go_loopw [19,20,21,22] (fun av pv hv i wx => ∃ (j: Nat) (aa: Option Addr) (ac: Nat) (pa: Option Addr) (pc: Nat) (esd: List ByteArray) (psd: List Nat),j <= n.kids.length /\ i = .int .i64 (j: Int) /\ av = .slice aa esd.length ac /\ pv = .slice pa (psd.length + 1) pc /\ hv = .int .i64 ((if j = 0 then 0 else h: Nat): Int) /\ Hid (Rest (Sub a h) hi lo n.recs n.kids es ps j esd psd) /\ Hid (Acc w q n ra rc ka kc (.slice aa esd.length ac) esd (.slice pa (psd.length + 1) pc) (id :: psd) wx)) (fun _ _ _ i _ => n.kids.length - (intOf i).toNat)
           case atStart => exact ⟨0,_,_,_,_,[],[],Nat.zero_le _,rfl,rfl,rfl,rfl,HRS.out,HA.out⟩
           case round =>
            clear HRS HA
            obtain ⟨j,aa,ac,pa,pc,esd,psd,hj,rfl,rfl,rfl,rfl,HRS,HA⟩ := hrel
            obtain ⟨d0,d1,d2,dl⟩ := HA.out.nb.cells
            by_cases hlt: j < n.kids.length
            · have hlt': (j: Int) < (n.kids.length: Int) := by omega
              obtain ⟨c,lo1,hi1,es1,ps1,hkj,hPc,hlo,hhi,hnx,hle1,hle2⟩ := HRS.out.step hlt
              obtain ⟨x1,o1,rfl,l1,c1⟩ := (L5.owns_rd_slice HA.out.nb.kids).2.2 j (.int .i64 (c: Int)) (by simp [L5.ivs,L5.iv,hkj])
              have HPC := thid hPc
              have HNX := thid hnx
              obtain ⟨hv,hhv⟩: ∃ hv,Hid ((if j = 0 then 0 else h: Nat) = hv) := ⟨_,rfl⟩
              rw [hhv.out]
              clear hkj hPc hnx HRS
              go_upto_if 107 with fail
              go_cut [23] from 97 to 157 (fun s23 wx => s23 = .string lo1 /\ wx = wr)
              case first =>
               rcases hlo with ⟨hj0,rfl⟩ | ⟨hj1,hlo⟩
               · have hj0': ¬ (0: Int) < (j: Int) := by omega
                 clear hj0
                 go_wp2
                 go_meet
                 case rel => exact ⟨rfl,rfl⟩
               · have hj1': (0: Int) < (j: Int) := by omega
                 obtain ⟨x2,o2,e2,l2,c2⟩ := (L5.owns_rd_slice HA.out.nb.recs).2.2 (j - 1) (.string lo1) (by simp [L5.svs,hlo])
                 subst e2
                 have hw1: IntKind.i64.wrap ((j: Int) - 1) = ((j - 1: Nat): Int) := by rw [IntKind.wrap_i64]; omega
                 have hw2: ((j - 1: Nat): Int) < (n.recs.length: Int) := by omega
                 go_wp2
                 go_meet
                 case rel => exact ⟨rfl,rfl⟩
              case rest =>
               obtain ⟨rfl,rfl⟩ := hcut
               go_upto_if 118 with fail
               go_cut [24] from 97 to 157 (fun s24 wx => s24 = .string hi1 /\ wx = wc)
               case first =>
                rcases hhi with ⟨hj0,rfl⟩ | hhi
                · have hj0': ¬ (j: Int) < (n.recs.length: Int) := by omega
                  clear hj0
                  go_wp2
                  go_meet
                  case rel => exact ⟨rfl,rfl⟩
                · have hj1 := (List.getElem?_eq_some_iff.1 hhi).1
                  have hj1': (j: Int) < (n.recs.length: Int) := by omega
                  obtain ⟨x2,o2,e2,l2,c2⟩ := (L5.owns_rd_slice HA.out.nb.recs).2.2 j (.string hi1) (by simp [L5.svs,hhi])
                  subst e2
                  go_wp2
                  go_meet
                  case rel => exact ⟨rfl,rfl⟩
               case rest =>
                obtain ⟨rfl,rfl⟩ := hcut
                have hwd: IntKind.i64.wrap ((d: Int) + 1 - 1) = (d: Int) := by rw [IntKind.wrap_i64]; omega
                have HCL := thid (HI.out c lo1 hi1 es1 ps1 _ HPC.out (by omega) (by omega) (HS.out.below HA.out.nb.bel))
                go_wp2_with fail
                refine HCL.out.mono ?_
                rintro e w5 ⟨ia,ic,qa,qc,rfl,i1,i2,b5⟩
                have HA5 := thid (HA.out.on b5)
                have HI1 := thid (Rw.owns_src i1)
                have HI2 := thid i2
                have hchk: (0: Int) < (j: Int) -> hv = h := fun hp => by
                 have := hhv.out
                 rw [if_neg (by omega)] at this
                 exact this.symm
                clear HCL HA i1 i2 b5 l1 c1 d0 d1 d2 dl hwd
                have hej: esd.length + es1.length <= 1000 /\ psd.length + ps1.length <= 5000 := HNX.out.len hes hps
                have hfin: j + 1 ≠ 0 := by omega
                by_cases hj0: (0: Int) < (j: Int)
                · have hvh: ((h: Int) != (hv: Int)) = false := by rw [hchk hj0]; simp
                  clear hchk hhv
                  go_wp2_with (first
                   | (at_builtin
                      revert HA5)
                   | fail)
                  intro HA5
                  refine Rw.append_src (P := Tryz.prog) (size := 1) (bytes := 16) (z := .string ⟨#[]⟩) Tryz.underlying33 (by kernel_rfl) rfl (by decide) (by decide) rfl _ _ rfl w.heap.size HA5.out.nb.bel.size (.slice aa esd.length ac) esd.length (L5.svs esd) rfl HA5.out.al ia es1.length ic (L5.svs es1) rfl HI1.out (by simp [L5.svs]) (svs_oneC _) (by omega) ?_
                  intro v6 w6 hown hg hat
                  have HA6 := thid (HA5.out.grow1 hg hown hat)
                  have HI3 := thid (Rw.owns_src (L5.owns_of_block HI2.out fun g hgr => hg.block g (HI2.out.lt g hgr).2 fun e => Rw.owns_ne HA5.out.al HI2.out (by decide) e.symm hgr))
                  obtain ⟨a6,c6,rfl⟩ := Rw.owns_slice hown
                  have hn6: (esd ++ es1).length = esd.length + es1.length := List.length_append
                  have hej1 := hej.2
                  clear hej
                  generalize esd.length + es1.length = m6 at HA6 hn6 ⊢
                  clear hown hg hat HA5 HI1 HI2
                  dsimp only
                  go_wp2_with (first
                   | (at_builtin
                      revert HA6)
                   | fail)
                  intro HA6
                  refine Rw.append_src (P := Tryz.prog) (size := 1) (bytes := 8) (z := .int .i64 0) Tryz.underlying55 (by kernel_rfl) rfl (by decide) (by decide) rfl _ _ rfl w.heap.size HA6.out.nb.bel.size (.slice pa (psd.length + 1) pc) (psd.length + 1) ((id :: psd).map nv) rfl HA6.out.pg qa ps1.length qc (ps1.map nv) rfl HI3.out (by simp) (nv_oneC _) (by omega) ?_
                  intro v7 w7 hown hg hat
                  have HA7 := thid (HA6.out.grow2 hg hown hat)
                  obtain ⟨a7,c7,rfl⟩ := Rw.owns_slice hown
                  have hn7: (psd ++ ps1).length + 1 = psd.length + 1 + ps1.length := by simp; omega
                  generalize psd.length + 1 + ps1.length = m7 at HA7 hn7 ⊢
                  clear hown hg hat HA6 HI3
                  go_wp2
                  go_roundw
                  case rel => exact ⟨j + 1,a6,c6,a7,c7,esd ++ es1,psd ++ ps1,hlt,by go_num,by rw [hn6],by rw [hn7],by rw [if_neg hfin],HNX,by rw [hn6,hn7]; exact HA7⟩
                  case measure => simp [intOf]; omega
                · clear hchk hhv
                  go_wp2_with (first
                   | (at_builtin
                      revert HA5)
                   | fail)
                  intro HA5
                  refine Rw.append_src (P := Tryz.prog) (size := 1) (bytes := 16) (z := .string ⟨#[]⟩) Tryz.underlying33 (by kernel_rfl) rfl (by decide) (by decide) rfl _ _ rfl w.heap.size HA5.out.nb.bel.size (.slice aa esd.length ac) esd.length (L5.svs esd) rfl HA5.out.al ia es1.length ic (L5.svs es1) rfl HI1.out (by simp [L5.svs]) (svs_oneC _) (by omega) ?_
                  intro v6 w6 hown hg hat
                  have HA6 := thid (HA5.out.grow1 hg hown hat)
                  have HI3 := thid (Rw.owns_src (L5.owns_of_block HI2.out fun g hgr => hg.block g (HI2.out.lt g hgr).2 fun e => Rw.owns_ne HA5.out.al HI2.out (by decide) e.symm hgr))
                  obtain ⟨a6,c6,rfl⟩ := Rw.owns_slice hown
                  have hn6: (esd ++ es1).length = esd.length + es1.length := List.length_append
                  have hej1 := hej.2
                  clear hej
                  generalize esd.length + es1.length = m6 at HA6 hn6 ⊢
                  clear hown hg hat HA5 HI1 HI2
                  dsimp only
                  go_wp2_with (first
                   | (at_builtin
                      revert HA6)
                   | fail)
                  intro HA6
                  refine Rw.append_src (P := Tryz.prog) (size := 1) (bytes := 8) (z := .int .i64 0) Tryz.underlying55 (by kernel_rfl) rfl (by decide) (by decide) rfl _ _ rfl w.heap.size HA6.out.nb.bel.size (.slice pa (psd.length + 1) pc) (psd.length + 1) ((id :: psd).map nv) rfl HA6.out.pg qa ps1.length qc (ps1.map nv) rfl HI3.out (by simp) (nv_oneC _) (by omega) ?_
                  intro v7 w7 hown hg hat
                  have HA7 := thid (HA6.out.grow2 hg hown hat)
                  obtain ⟨a7,c7,rfl⟩ := Rw.owns_slice hown
                  have hn7: (psd ++ ps1).length + 1 = psd.length + 1 + ps1.length := by simp; omega
                  generalize psd.length + 1 + ps1.length = m7 at HA7 hn7 ⊢
                  clear hown hg hat HA6 HI3
                  go_wp2
                  go_roundw
                  case rel => exact ⟨j + 1,a6,c6,a7,c7,esd ++ es1,psd ++ ps1,hlt,by go_num,by rw [hn6],by rw [hn7],by rw [if_neg hfin],HNX,by rw [hn6,hn7]; exact HA7⟩
                  case measure => simp [intOf]; omega
            · have hlt': ¬ (j: Int) < (n.kids.length: Int) := by omega
              obtain ⟨rfl,rfl⟩ := HRS.out.done (by omega)
              have hj1: ¬ j = 0 := by omega
              rw [if_neg hj1]
              have hwh: IntKind.i64.wrap ((h: Int) + 1) = (h: Int) + 1 := by have := HHT.out; rw [IntKind.wrap_i64]; omega
              have HE: Hid (ShpR w (h + 1) es (id :: ps) (.returned (.tuple #[.slice aa es.length ac, .int .i64 ((h: Int) + 1), .slice pa (ps.length + 1) pc, .bool true])) wr) := ⟨aa,ac,pa,pc,rfl,HA.out.al,HA.out.pg,HA.out.nb.bel⟩
              go_wp2_with fail
              refine bodyPost_ret (v := .tuple #[.slice aa es.length ac, .int .i64 ((h: Int) + 1), .slice pa (ps.length + 1) pc, .bool true]) ?_ rfl HE.out
              simp [results,Tryz.results34,go_sem]
    · exact absurd hpo hn
end Go.Proofs.YtdnkbdjhccckhaaGreat
