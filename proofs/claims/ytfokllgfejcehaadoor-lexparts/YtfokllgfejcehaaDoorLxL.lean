/-
  Lex: the document's Tokens.
-/
import Derived.Test.YtfokllgfejcehaaDoorLxK
import Derived.Deep.CutBlock
namespace Go.Proofs.YtfokllgfejcehaaDoor
open Go.RowKit Rw

set_option maxRecDepth 100000 in
set_option maxHeartbeats 8000000 in
theorem rtokens_walk (s : ByteArray) (w : World) (hs : s.size ≤ 100000) :
    Calls Tryd.prog 9 #[.string s] w fun e w' => ∃ v, e = .returned v ∧ RTokR w.heap.size (cutT s.data.toList) v w' ∧ Below w.heap.size w w' := by
  have hlen := bsz s
  have HAT := thid (fun k (h : k < s.size) => @byte_at s k h)
  have HDA := thid (fun k (h : k < s.size) => @drop_at s k h)
  have HEX := thid (fun q n => extract_mid s q n)
  have HSY := thid (fun p (hp : p < s.size) W => sym_walk s p hp (by omega) W)
  have HI0 : Hid (RkJ w s.data.toList (.slice (some ⟨w.heap.size, 0, none⟩) 0 0) (0 + spanN blkB (s.data.toList.drop 0)) (s.data.toList.length + 1) [] (w.alloc (.cells #[] 46))) :=
    ⟨Nat.zero_le _, own_new (heap_alloc_new w _) (Nat.le_refl _), lxbelow _ _, by rw [glue_nil, List.drop_zero, Nat.zero_add]; rfl, by rw [List.length_drop]; omega⟩
  generalize s.data.toList = l at *
  go_enter Tryd.func9, Tryd.ntmps9
  go_wp2_with fail
  go_loopw [4, 5] (fun r i wr => ∃ (p f : Nat) (acc : List Tk), p ≤ s.size ∧ i = .int .i64 p ∧ Hid (acc.length ≤ p ∧ RkJ w l r (p + spanN blkB (l.drop p)) f acc wr)) (fun _ i _ => s.size + 1 - (intOf i).toNat)
  case atStart => exact ⟨0, _, [], Nat.zero_le _, rfl, Nat.zero_le _, HI0.out⟩
  case round =>
    clear HI0
    obtain ⟨p, f, acc, hp, rfl, HI⟩ := hrel
    obtain ⟨r, HRe⟩ : ∃ r, Hid (r = u4) := ⟨_, rfl⟩
    have hfew : acc.length ≤ p := HI.out.1
    have HJ := thid HI.out.2
    clear HI
    go_wp2_with fail
    go_loop [5] (fun i => ∃ k : Nat, p ≤ k ∧ k ≤ s.size ∧ i = .int .i64 k ∧ Hid (((l.drop p).take (k - p)).all blkB = true)) (fun i => s.size - (intOf i).toNat)
    case atStart => exact ⟨p, Nat.le_refl _, hp, rfl, by rw [Nat.sub_self]; rfl⟩
    case round =>
      obtain ⟨k, hpk, hk, rfl, HA⟩ := hrel
      by_cases hlt : k < s.size
      · have HC := fun W => class_walk s[k] W
        have hcb := cls_blk s[k]
        cases hb : blkB s[k]
        · have HQ : Hid (p + spanN blkB (l.drop p) = k) := (spanK hpk (by omega) HA.out fun c hc => by rw [HAT.out k hlt] at hc; cases hc; exact hb).symm
          rw [HQ.out] at HJ
          rw [hb] at hcb
          have hks : ((k : Int) == (s.size : Int)) = false := by rw [beq_eq_false_iff_ne]; omega
          cases hr : runB s[k]
          · have hcr := cls_run s[k]
            have hcq := cls_quo s[k]
            by_cases hq : s[k] = 39
            · rw [decide_eq_true hq] at hcq
              have hm : clsI s[k] = 6 := by simpa using hcq
              rw [hm] at HC
              have HFQ : Hid (firstP (l.drop k) = quoP (l.drop k)) := by show _ = _; rw [HDA.out k hlt, hq]; exact firstP_quo
              have HQ0 : Hid (QI l k (k + 1) [] (.slice (some ⟨wr.heap.size, 0, none⟩) 0 0) wr (wr.alloc (.cells #[] 5))) :=
                ⟨by simp, Nat.zero_le _, own_new (heap_alloc_new wr _) (Nat.le_refl _), lxbelow _ _, by simp [Value.ownBlock]⟩
              clear hcr hcq hb hr HA hcb hm hq
              go_upto_block 6 with (go_at_call 17; refine (HC _).mono ?_; rintro e w' ⟨rfl, hw'⟩; rw [hw']; clear hw' w' )
              go_cut [5, 11] from 111 to 148 (fun i tv wx => ∃ (j : Nat) (tl : List UInt8), k + 1 ≤ j ∧ j ≤ s.size ∧ i = .int .i64 j ∧ Hid (QI l k j tl tv wr wx ∧ ((j = s.size) ∨ (j < s.size ∧ ∃ r, l.drop j = 39 :: r ∧ ∀ d, r.head? = some d → d ≠ 39))))
              case first =>
                obtain ⟨W0, rfl⟩ : ∃ W0, W0 = wr := ⟨_, rfl⟩
                go_wp2_with fail
                go_loopw [5, 11] (fun i tv wx => ∃ (j : Nat) (tl : List UInt8), k + 1 ≤ j ∧ j ≤ s.size ∧ i = .int .i64 j ∧ Hid (QI l k j tl tv W0 wx)) (fun i _ _ => s.size - (intOf i).toNat)
                case atStart => exact ⟨k + 1, [], Nat.le_refl _, by omega, by go_num, HQ0.out⟩
                case round =>
                  clear HC HQ0
                  obtain ⟨j, tl, hkj, hj, rfl, HI⟩ := hrel
                  have hfj : tl.length ≤ j := HI.out.few
                  by_cases hltj : j < s.size
                  · have hd1 := HDA.out j hltj
                    cases hqj : ((s[j].toNat : Int) == 39)
                    · have hne : s[j] ≠ 39 := fun e => by rw [e] at hqj; simp at hqj
                      have hqp : ¬ (s[j].toNat : Int) = 39 := by simpa using hqj
                      have HSC := thid (scan_other HI.out.scan hkj hd1 hne)
                      clear hd1 hne
                      go_wp2_with (at_builtin; revert HI)
                      intro HI
                      refine to_letter (F := fun W => Below wr.heap.size wr W ∧ Src W (some ⟨wr.heap.size, 0, none⟩) 1 1 (byC s[j])) ⟨lxbelow _ _, src_new _ (byC s[j]) _ 1 1 rfl⟩ ?_
                      rintro U ⟨bU, sU⟩
                      have o1 := owns_on HI.out.own bU
                      have b1 := below_on HI.out.bel bU HI.out.bel.size
                      refine append_src Tryd.underlying50 infoByte rfl (by decide) (by decide) rfl _ _ rfl W0.heap.size b1.size _ tl.length (flat byC tl) rfl o1 _ 1 1 (byC s[j]) rfl sU rfl (byC_one _) (by omega) ?_
                      intro v2 W2 O2 G2 B3
                      have e2 : flat byC tl ++ byC s[j] = flat byC (tl ++ [s[j]]) := by rw [flat_append]; simp [flat]
                      rw [e2] at O2
                      have HI2 : Hid (QI l k (j + 1) (tl ++ [s[j]]) v2 W0 W2) := ⟨HSC.out, by simp; omega, by simpa using O2, b1.grown G2 b1.size fun p hp => (o1.lt p hp).1, B3.elim (fun h => by rw [h]; exact HI.out.blk) (fun h => by rw [h]; simp)⟩
                      clear O2 G2 e2 o1 bU sU b1 HI B3
                      go_wp2_with fail
                      exact ⟨⟨j + 1, _, by omega, by omega, by go_num, HI2⟩, by simp [intOf]; omega⟩
                    · have he : s[j] = 39 := UInt8.toNat_inj.1 (by have := beq_iff_eq.1 hqj; simp; omega)
                      have hqp : (s[j].toNat : Int) = 39 := by simpa using hqj
                      rw [he] at hd1
                      by_cases hlt2 : j + 1 < s.size
                      · have hd2 := HDA.out (j + 1) hlt2
                        have hlt2' : (j : Int) + 1 < s.size := by omega
                        cases hq2 : ((s[j + 1].toNat : Int) == 39)
                        · have hne : s[j + 1] ≠ 39 := fun e => by rw [e] at hq2; simp at hq2
                          have hq2p : ¬ (s[j + 1].toNat : Int) = 39 := by simpa using hq2
                          have HEX2 : Hid (QI l k j tl u11 W0 wr ∧ ((j = s.size) ∨ (j < s.size ∧ ∃ r, l.drop j = 39 :: r ∧ ∀ d, r.head? = some d → d ≠ 39))) := ⟨HI.out, Or.inr ⟨hltj, _, hd1, by rw [hd2]; simp; exact hne⟩⟩
                          clear hd1 hd2 he hne
                          go_wp2_with fail
                          go_meet
                          case rel => exact ⟨j, tl, hkj, hj, rfl, HEX2⟩
                        · have he2 : s[j + 1] = 39 := UInt8.toNat_inj.1 (by have := beq_iff_eq.1 hq2; simp; omega)
                          rw [he2] at hd2
                          have HSC := thid (scan_two HI.out.scan hkj (by rw [hd1, hd2]))
                          have hq2p : (s[j + 1].toNat : Int) = 39 := by simpa using hq2
                          clear hd1 hd2 he he2
                          go_wp2_with (at_builtin; revert HI)
                          intro HI
                          refine to_letter (F := fun W => Below wr.heap.size wr W ∧ Src W (some ⟨wr.heap.size, 0, none⟩) 1 1 (byC (39:UInt8))) ⟨lxbelow _ _, src_new _ (byC (39:UInt8)) _ 1 1 rfl⟩ ?_
                          rintro U ⟨bU, sU⟩
                          have o1 := owns_on HI.out.own bU
                          have b1 := below_on HI.out.bel bU HI.out.bel.size
                          refine append_src Tryd.underlying50 infoByte rfl (by decide) (by decide) rfl _ _ rfl W0.heap.size b1.size _ tl.length (flat byC tl) rfl o1 _ 1 1 (byC (39:UInt8)) rfl sU rfl (byC_one _) (by omega) ?_
                          intro v2 W2 O2 G2 B3
                          have e2 : flat byC tl ++ byC (39:UInt8) = flat byC (tl ++ [(39:UInt8)]) := by rw [flat_append]; simp [flat]
                          rw [e2] at O2
                          have HI2 : Hid (QI l k (j + 2) (tl ++ [(39:UInt8)]) v2 W0 W2) := ⟨HSC.out, by simp; omega, by simpa using O2, b1.grown G2 b1.size fun p hp => (o1.lt p hp).1, B3.elim (fun h => by rw [h]; exact HI.out.blk) (fun h => by rw [h]; simp)⟩
                          clear O2 G2 e2 o1 bU sU b1 HI B3
                          go_wp2_with fail
                          exact ⟨⟨j + 2, _, by omega, by omega, by go_num, HI2⟩, by simp [intOf]; omega⟩
                      · have hlt2' : ¬ ((j : Int) + 1 < s.size) := by omega
                        have HEX2 : Hid (QI l k j tl u11 W0 wr ∧ ((j = s.size) ∨ (j < s.size ∧ ∃ r, l.drop j = 39 :: r ∧ ∀ d, r.head? = some d → d ≠ 39))) := ⟨HI.out, Or.inr ⟨hltj, _, hd1, by rw [List.drop_eq_nil_of_le (by omega)]; simp⟩⟩
                        clear hd1 he
                        go_wp2_with fail
                        go_meet
                        case rel => exact ⟨j, tl, hkj, hj, rfl, HEX2⟩
                  · have HEX2 : Hid (QI l k j tl u11 W0 wr ∧ ((j = s.size) ∨ (j < s.size ∧ ∃ r, l.drop j = 39 :: r ∧ ∀ d, r.head? = some d → d ≠ 39))) := ⟨HI.out, Or.inl (by omega)⟩
                    go_wp2_with fail
                    go_meet
                    case rel => exact ⟨j, tl, hkj, hj, rfl, HEX2⟩
              case rest =>
                clear HC HQ0
                obtain ⟨j, tl, hkj, hj, rfl, HQI⟩ := hcut
                rcases HQI.out.2 with hje | ⟨hjl, r, hr1, hr2⟩
                · have HR := thid (HJ.out.bad (by omega) (by rw [HFQ.out]; exact HQI.out.1.none (List.drop_eq_nil_of_le (by omega))))
                  have HBW := thid (below_on HJ.out.bel HQI.out.1.bel HJ.out.bel.size)
                  have hge : (s.size : Int) ≤ j := by omega
                  clear HQI hje
                  go_wp2_with fail
                  go_ret2
                  exact ⟨_, rfl, by rw [HR.out]; rfl, HBW.out⟩
                · have hst := HQI.out.1.stop hkj hr1 hr2
                  have hlj : ¬ (s.size : Int) ≤ j := by omega
                  have HJX := thid (HJ.out.turn HQI.out.1.bel)
                  have HOW := thid HQI.out.1.own
                  have HBK := thid HQI.out.1.blk
                  obtain ⟨ta, tc, HTV⟩ : ∃ ta tc, Hid (u11 = .slice ta tl.length tc) := owns_slice HQI.out.1.own
                  have htv : u11 = .slice ta tl.length tc := HTV.out
                  rw [htv] at HOW HBK
                  by_cases h24 : tl.length ≤ 24
                  · rw [if_pos h24] at hst
                    have HX : Hid (firstP (l.drop k) = (⟨4, 0, 0, mkB tl⟩, j + 1 - k)) := by show _ = _; rw [HFQ.out, hst]
                    have h24' : ¬ (24 : Int) < tl.length := by omega
                    have hcv := conv_bytes HOW.out HBK.out wc (fun _ _ => rfl)
                    clear hst hr1 hr2 HQI HJ
                    subst htv
                    go_wp2_with (at_builtin; revert HJX)
                    intro HJ
                    refine to_letter (F := fun W => Below wc.heap.size wc W ∧ Src W (some ⟨wc.heap.size, 0, none⟩) 1 1 (tkC ⟨4, 0, k, mkB tl⟩)) ⟨lxbelow _ _, src_new _ (tkC ⟨4, 0, k, mkB tl⟩) _ 1 1 rfl⟩ ?_
                    rintro U ⟨bU, sU⟩
                    have o1 := owns_on HJ.out.own bU
                    have b1 := below_on HJ.out.bel bU HJ.out.bel.size
                    refine append_src Tryd.underlying29 infoRTok rfl (by decide) (by decide) rfl _ _ rfl w.heap.size b1.size _ acc.length (flat tkC acc) rfl o1 _ 1 1 (tkC ⟨4, 0, k, mkB tl⟩) rfl sU rfl (tkC_one _) (by omega) ?_
                    intro v2 W2 O2 G2 _
                    have HI2 := thid (HJ.out.step bU HX.out (by omega) O2 G2)
                    clear O2 G2 o1 bU sU b1 HJ
                    go_wp2_with fail
                    refine ⟨⟨j + 1, f - 1, _, by omega, by go_num, ?_, by rw [show j + 1 = k + (j + 1 - k) by omega]; exact HI2.out⟩, by simp [intOf]; omega⟩
                    rw [List.length_append, List.length_singleton]
                    omega
                  · rw [if_neg h24] at hst
                    have HR := thid (HJ.out.bad (by omega) (by rw [HFQ.out, hst]))
                    have HBW := thid (below_on HJ.out.bel HQI.out.1.bel HJ.out.bel.size)
                    have h24' : (24 : Int) < tl.length := by omega
                    clear hst hr1 hr2 HQI HJ HJX
                    subst htv
                    go_wp2_with fail
                    go_ret2
                    exact ⟨_, rfl, by rw [HR.out]; rfl, HBW.out⟩
            · rw [decide_eq_false hq] at hcq
              rw [hr] at hcr
              have HFS : Hid (firstP (l.drop k) = symP (l.drop k)) := by show _ = _; rw [HDA.out k hlt]; exact firstP_sym hr hq
              have HSK := fun W => HSY.out k hlt W
              have hle : (symP (l.drop k)).2 ≤ s.size - k := by have := symP_size (l.drop k); rw [List.length_drop, hlen] at this; exact this
              have HTX := thid (@symP_text (l.drop k))
              obtain ⟨N, HN⟩ : ∃ N, Hid ((symP (l.drop k)).2 = N) := ⟨_, rfl⟩
              rw [HN.out] at HSK hle HTX
              generalize clsI s[k] = m at HC hcb hcr hcq
              clear hb hr HA hq
              have hcr2 : ¬ 1 ≤ m ∨ ¬ m ≤ 4 := by
                by_cases h1 : 1 ≤ m
                · right; intro h; simp [h1, h] at hcr
                · exact Or.inl h1
              clear hcr
              by_cases hN : N = 0
              · subst hN
                have HR := thid (HJ.out.bad (by omega) (by rw [HFS.out]; exact HN.out))
                by_cases hm1 : 1 ≤ m
                · have hm4 : ¬ m ≤ 4 := hcr2.resolve_left (fun h => h hm1)
                  clear hcr2
                  go_wp2_with (first | (go_at_call 17; refine (HC _).mono ?_; rintro e w' ⟨rfl, hw'⟩; rw [hw']; clear hw' w' ) | (go_at_call 21; refine (HSK _).mono ?_; rintro e w' ⟨rfl, nq, rfl⟩))
                  go_ret2
                  exact ⟨_, rfl, by rw [HR.out]; rfl, lxdrew HJ.out.bel nq⟩
                · clear hcr2
                  go_wp2_with (first | (go_at_call 17; refine (HC _).mono ?_; rintro e w' ⟨rfl, hw'⟩; rw [hw']; clear hw' w' ) | (go_at_call 21; refine (HSK _).mono ?_; rintro e w' ⟨rfl, nq, rfl⟩))
                  go_ret2
                  exact ⟨_, rfl, by rw [HR.out]; rfl, lxdrew HJ.out.bel nq⟩
              · have hN0 : ((N : Int) == 0) = false := by rw [beq_eq_false_iff_ne]; omega
                have HX : Hid (firstP (l.drop k) = (⟨5, 0, 0, mkB ((l.drop k).take N)⟩, N)) := by
                  show _ = _
                  rw [HFS.out]
                  exact Prod.ext (HTX.out hN) HN.out
                have hsl : ∀ W, (Instr.slice 9 (.string s) (some (.int .i64 (k : Int))) (some (.int .i64 ((k : Int) + (N : Int)))) none).run Tryd.prog W = .ok (.string (mkB ((l.drop k).take N))) W := fun W => by
                  rw [← HEX.out k N]
                  rw [run_slice_string W 9 s .i64 .i64 (k : Int) ((k : Int) + N) Tryd.underlying9 (by omega) (by omega) (by omega)]
                  rw [show (k : Int).toNat = k by omega, show ((k : Int) + N).toNat = k + N by omega]
                by_cases hm1 : 1 ≤ m
                · have hm4 : ¬ m ≤ 4 := hcr2.resolve_left (fun h => h hm1)
                  clear hcr2
                  go_wp2_with (first | (go_at_call 17; refine (HC _).mono ?_; rintro e w' ⟨rfl, hw'⟩; rw [hw']; clear hw' w' ) | (go_at_call 21; refine (HSK _).mono ?_; rintro e w' ⟨rfl, nq, rfl⟩) | (at_builtin; revert HJ))
                  intro HJ
                  replace HJ := thid (HJ.out.turn (Y := wr.drewN nq) (lxdrew (Below.refl _ _) nq))
                  refine to_letter (F := fun W => Below (wr.drewN nq).heap.size (wr.drewN nq) W ∧ Src W (some ⟨(wr.drewN nq).heap.size, 0, none⟩) 1 1 (tkC ⟨5, 0, k, mkB ((l.drop k).take N)⟩)) ⟨lxbelow _ _, src_new _ (tkC ⟨5, 0, k, mkB ((l.drop k).take N)⟩) _ 1 1 rfl⟩ ?_
                  rintro U ⟨bU, sU⟩
                  have o1 := owns_on HJ.out.own bU
                  have b1 := below_on HJ.out.bel bU HJ.out.bel.size
                  refine append_src Tryd.underlying29 infoRTok rfl (by decide) (by decide) rfl _ _ rfl w.heap.size b1.size _ acc.length (flat tkC acc) rfl o1 _ 1 1 (tkC ⟨5, 0, k, mkB ((l.drop k).take N)⟩) rfl sU rfl (tkC_one _) (by omega) ?_
                  intro v2 W2 O2 G2 _
                  have HI2 := thid (HJ.out.step bU HX.out (by omega) O2 G2)
                  clear O2 G2 o1 bU sU b1 HJ
                  go_wp2_with fail
                  refine ⟨⟨k + N, f - 1, _, by omega, by go_num, ?_, by rw [show k + N = k + (N) by omega]; exact HI2.out⟩, by simp [intOf]; omega⟩
                  rw [List.length_append, List.length_singleton]
                  omega
                · clear hcr2
                  go_wp2_with (first | (go_at_call 17; refine (HC _).mono ?_; rintro e w' ⟨rfl, hw'⟩; rw [hw']; clear hw' w' ) | (go_at_call 21; refine (HSK _).mono ?_; rintro e w' ⟨rfl, nq, rfl⟩) | (at_builtin; revert HJ))
                  intro HJ
                  replace HJ := thid (HJ.out.turn (Y := wr.drewN nq) (lxdrew (Below.refl _ _) nq))
                  refine to_letter (F := fun W => Below (wr.drewN nq).heap.size (wr.drewN nq) W ∧ Src W (some ⟨(wr.drewN nq).heap.size, 0, none⟩) 1 1 (tkC ⟨5, 0, k, mkB ((l.drop k).take N)⟩)) ⟨lxbelow _ _, src_new _ (tkC ⟨5, 0, k, mkB ((l.drop k).take N)⟩) _ 1 1 rfl⟩ ?_
                  rintro U ⟨bU, sU⟩
                  have o1 := owns_on HJ.out.own bU
                  have b1 := below_on HJ.out.bel bU HJ.out.bel.size
                  refine append_src Tryd.underlying29 infoRTok rfl (by decide) (by decide) rfl _ _ rfl w.heap.size b1.size _ acc.length (flat tkC acc) rfl o1 _ 1 1 (tkC ⟨5, 0, k, mkB ((l.drop k).take N)⟩) rfl sU rfl (tkC_one _) (by omega) ?_
                  intro v2 W2 O2 G2 _
                  have HI2 := thid (HJ.out.step bU HX.out (by omega) O2 G2)
                  clear O2 G2 o1 bU sU b1 HJ
                  go_wp2_with fail
                  refine ⟨⟨k + N, f - 1, _, by omega, by go_num, ?_, by rw [show k + N = k + (N) by omega]; exact HI2.out⟩, by simp [intOf]; omega⟩
                  rw [List.length_append, List.length_singleton]
                  omega
          · have hcr := cls_run s[k]
            rw [hr, Bool.and_eq_true, decide_eq_true_eq, decide_eq_true_eq] at hcr
            obtain ⟨hm1, hm4⟩ := hcr
            generalize clsI s[k] = m at HC hcb hm1 hm4
            have HFR : Hid (firstP (l.drop k) = runP ((l.drop k).takeWhile runB)) := by show _ = _; rw [HDA.out k hlt]; exact firstP_run hr
            have HRk := thid hr
            clear hb hr HA
            go_upto_block 4 with (go_at_call 17; refine (HC _).mono ?_; rintro e w' ⟨rfl, hw'⟩; rw [hw']; clear hw' w' )
            go_cut [5] from 47 to 66 (fun i wx => ∃ j : Nat, k ≤ j ∧ j ≤ s.size ∧ i = .int .i64 j ∧ wr = wx ∧ Hid (j = k + spanN runB (l.drop k)))
            case first =>
              go_wp2_with fail
              go_loop [5] (fun i => ∃ j : Nat, k ≤ j ∧ j ≤ s.size ∧ i = .int .i64 j ∧ Hid (((l.drop k).take (j - k)).all runB = true)) (fun i => s.size - (intOf i).toNat)
              case atStart => exact ⟨k, Nat.le_refl _, hk, rfl, by rw [Nat.sub_self]; rfl⟩
              case round =>
                clear HC hcb hm1 hm4
                obtain ⟨j, hkj, hj, rfl, HA⟩ := hrel
                have HEXIT : Hid ((∀ (h : j < s.size), runB s[j] = false) → j = k + spanN runB (l.drop k)) := fun hx => spanK hkj (by omega) HA.out fun c hc => by
                  have hjl : j < s.size := by have := (List.getElem?_eq_some_iff.1 hc).1; omega
                  rw [HAT.out j hjl] at hc; cases hc; exact hx hjl
                by_cases hltj : j < s.size
                · have HC := fun W => class_walk s[j] W
                  have hcr := cls_run s[j]
                  cases hrj : runB s[j]
                  · have HE := thid (HEXIT.out fun _ => hrj)
                    rw [hrj] at hcr
                    generalize clsI s[j] = m2 at HC hcr
                    clear hrj HEXIT HA
                    by_cases hm1 : 1 ≤ m2
                    · have hm4 : ¬ m2 ≤ 4 := fun h => by simp [hm1, h] at hcr
                      clear hcr
                      go_wp2_with (go_at_call 17; refine (HC _).mono ?_; rintro e w' ⟨rfl, hw'⟩; rw [hw']; clear hw' w' )
                      go_meet
                      case rel => exact ⟨j, hkj, hj, rfl, rfl, HE⟩
                    · clear hcr
                      go_wp2_with (go_at_call 17; refine (HC _).mono ?_; rintro e w' ⟨rfl, hw'⟩; rw [hw']; clear hw' w' )
                      go_meet
                      case rel => exact ⟨j, hkj, hj, rfl, rfl, HE⟩
                  · rw [hrj, Bool.and_eq_true, decide_eq_true_eq, decide_eq_true_eq] at hcr
                    obtain ⟨hm1, hm4⟩ := hcr
                    have HST := thid (stepK hkj (by omega) HA.out (fun c hc => by rw [HAT.out j hltj] at hc; cases hc; exact hrj))
                    generalize clsI s[j] = m2 at HC hm1 hm4
                    clear hrj HEXIT HA
                    go_wp2_with (go_at_call 17; refine (HC _).mono ?_; rintro e w' ⟨rfl, hw'⟩; rw [hw']; clear hw' w' )
                    go_round
                    case rel => exact ⟨j + 1, by omega, by omega, by go_num, HST.out⟩
                    case measure => simp [intOf]; omega
                · have HE := thid (HEXIT.out fun h => absurd h hltj)
                  clear HEXIT HA
                  go_wp2_with fail
                  go_meet
                  case rel => exact ⟨j, hkj, hj, rfl, rfl, HE⟩
            case rest =>
              clear HC hcb hm1 hm4
              obtain ⟨j, hkj, hj, rfl, rfl, HE⟩ := hcut
              have hj0 : k < j := by
                have h1 : 0 < spanN runB (l.drop k) := by rw [HDA.out k hlt, spanN_cons_pos HRk.out]; omega
                have := HE.out
                omega
              obtain ⟨t, HTe⟩ : ∃ t, Hid (t = (l.drop k).takeWhile runB) := ⟨_, rfl⟩
              have htl : t.length = j - k := by
                have h1 : t.length = spanN runB (l.drop k) := by rw [HTe.out]; rfl
                have := HE.out
                omega
              have hsl : ∀ W, (Instr.slice 9 (.string s) (some (.int .i64 (k : Int))) (some (.int .i64 (j : Int))) none).run Tryd.prog W = .ok (.string (mkB t)) W := fun W => by
                have e1 : s.extract k j = mkB t := by
                  have h2 := HEX.out k (j - k)
                  rw [show k + (j - k) = j by omega] at h2
                  rw [h2, show j - k = spanN runB (l.drop k) by have := HE.out; omega, take_span, ← HTe.out]
                rw [run_slice_string W 9 s .i64 .i64 (k : Int) (j : Int) Tryd.underlying9 (by omega) (by omega) (by omega)]
                rw [show (k : Int).toNat = k by omega, show (j : Int).toNat = j by omega, e1]
              have HFT : Hid (firstP (l.drop k) = runP t) := by show _ = _; rw [HFR.out, HTe.out]
              have htn : t ≠ [] := fun e => by rw [e] at htl; simp at htl; omega
              have hts : (mkB t).size = t.length := mkB_size t
              have HMS : Hid ((mkB t).size ≤ 1000000) := by show _ ≤ _; omega
              have H3 := fun W => only_walk 3 digB cls_dig (mkB t) W (by omega) (by omega)
              have H1 := fun W => only_walk 1 capB cls_cap (mkB t) W (by omega) (by omega)
              have HN := fun W => rname_walk (mkB t) W (by unfold maxLen; omega)
              simp only [mkB_list] at H3 H1
              clear HFR HTe hts HE HRk
              cases hd : t.all digB
              · rw [hd] at H3
                cases hc : t.all capB
                · rw [hc] at H1
                  cases hn : nameB (mkB t)
                  · rw [hn] at HN
                    have HR := thid (HJ.out.bad (by omega) (by rw [HFT.out, runP_bad hc hn hd]))
                    clear hd hc hn
                    go_wp2_with fail
                    refine (H3 _).mono ?_
                    rintro e w' ⟨rfl, hw'⟩
                    rw [hw']
                    clear hw' w'
                    go_wp2_with fail
                    refine (H1 _).mono ?_
                    rintro e w' ⟨rfl, hw'⟩
                    rw [hw']
                    clear hw' w'
                    go_wp2_with (go_at_call 20; refine (HN _).mono ?_; rintro e w' ⟨rfl, hw'⟩; rw [hw']; clear hw' w')
                    refine (H3 _).mono ?_
                    rintro e w' ⟨rfl, hw'⟩
                    rw [hw']
                    clear hw' w'
                    go_wp2_with fail
                    go_ret2
                    exact ⟨_, rfl, by rw [HR.out]; rfl, HJ.out.bel⟩
                  · rw [hn] at HN
                    have HX : Hid (firstP (l.drop k) = (⟨2, 0, 0, mkB t⟩, j - k)) := by show _ = _; rw [HFT.out, runP_name hc hn, htl]
                    clear hd hc hn
                    go_wp2_with fail
                    refine (H3 _).mono ?_
                    rintro e w' ⟨rfl, hw'⟩
                    rw [hw']
                    clear hw' w'
                    go_wp2_with fail
                    refine (H1 _).mono ?_
                    rintro e w' ⟨rfl, hw'⟩
                    rw [hw']
                    clear hw' w'
                    go_wp2_with (first | (go_at_call 20; refine (HN _).mono ?_; rintro e w' ⟨rfl, hw'⟩; rw [hw']; clear hw' w') | (at_builtin; revert HJ))
                    intro HJ
                    refine to_letter (F := fun W => Below wr.heap.size wr W ∧ Src W (some ⟨wr.heap.size, 0, none⟩) 1 1 (tkC ⟨2, 0, k, mkB t⟩)) ⟨lxbelow _ _, src_new _ (tkC ⟨2, 0, k, mkB t⟩) _ 1 1 rfl⟩ ?_
                    rintro U ⟨bU, sU⟩
                    have o1 := owns_on HJ.out.own bU
                    have b1 := below_on HJ.out.bel bU HJ.out.bel.size
                    refine append_src Tryd.underlying29 infoRTok rfl (by decide) (by decide) rfl _ _ rfl w.heap.size b1.size _ acc.length (flat tkC acc) rfl o1 _ 1 1 (tkC ⟨2, 0, k, mkB t⟩) rfl sU rfl (tkC_one _) (by omega) ?_
                    intro v2 W2 O2 G2 _
                    have HI2 := thid (HJ.out.step bU HX.out (by omega) O2 G2)
                    clear O2 G2 o1 bU sU b1 HJ
                    go_wp2_with fail
                    refine ⟨⟨j, f - 1, _, by omega, by go_num, ?_, by rw [show j = k + (j - k) by omega]; exact HI2.out⟩, by simp [intOf]; omega⟩
                    rw [List.length_append, List.length_singleton]
                    omega
                · rw [hc] at H1
                  have HX : Hid (firstP (l.drop k) = (⟨1, 0, 0, mkB t⟩, j - k)) := by show _ = _; rw [HFT.out, runP_word hc, htl]
                  clear hd hc
                  go_wp2_with fail
                  refine (H3 _).mono ?_
                  rintro e w' ⟨rfl, hw'⟩
                  rw [hw']
                  clear hw' w'
                  go_wp2_with fail
                  refine (H1 _).mono ?_
                  rintro e w' ⟨rfl, hw'⟩
                  rw [hw']
                  clear hw' w'
                  go_wp2_with (at_builtin; revert HJ)
                  intro HJ
                  refine to_letter (F := fun W => Below wr.heap.size wr W ∧ Src W (some ⟨wr.heap.size, 0, none⟩) 1 1 (tkC ⟨1, 0, k, mkB t⟩)) ⟨lxbelow _ _, src_new _ (tkC ⟨1, 0, k, mkB t⟩) _ 1 1 rfl⟩ ?_
                  rintro U ⟨bU, sU⟩
                  have o1 := owns_on HJ.out.own bU
                  have b1 := below_on HJ.out.bel bU HJ.out.bel.size
                  refine append_src Tryd.underlying29 infoRTok rfl (by decide) (by decide) rfl _ _ rfl w.heap.size b1.size _ acc.length (flat tkC acc) rfl o1 _ 1 1 (tkC ⟨1, 0, k, mkB t⟩) rfl sU rfl (tkC_one _) (by omega) ?_
                  intro v2 W2 O2 G2 _
                  have HI2 := thid (HJ.out.step bU HX.out (by omega) O2 G2)
                  clear O2 G2 o1 bU sU b1 HJ
                  go_wp2_with fail
                  refine ⟨⟨j, f - 1, _, by omega, by go_num, ?_, by rw [show j = k + (j - k) by omega]; exact HI2.out⟩, by simp [intOf]; omega⟩
                  rw [List.length_append, List.length_singleton]
                  omega
              · rw [hd] at H3
                have hc := dig_not_cap htn hd
                have hn := dig_not_name hd
                rw [hc] at H1
                rw [hn] at HN
                have HU := fun W => number_walk (mkB t) W HMS.out (by rw [mkB_list]; exact hd)
                rw [mkB_list] at HU
                by_cases hu : numL t < 9223372036854775808
                · have HX : Hid (firstP (l.drop k) = (⟨3, numL t, 0, mkB []⟩, j - k)) := by show _ = _; rw [HFT.out, runP_num hc hn hd hu, htl]
                  unfold numV at HU
                  rw [if_pos hu] at HU
                  generalize numL t = u at HU HX
                  clear hd hc hn hu
                  go_wp2_with fail
                  refine (H3 _).mono ?_
                  rintro e w' ⟨rfl, hw'⟩
                  rw [hw']
                  clear hw' w'
                  go_wp2_with (go_at_call 19; refine (HU _).mono ?_; rintro e w' ⟨rfl, hw'⟩; rw [hw']; clear hw' w')
                  refine (H1 _).mono ?_
                  rintro e w' ⟨rfl, hw'⟩
                  rw [hw']
                  clear hw' w'
                  go_wp2_with (go_at_call 20; refine (HN _).mono ?_; rintro e w' ⟨rfl, hw'⟩; rw [hw']; clear hw' w')
                  refine (H3 _).mono ?_
                  rintro e w' ⟨rfl, hw'⟩
                  rw [hw']
                  clear hw' w'
                  go_wp2_with (at_builtin; revert HJ)
                  intro HJ
                  refine to_letter (F := fun W => Below wr.heap.size wr W ∧ Src W (some ⟨wr.heap.size, 0, none⟩) 1 1 (tkC ⟨3, u, k, mkB []⟩)) ⟨lxbelow _ _, src_new _ (tkC ⟨3, u, k, mkB []⟩) _ 1 1 rfl⟩ ?_
                  rintro U ⟨bU, sU⟩
                  have o1 := owns_on HJ.out.own bU
                  have b1 := below_on HJ.out.bel bU HJ.out.bel.size
                  refine append_src Tryd.underlying29 infoRTok rfl (by decide) (by decide) rfl _ _ rfl w.heap.size b1.size _ acc.length (flat tkC acc) rfl o1 _ 1 1 (tkC ⟨3, u, k, mkB []⟩) rfl sU rfl (tkC_one _) (by omega) ?_
                  intro v2 W2 O2 G2 _
                  have HI2 := thid (HJ.out.step bU HX.out (by omega) O2 G2)
                  clear O2 G2 o1 bU sU b1 HJ
                  go_wp2_with fail
                  refine ⟨⟨j, f - 1, _, by omega, by go_num, ?_, by rw [show j = k + (j - k) by omega]; exact HI2.out⟩, by simp [intOf]; omega⟩
                  rw [List.length_append, List.length_singleton]
                  omega
                · have HR := thid (HJ.out.bad (by omega) (by rw [HFT.out, runP_big hc hn hu]))
                  unfold numV at HU
                  rw [if_neg hu] at HU
                  clear hd hc hn hu
                  go_wp2_with fail
                  refine (H3 _).mono ?_
                  rintro e w' ⟨rfl, hw'⟩
                  rw [hw']
                  clear hw' w'
                  go_wp2_with (go_at_call 19; refine (HU _).mono ?_; rintro e w' ⟨rfl, hw'⟩; rw [hw']; clear hw' w')
                  refine (H1 _).mono ?_
                  rintro e w' ⟨rfl, hw'⟩
                  rw [hw']
                  clear hw' w'
                  go_wp2_with (go_at_call 20; refine (HN _).mono ?_; rintro e w' ⟨rfl, hw'⟩; rw [hw']; clear hw' w')
                  refine (H3 _).mono ?_
                  rintro e w' ⟨rfl, hw'⟩
                  rw [hw']
                  clear hw' w'
                  go_wp2_with fail
                  go_ret2
                  exact ⟨_, rfl, by rw [HR.out]; rfl, HJ.out.bel⟩
        · rw [hb] at hcb
          have HST := thid (stepK hpk (by omega) HA.out (fun c hc => by rw [HAT.out k hlt] at hc; cases hc; exact hb))
          generalize clsI s[k] = m at HC hcb
          clear hb
          go_wp2_with (go_at_call 17; refine (HC _).mono ?_; rintro e w' ⟨rfl, rfl⟩)
          go_round
          case rel => exact ⟨k + 1, by omega, by omega, by go_num, HST.out⟩
          case measure => simp [intOf]; omega
      · have hks : k = s.size := by omega
        have HQ : Hid (p + spanN blkB (l.drop p) = k) := (spanK hpk (by omega) HA.out fun c hc => by have := (List.getElem?_eq_some_iff.1 hc).1; omega).symm
        rw [HQ.out] at HJ
        have HR := thid (HJ.out.last (by omega))
        have hks' : ((k : Int) == (s.size : Int)) = true := by rw [beq_iff_eq]; omega
        clear hks HA
        go_wp2_with (at_builtin; revert HJ)
        intro HJ
        refine to_letter (F := fun W => Below wr.heap.size wr W ∧ Src W (some ⟨wr.heap.size, 0, none⟩) 1 1 (tkC ⟨0, 0, k, mkB []⟩)) ⟨lxbelow _ _, src_new _ (tkC ⟨0, 0, k, mkB []⟩) _ 1 1 rfl⟩ ?_
        rintro U ⟨bU, sU⟩
        have o1 := owns_on HJ.out.own bU
        have b1 := below_on HJ.out.bel bU HJ.out.bel.size
        refine append_src Tryd.underlying29 infoRTok rfl (by decide) (by decide) rfl _ _ rfl w.heap.size b1.size _ acc.length (flat tkC acc) rfl o1 _ 1 1 (tkC ⟨0, 0, k, mkB []⟩) rfl sU rfl (tkC_one _) (by omega) ?_
        intro v2 W2 O2 G2 _
        have e2 : flat tkC acc ++ tkC ⟨0, 0, k, mkB []⟩ = flat tkC (acc ++ [⟨0, 0, k, mkB []⟩]) := by rw [flat_append]; simp [flat]
        rw [e2] at O2
        have BX := thid (b1.grown G2 b1.size fun p hp => (o1.lt p hp).1)
        have HO2 := thid O2
        clear O2 G2 e2 o1 bU sU b1 HJ
        go_wp2_with fail
        go_ret2
        refine ⟨_, rfl, ?_, BX.out⟩
        rw [HR.out]
        exact ⟨v2, rfl, by simpa using HO2.out⟩
end Go.Proofs.YtfokllgfejcehaaDoor
