/-
  ArenaPlays: its walk.
-/
import Derived.Deep.RegionHeld
import Derived.Deep.DeepCutAuto
import Derived.Deep.CutBlock
import Derived.Test.YtcoehlnmaehhjaaPlaysA
namespace Go.Proofs.Ytcoehlnmaehhjaa
open Go.RowKit

set_option maxRecDepth 100000 in
set_option maxHeartbeats 8000000 in
theorem plays_walk (q : Int) (ad : Option Addr) (len cap : Nat) (f : Nat → OpV) (w : World) (hs : OpS w ad len f) : Calls Try.prog 3 #[.int .i64 q, .slice ad len cap] w fun e w' => e = .returned (.bool true) ∧ Below w.heap.size w w' := by
  go_enter Try.func3, Try.ntmps3
  go_wp2_with fail
  refine (awake_walk _).mono ?_
  rintro e w1 ⟨rfl, B⟩
  have HB : Hid (Below w.heap.size w w1) := B
  have HS : Hid (OpS w1 ad len f) := hs.below B
  clear B hs
  cases hq : mayB q
  · go_wp2_with fail
    refine (new_no q hq _).mono ?_
    rintro e w2 ⟨rfl, rfl⟩
    go_wp2_with fail
    refine (rnew_no q hq _).mono ?_
    rintro e w3 ⟨rfl, rfl⟩
    go_wp2
    go_ret
    exact ⟨rfl, HB.out⟩
  · obtain ⟨Q, rfl, hQ⟩ : ∃ Q : Nat, q = (Q : Int) ∧ Q ≤ 4096 := by
      unfold mayB at hq
      simp at hq
      exact ⟨q.toNat, by omega, by omega⟩
    clear hq
    go_wp2_with fail
    refine (has_new Q hQ _).mono ?_
    rintro e w2 ⟨p, rfl, H⟩
    have H1 : Hid (Has w1 p ⟨[], [], Q⟩ w2) := H
    clear H
    unfold arV
    go_wp2_with fail
    refine (rnew_ok Q hQ _).mono ?_
    rintro e w3 ⟨r, rfl, k1, k2, k3, k4⟩
    have S0 : Hid (Side w1 p r.p none ⟨[], [], Q⟩ ⟨[], [], 1, Q⟩ w3) := side_start H1.out k1 k2 k3 k4
    clear k1 k2 k3 k4 H1
    generalize r.p = pr at *
    unfold arV
    go_wp2_with fail
    go_loopw [9] (fun i wr => ∃ (j : Nat) (a : Abs) (ra : RAbs), j ≤ len ∧ j ≤ 200 ∧ i = .int .i64 (j : Int) ∧ Hid (Side w1 p pr none a ra wr) ∧ Hid (Rel a ra)) (fun i _ => 200 - (intOf i).toNat)
    case atStart => exact ⟨0, _, _, by omega, by omega, rfl, S0.out, rel_new Q⟩
    case round =>
      obtain ⟨j, a, ra, hj, hj2, rfl, HH, HR⟩ := hrel
      clear S0
      by_cases hlt : j < len ∧ j < 200
      · obtain ⟨hlt, hlt2⟩ := hlt
        obtain ⟨b, o, rfl, hb1, cK, cN, cL, cB⟩ := (HS.out.below HH.out.B) j hlt
        generalize (f j).K = K at *
        generalize (f j).N = N at *
        generalize (f j).L = L at *
        generalize (f j).B = c at *
        have S1 : Hid (Side w1 p pr (some (wr.heap.size, .cells #[.int .i64 K, .int .i64 N, .int .i64 L, .int .u8 (c.toNat : Int)] 32)) a ra (wr.alloc (.cells #[.int .i64 K, .int .i64 N, .int .i64 L, .int .u8 (c.toNat : Int)] 32))) := HH.out.var _
        clear HH
        go_wp2_with fail
        clear cK cN cL cB hb1
        generalize wr.alloc (.cells #[.int .i64 K, .int .i64 N, .int .i64 L, .int .u8 (c.toNat : Int)] 32) = w4 at *
        generalize wr.heap.size = bo at *
        obtain ⟨v0, v1, v2, v3⟩ := var_cells S1.out.at
        refine (s_at_any S1.out HR.out N).mono ?_
        rintro e w5 ⟨z, rfl, rfl, hz⟩
        have HZ : Hid (AtP a ra N z) := hz
        clear hz
        obtain ⟨VV, hVV⟩ : ∃ VV : Option (Nat × Obj), Hid (VV = (some (bo, Obj.cells #[.int .i64 K, .int .i64 N, .int .i64 L, .int .u8 (c.toNat : Int)] 32))) := ⟨_, rfl⟩
        rw [← hVV.out] at S1
        go_upto_block 2 with fail
        go_cut [11] (fun s11 wx => s11 = .bool true ∧ CutP w1 p pr VV wx)
        case first =>
          have hk : K = 0 ∨ K = 1 ∨ K = 2 ∨ K = 3 ∨ K = 4 ∨ (K ≠ 0 ∧ K ≠ 1 ∧ K ≠ 2 ∧ K ≠ 3 ∧ K ≠ 4) := by omega
          rcases hk with rfl | rfl | rfl | rfl | rfl | hk
          · as_aux_lemma =>
              by_cases hl : 0 < a.left
              · go_wp2_with fail
                refine (s_alloc S1.out hl).mono ?_
                rintro e w6 ⟨rfl, H⟩
                have S2 : Hid (Side w1 p pr VV a.alloc ra w6) := H
                clear H
                obtain ⟨nx, hnx⟩ : ∃ nx : Nat, Hid (nx = a.next) := ⟨_, rfl⟩
                rw [← hnx.out]
                have HC := s_ralloc S2.out HR.out S1.out.ok hl
                rw [← hnx.out] at HC
                unfold nv at *
                clear v0 v1 v2 v3
                go_wp2_with fail
                refine HC.mono ?_
                rintro e w7 ⟨rfl, H⟩
                clear HC
                have S3 : Hid (Side w1 p pr VV a.alloc ra.alloc w7) := H
                clear H
                go_wp2_with fail
                go_meet
                case rel => exact ⟨rfl, a.alloc, ra.alloc, S3.out, rel_alloc HR.out S1.out.ok⟩
              · have hl0 : a.left = 0 := by omega
                go_wp2_with fail
                refine (s_full S1.out hl0).mono ?_
                rintro e w6 ⟨rfl, H⟩
                have S2 : Hid (Side w1 p pr VV a ra w6) := H
                clear H
                clear v0 v1 v2 v3
                go_wp2_with fail
                refine (s_rfull S2.out HR.out hl0).mono ?_
                rintro e w7 ⟨rfl, H⟩
                have S3 : Hid (Side w1 p pr VV a ra w7) := H
                clear H
                go_wp2_with fail
                go_meet
                case rel => exact ⟨rfl, a, ra, S3.out, HR.out⟩
          · as_aux_lemma =>
              rcases HZ.out with ⟨ha, rfl⟩ | ⟨m, jj, c0, rfl, hjj, ha, rfl⟩
              · go_wp2_with fail
                refine (s_free_no S1.out ha).mono ?_
                rintro e w6 ⟨rfl, H⟩
                have S2 : Hid (Side w1 p pr VV a ra w6) := H
                clear H
                obtain ⟨v0, v1, v2, v3⟩ := side_cells hVV.out S2.out
                go_wp2_with fail
                refine (s_rdrop_no S2.out HR.out S1.out.ok ha).mono ?_
                rintro e w7 ⟨rfl, H⟩
                have S3 : Hid (Side w1 p pr VV a ra w7) := H
                clear H
                go_wp2_with fail
                go_meet
                case rel => exact ⟨rfl, a, ra, S3.out, HR.out⟩
              · go_wp2_with fail
                refine (s_free S1.out ha).mono ?_
                rintro e w6 ⟨rfl, H⟩
                rw [Int.toNat_natCast] at H
                have S2 : Hid (Side w1 p pr VV (a.free m) ra w6) := H
                clear H
                obtain ⟨v0, v1, v2, v3⟩ := side_cells hVV.out S2.out
                go_wp2_with fail
                refine (s_rdrop S2.out HR.out S1.out.ok hjj).mono ?_
                rintro e w7 ⟨rfl, H⟩
                have S3 : Hid (Side w1 p pr VV (a.free m) (ra.drop jj m) w7) := H
                clear H
                go_wp2_with fail
                go_meet
                case rel => exact ⟨rfl, (a.free m), (ra.drop jj m), S3.out, rel_drop HR.out hjj⟩
          · as_aux_lemma =>
              by_cases hL : L < 0 ∨ 3000 < L
              · rcases hL with hL | hL
                · go_wp2_with fail
                  exact ⟨⟨j + 1, a, ra, by omega, by omega, by go_num, S1.out.drop, HR.out⟩, by simp [intOf]; omega⟩
                · have hL0 : ¬ L < 0 := by omega
                  go_wp2_with fail
                  exact ⟨⟨j + 1, a, ra, by omega, by omega, by go_num, S1.out.drop, HR.out⟩, by simp [intOf]; omega⟩
              · obtain ⟨l, rfl, hl3⟩ : ∃ l : Nat, L = (l : Int) ∧ l ≤ 3000 := ⟨L.toNat, by omega, by omega⟩
                clear hL
                rcases HZ.out with ⟨ha, rfl⟩ | ⟨m, jj, c0, rfl, hjj, ha, rfl⟩
                · have XD : Side w1 p pr VV a ra w5.drew := S1.out.below (Below.refl _ _).drew
                  have KS : ∀ a' w', Side w1 p pr VV a' ra w' → w'.cell? ⟨bo, 1, none⟩ = some (.int .i64 N) ∧ w'.cell? ⟨bo, 2, none⟩ = some (.int .i64 (l : Int)) ∧ w'.cell? ⟨bo, 3, none⟩ = some (.int .u8 (c.toNat : Int)) := fun a' w' h => (side_cells hVV.out h).2
                  go_wp2_with fail
                  go_region_held (fun w' => w'.cell? ⟨bo, 1, none⟩ = some (.int .i64 N) ∧ w'.cell? ⟨bo, 2, none⟩ = some (.int .i64 (l : Int)) ∧ w'.cell? ⟨bo, 3, none⟩ = some (.int .u8 (c.toNat : Int))) (exact KS _ _ (by assumption)) (first
                    | (go_at_call 17; refine (s_bytes c _ hl3 XD).mono ?_; rintro e w6 ⟨bb, vb, rfl, hbs, hS⟩)
                    | (go_at_call 16; refine (s_store_no hS ha vb).mono ?_; rintro e w7 ⟨rfl, hS7⟩))
                  have S2 : Hid (Side w1 p pr VV a ra w7) := hS7
                  clear KS XD hS hbs hS7
                  go_wp2_with fail
                  go_meet
                  case rel => exact ⟨rfl, a, ra, S2.out, HR.out⟩
                · by_cases h1024 : l = 1024
                  · subst h1024
                    have XD : Side w1 p pr VV a ra w5.drew := S1.out.below (Below.refl _ _).drew
                    have KS : ∀ a' w', Side w1 p pr VV a' ra w' → w'.cell? ⟨bo, 1, none⟩ = some (.int .i64 (m : Int)) ∧ w'.cell? ⟨bo, 2, none⟩ = some (.int .i64 1024) ∧ w'.cell? ⟨bo, 3, none⟩ = some (.int .u8 (c.toNat : Int)) := fun a' w' h => (side_cells hVV.out h).2
                    go_wp2_with fail
                    go_region_held (fun w' => w'.cell? ⟨bo, 1, none⟩ = some (.int .i64 (m : Int)) ∧ w'.cell? ⟨bo, 2, none⟩ = some (.int .i64 1024) ∧ w'.cell? ⟨bo, 3, none⟩ = some (.int .u8 (c.toNat : Int))) (exact KS _ _ (by assumption)) (first
                      | (go_at_call 17; refine (s_bytes c _ hl3 XD).mono ?_; rintro e w6 ⟨bb, vb, rfl, hbs, hS⟩)
                      | (go_at_call 16; refine (s_store hS ha hbs List.length_replicate).mono ?_; rintro e w7 ⟨rfl, hS7⟩))
                    rw [Int.toNat_natCast] at hS7
                    obtain ⟨rr, q1, q2, q3⟩ := hS7
                    subst q2
                    obtain ⟨g, cp, hjl, hcp, KC, KL, KE⟩ := lay_facts (d := List.replicate 1024 c) hVV.out hjj q3
                    have HJ : Hid (rr.L[jj]? = some (m, c0)) := hjj
                    have HRR : Hid (Rel a rr.abs) := HR.out
                    obtain ⟨G, hG⟩ : ∃ G : ByteArray, Hid (G = pstr (List.replicate 1024 c)) := ⟨_, rfl⟩
                    have HB7 := fun W (h : HG (PΦ w1 rr VV) p (a.lay m (some (List.replicate 1024 c))) W) => hg_bytes c h
                    rw [← hG.out] at KL
                    obtain ⟨A2, hA2⟩ : ∃ A2, Hid (A2 = a.lay m (some (List.replicate 1024 c))) := ⟨_, rfl⟩
                    rw [← hA2.out] at q3 KC KL KE HB7
                    rw [← hG.out] at HB7
                    have XD7 : HG (PΦ w1 rr VV) p A2 w7.drew := q3.below (p_stable _ _ _) (Below.refl _ _).drew
                    have KC0 : ∀ w', HG (PΦ w1 rr VV) p A2 w' → w'.cell? ⟨pr, 0, none⟩ = some (.slice (some ⟨g, 0, none⟩) rr.L.length cp) ∧ w'.cell? ⟨bo, 3, none⟩ = some (.int .u8 (c.toNat : Int)) := fun w' h => by
                      have := KC w' rr.L h
                      rw [q1] at this
                      exact this
                    have KC1 : ∀ w', HG (PΦ w1 rr VV) p A2 w' → (w'.setCell ⟨g, jj * 2 + 1, none⟩ (.string G)).cell? ⟨pr, 0, none⟩ = some (.slice (some ⟨g, 0, none⟩) rr.L.length cp) ∧ (w'.setCell ⟨g, jj * 2 + 1, none⟩ (.string G)).cell? ⟨bo, 3, none⟩ = some (.int .u8 (c.toNat : Int)) := fun w' h => by
                      have := KC _ _ (KL w' h)
                      rw [← q1]
                      exact this
                    clear KS XD hS hbs HR HZ
                    go_wp2_with fail
                    go_region_held (fun w' => w'.cell? ⟨pr, 0, none⟩ = some (.slice (some ⟨g, 0, none⟩) rr.L.length cp) ∧ w'.cell? ⟨bo, 3, none⟩ = some (.int .u8 (c.toNat : Int))) (first | exact KC0 _ (by assumption) | exact KC1 _ (by assumption)) (first
                      | (go_at_call 17; refine (HB7 _ XD7).mono ?_; rintro e w8 ⟨bn, rfl, hcv, hg8⟩; obtain ⟨⟨uu, hu8⟩, hf8⟩ := KE w8 hg8))
                    have S3 : Hid (Side w1 p pr VV A2 (rr.abs.lay jj m (List.replicate 1024 c)) (w8.setCell ⟨g, jj * 2 + 1, none⟩ (.string G))) := ⟨{ rr with L := rr.L.set jj (m, List.replicate 1024 c) }, q1, rfl, KL _ hg8⟩
                    have R3 : Hid (Rel A2 (rr.abs.lay jj m (List.replicate 1024 c))) := by rw [hA2.out]; exact rel_lay HRR.out HJ.out
                    clear KC KL KE HB7 KC0 KC1
                    go_wp2_with fail
                    go_meet
                    case rel => exact ⟨rfl, A2, _, S3.out, R3.out⟩
                  · have h1024' : ((l : Int) == 1024) = false := by rw [beq_eq_false_iff_ne]; omega
                    have XD : Side w1 p pr VV a ra w5.drew := S1.out.below (Below.refl _ _).drew
                    have KS : ∀ a' w', Side w1 p pr VV a' ra w' → w'.cell? ⟨bo, 1, none⟩ = some (.int .i64 (m : Int)) ∧ w'.cell? ⟨bo, 2, none⟩ = some (.int .i64 (l : Int)) ∧ w'.cell? ⟨bo, 3, none⟩ = some (.int .u8 (c.toNat : Int)) := fun a' w' h => (side_cells hVV.out h).2
                    go_wp2_with fail
                    go_region_held (fun w' => w'.cell? ⟨bo, 1, none⟩ = some (.int .i64 (m : Int)) ∧ w'.cell? ⟨bo, 2, none⟩ = some (.int .i64 (l : Int)) ∧ w'.cell? ⟨bo, 3, none⟩ = some (.int .u8 (c.toNat : Int))) (exact KS _ _ (by assumption)) (first
                      | (go_at_call 17; refine (s_bytes c _ hl3 XD).mono ?_; rintro e w6 ⟨bb, vb, rfl, hbs, hS⟩)
                      | (go_at_call 16; refine (s_store_long hS ha hbs (by rw [List.length_replicate]; exact h1024)).mono ?_; rintro e w7 ⟨rfl, hS7⟩))
                    have S2 : Hid (Side w1 p pr VV a ra w7) := hS7
                    obtain ⟨v0, v1, v2, v3⟩ := side_cells hVV.out S2.out
                    clear KS XD hS hbs hS7
                    go_wp2_with fail
                    go_meet
                    case rel => exact ⟨rfl, a, ra, S2.out, HR.out⟩
          · as_aux_lemma =>
              rcases HZ.out with ⟨ha, rfl⟩ | ⟨m, jj, c0, rfl, hjj, ha, rfl⟩
              · go_wp2_with fail
                refine (s_load_no S1.out ha).mono ?_
                rintro e w6 ⟨rfl, H⟩
                have S2 : Hid (Side w1 p pr VV a ra w6) := H
                clear H
                clear v0 v1 v2 v3
                go_wp2_with fail
                go_quiet (fail)
                have S3 : Hid (Side w1 p pr VV a ra (w6.drewN nq)) := S2.out.below (below_drewN (Below.refl _ _) _)
                go_wp2_with fail
                go_meet
                case rel => exact ⟨rfl, a, ra, S3.out, HR.out⟩
              · go_wp2_with fail
                refine (s_load S1.out ha).mono ?_
                rintro e w6 ⟨rfl, hp6, H⟩
                have S2 : Hid (Side w1 p pr VV a ra w6) := H
                clear H
                have hlen : c0.length = 1024 := S2.out.ok.len c0 (List.mem_of_getElem? (Abs.at_some ha).2.2)
                obtain ⟨G, hG⟩ : ∃ G : ByteArray, Hid (G = pstr c0) := ⟨_, rfl⟩
                obtain ⟨b1, hb1⟩ : ∃ b1 : Nat, Hid (b1 = w5.heap.size) := ⟨_, rfl⟩
                rw [← hb1.out] at hp6
                rw [← hb1.out]
                have hcv : ∀ n, (convert 40 9 (.slice (some ⟨b1, 0, none⟩) 1024 1024)).run Try.prog (w6.drewN n) = .ok (.string G) (w6.drewN n) := fun n => by
                  have hx : (w6.drewN n).heap[b1]? = some (.cells (bcs c0).toArray 71 (0, 0)) := hp6
                  have := conv_bs hx 1024
                  rw [hlen] at this
                  rw [hG.out]
                  exact this
                obtain ⟨rr, q1, q2, q3⟩ := S2.out.rf
                obtain ⟨g, cp, e, hg, hjl, hcp, _, x1, _⟩ := q3.page (show rr.L[jj]? = some (m, c0) by rw [show rr.L = ra.L from congrArg RAbs.L q2]; exact hjj)
                have d0 := q3.cell.1
                rw [q1, e] at d0
                rw [show pstr (m, c0).2 = G from hG.out.symm] at x1
                clear v0 v1 v2 v3 e q3 hp6
                have hd1 : decide ((jj : Int) < 0) = false := by simp
                have hd2 : decide ((0 : Int) ≤ (jj : Int)) = true := by simp
                go_wp2_with fail
                go_quiet (fail)
                have S3 : Hid (Side w1 p pr VV a ra (w6.drewN nq)) := S2.out.below (below_drewN (Below.refl _ _) _)
                clear hcv
                go_wp2_with fail
                go_meet
                case rel => exact ⟨rfl, a, ra, S3.out, HR.out⟩
          · as_aux_lemma =>
              cases hm : mayB N
              · go_wp2_with fail
                refine (s_limit_no S1.out hm).mono ?_
                rintro e w6 ⟨rfl, H⟩
                have S2 : Hid (Side w1 p pr VV a ra w6) := H
                clear H
                obtain ⟨v0, v1, v2, v3⟩ := side_cells hVV.out S2.out
                unfold mayB at hm
                simp at hm
                by_cases hN : 0 ≤ N
                · have hN2 : 4096 < N := hm hN
                  clear hm
                  go_wp2_with fail
                  go_meet
                  case rel => exact ⟨rfl, a, ra, S2.out, HR.out⟩
                · clear hm
                  go_wp2_with fail
                  go_meet
                  case rel => exact ⟨rfl, a, ra, S2.out, HR.out⟩
              · obtain ⟨n, rfl, hn4⟩ : ∃ n : Nat, N = (n : Int) ∧ n ≤ 4096 := by
                  unfold mayB at hm
                  simp at hm
                  exact ⟨N.toNat, by omega, by omega⟩
                clear hm
                go_wp2_with fail
                refine (s_limit S1.out n hn4).mono ?_
                rintro e w6 ⟨rfl, H⟩
                have S2 : Hid (Side w1 p pr VV { a with q := n } ra w6) := H
                clear H
                obtain ⟨v0, v1, v2, v3⟩ := side_cells hVV.out S2.out
                obtain ⟨rr, q1, q2, q3⟩ := S2.out.rf
                obtain ⟨_, _, _, d3, hp6, hf6⟩ := q3.cell
                rw [q1] at d3 hp6 hf6
                have S3 : Hid (Side w1 p pr VV { a with q := n } { ra with q := n } (w6.setCell ⟨pr, 3, none⟩ (.int .i64 (n : Int)))) := S2.out.quota n
                clear q3
                go_wp2_with fail
                go_meet
                case rel => exact ⟨rfl, { a with q := n }, { ra with q := n }, S3.out, rel_limit HR.out n⟩
          · as_aux_lemma =>
              have k0 : (K == 0) = false := by rw [beq_eq_false_iff_ne]; exact hk.1
              have k1 : (K == 1) = false := by rw [beq_eq_false_iff_ne]; exact hk.2.1
              have k2 : (K == 2) = false := by rw [beq_eq_false_iff_ne]; exact hk.2.2.1
              have k3 : (K == 3) = false := by rw [beq_eq_false_iff_ne]; exact hk.2.2.2.1
              have k4 : (K == 4) = false := by rw [beq_eq_false_iff_ne]; exact hk.2.2.2.2
              clear hk
              go_wp2_with fail
              go_meet
              case rel => exact ⟨rfl, a, ra, S1.out, HR.out⟩
        case rest =>
          obtain ⟨rfl, a', ra', y1, y2⟩ := hcut
          have S2 : Hid (Side w1 p pr VV a' ra' wc) := y1
          have R2 : Hid (Rel a' ra') := y2
          clear y1 y2 S1 HR HZ v0 v1 v2 v3
          as_aux_lemma =>
            obtain ⟨rr, x1, x2, x3⟩ := S2.out
            have RL : Hid (Rel a' rr.abs) := by rw [x2]; exact R2.out
            have X3 : Hid (HG (PΦ w1 rr VV) p a' wc) := x3
            have XD : Hid (HG (PΦ w1 rr VV) p a' wc.drew) := x3.below (p_stable _ _ _) (Below.refl _ _).drew
            obtain ⟨al, cl, hKS, HU, HL, HP, HRP, HSM⟩ := plays_facts (w0 := w1) (v := VV) (p := p) RL.out x1
            have KS := hKS X3.out.ok
            clear hKS x3
            obtain ⟨uu, huu⟩ : ∃ uu : Nat, Hid (uu = a'.used) := ⟨_, rfl⟩
            obtain ⟨ll, hll⟩ : ∃ ll : Nat, Hid (ll = a'.left) := ⟨_, rfl⟩
            obtain ⟨qq, hqq⟩ : ∃ qq : Nat, Hid (qq = a'.q) := ⟨_, rfl⟩
            have hmx : (if (qq : Int) - (uu : Int) < 0 then (0 : Int) else (qq : Int) - (uu : Int)) = (ll : Int) := by rw [hll.out, hqq.out, huu.out]; unfold Abs.left; split <;> omega
            have hwq : IntKind.i64.wrap ((qq : Int) - (uu : Int)) = (qq : Int) - (uu : Int) := by
              have := X3.out.ok.quota
              have h2 := X3.out.ok.small
              have h3 : a'.used ≤ a'.pg.length := Nat.sub_le _ _
              rw [hqq.out, huu.out, IntKind.wrap_i64]
              omega
            rw [← huu.out, ← hqq.out] at KS
            rw [← huu.out] at HU
            rw [← hll.out] at HL
            have hxd := XD.out
            go_wp2_with fail
            go_region_held (fun w' => HG (PΦ w1 rr VV) p a' w' ∧ w'.cell? ⟨pr, 0, none⟩ = some (.slice al uu cl) ∧ w'.cell? ⟨pr, 3, none⟩ = some (.int .i64 (qq : Int))) (exact KS _ (by assumption)) (first
              | (go_at_call 20; refine (HU _ (by assumption)).mono ?_; rintro e wa ⟨rfl, ha, ba⟩)
              | (go_at_call 21; refine (HL _ (by assumption)).mono ?_; rintro e wb ⟨rfl, ha, ba⟩)
              | (go_at_call 23; refine (HP _ (by assumption)).mono ?_; rintro e wc ⟨vc, rfl, ic, ha, bc⟩)
              | (go_at_call 24; refine (HRP _ (by assumption)).mono ?_; rintro e wd ⟨vd, rfl, id, ha, bd⟩)
              | (go_at_call 22; refine (HSM _ _ _ _ _ (by assumption) (IS.below ic bd) id).mono ?_; rintro e we ⟨rfl, ha, be⟩))
            all_goals
              have HF : Hid (Side w1 p pr none a' ra' we) := Side.drop ⟨rr, x1, x2, by assumption⟩
              clear KS HU HL HP HRP HSM hxd
              first
                | exact ⟨⟨j + 1, _, _, by omega, by omega, by go_num, HF.out, R2.out⟩, by simp [intOf]; omega⟩
                | (go_wp2_with fail
                   go_roundw
                   case rel => exact ⟨j + 1, _, _, by omega, by omega, by go_num, HF.out, R2.out⟩
                   case measure => simp [intOf]; omega)
      · have hend : Hid (¬ (j < len ∧ j < 200)) := hlt
        have hcs : (j < len ∧ (200 : Int) ≤ (j : Int)) ∨ (¬ j < len ∧ (len : Int) ≤ (j : Int)) := by have := hend.out; omega
        clear hlt
        rcases hcs with ⟨h1, h2⟩ | ⟨h1, h2⟩
        all_goals
          go_wp2_with fail
          go_ret
          exact ⟨rfl, below_on HB.out HH.out.B⟩
end Go.Proofs.Ytcoehlnmaehhjaa
