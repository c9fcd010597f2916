/-
  The walk of the book's run.
-/
import Derived.Test.YtlkodnhkhhgimaaRunsH
import Derived.Test.YtlkodnhkhhgimaaFirstB
namespace Go.Proofs.Ytlkodnhkhhgimaa
open Go.RowKit

/-- What holds at the head of a round. -/
structure RunRnd (w0 : World) (bk : Nat) (w : World) (s : Bk) (l d r : List Stp) (s' : Bk) (ns : List Mk) (wr : World) : Prop where
  split : l = d ++ r
  P : (bkSt w0.heap.size bk).P s' wr
  move : Moves (bkSt w0.heap.size bk) s s' (w.alloc (bbox bk)) wr
  ms : s'.ms = s.ms ++ ns
  sum : runL l = (ns ++ (runL r).1, (runL r).2)
  few : ns.length + 2 * szL r ≤ 2 * szL l
  bb : wr.heap[w.heap.size]? = some (bbox bk)
  old : Below w0.heap.size w0 wr

theorem RunRnd.next {w0 : World} {bk : Nat} (hbk : w0.heap.size ≤ bk) {w : World} {s : Bk} {l d r : List Stp} {t : Stp} {s' : Bk} {ns : List Mk} {wr : World} (h : RunRnd w0 bk w s l d (t :: r) s' ns wr) {v2 : Value} {m2 : List Mk} {w2 : World}
    (hP : (bkSt w0.heap.size bk).P ⟨v2, s'.ms ++ m2⟩ w2) (hm : Moves (bkSt w0.heap.size bk) s' ⟨v2, s'.ms ++ m2⟩ wr w2) (ht : runS t = (m2, 0, 0)) :
    RunRnd w0 bk w s l (d ++ [t]) r ⟨v2, s'.ms ++ m2⟩ (ns ++ m2) w2 := by
  have hl := runS_len t
  rw [ht] at hl
  simp only at hl
  refine ⟨by rw [h.split]; simp, hP, h.move.trans hm, by simp [h.ms], ?_, ?_, keep_block h.P hm (by decide) (by decide) h.bb, below_moves hbk h.old h.P hm⟩
  · rw [h.sum]; simp [runL, ht]
  · have := h.few
    simp only [szL] at this
    simp
    omega

theorem RunRnd.same {w0 : World} {bk : Nat} {w : World} {s : Bk} {l d r : List Stp} {t : Stp} {s' : Bk} {ns : List Mk} {wr w2 : World} (h : RunRnd w0 bk w s l d (t :: r) s' ns wr) (hb : Below wr.heap.size wr w2) (ht : runS t = ([], 0, 0)) :
    RunRnd w0 bk w s l (d ++ [t]) r s' ns w2 := by
  refine ⟨by rw [h.split]; simp, (bkSt w0.heap.size bk).below h.P hb, h.move.trans (Moves.below hb), h.ms, ?_, ?_, by rw [hb.block _ (lt_of_block h.bb)]; exact h.bb, h.old.trans (hb.mono h.old.size)⟩
  · rw [h.sum]; simp [runL, ht]
  · have := h.few
    simp only [szL] at this
    omega

/-- The end: all steps were done. -/
theorem RunRnd.done {w0 : World} {bk : Nat} {w : World} {s : Bk} {l d : List Stp} {s' : Bk} {ns : List Mk} {wr : World} (h : RunRnd w0 bk w s l d [] s' ns wr) :
    ∃ v', (bkSt w0.heap.size bk).P ⟨v', s.ms ++ (runL l).1⟩ wr ∧ Moves (bkSt w0.heap.size bk) s ⟨v', s.ms ++ (runL l).1⟩ w wr ∧ Outc (runL l).2.1 (runL l).2.2 (.returned (.tuple #[])) := by
  have hsum := h.sum
  simp only [runL, List.append_nil] at hsum
  rw [hsum]
  have hms := h.ms
  have hP := h.P
  have hm := h.move
  cases s' with
  | mk v' ms' =>
    simp only at hms
    subst hms
    exact ⟨v', hP, (Moves.below ((Below.refl _ _).alloc (Nat.le_refl _) _)).trans hm, Or.inl ⟨rfl, rfl⟩⟩

/-- The end: a step stopped. -/
theorem RunRnd.stop {w0 : World} {bk : Nat} {w : World} {s : Bk} {l d r : List Stp} {t : Stp} {s' : Bk} {ns : List Mk} {wr w2 : World} (h : RunRnd w0 bk w s l d (t :: r) s' ns wr) (hb : Below wr.heap.size wr w2) {c a : Int} (ht : runS t = ([], c, a)) (hc : c ≠ 0) :
    ∃ v', (bkSt w0.heap.size bk).P ⟨v', s.ms ++ (runL l).1⟩ w2 ∧ Moves (bkSt w0.heap.size bk) s ⟨v', s.ms ++ (runL l).1⟩ w w2 ∧ Outc (runL l).2.1 (runL l).2.2 (.panicked (stopped c a)) := by
  have hsum := h.sum
  simp only [runL, ht, ne_eq, hc, not_false_eq_true, if_true, List.append_nil] at hsum
  rw [hsum]
  have hms := h.ms
  have hP := h.P
  have hm := h.move
  cases s' with
  | mk v' ms' =>
    simp only at hms
    subst hms
    exact ⟨v', (bkSt w0.heap.size bk).below hP hb, ((Moves.below ((Below.refl _ _).alloc (Nat.le_refl _) _)).trans hm).trans (Moves.below hb), Or.inr ⟨hc, rfl⟩⟩

set_option maxRecDepth 100000 in
set_option maxHeartbeats 4000000 in
theorem run_any (w0 : World) (bk : Nat) (hbk : w0.heap.size ≤ bk) : ∀ N, RunSaid w0 bk N := by
  intro N
  induction N with
  | zero => intro l x c w s hN; omega
  | succ N ih =>
    intro l x c w s hN hsz hms hlc hat hb hP
    have IH := hide ih
    have HAT := hide hat
    have HB := hide hb
    have HP := hide hP
    have hlen := len_le_sz l
    clear ih hat hb hP
    have hmf : ∀ (fn : Fn) (first cap : Array Value) (w : World), (Instr.makeFunc fn first cap).run Try.prog w = .ok (.func fn first cap) w := fun _ _ _ _ => rfl
    go_enter Try.func11, Try.ntmps11
    go_wp2_with fail
    go_loopw [12] (fun i wr => ∃ (d r : List Stp) (s' : Bk) (ns : List Mk), i = .int .i64 d.length ∧ RunRnd w0 bk w s l d r s' ns wr)
      (fun i _ => l.length - (intOf i).toNat)
    case atStart =>
      have hbw : Below w.heap.size w (w.alloc (bbox bk)) := (Below.refl _ _).alloc (Nat.le_refl _) _
      exact ⟨[], l, s, [], rfl, rfl, (bkSt w0.heap.size bk).below (unhide HP) hbw, Moves.refl _ _ _, by simp, rfl, by simp, heap_alloc_new w _, (unhide HB).trans (hbw.mono (unhide HB).size)⟩
    case round =>
      obtain ⟨d, r, s', ns, rfl, hr⟩ := hrel
      have hl := hr.split
      have HR := hide hr
      clear hr
      cases r with
      | nil =>
        rw [List.append_nil] at hl
        subst hl
        go_wp2_with fail
        go_end0
        exact (unhide HR).done
      | cons t r =>
        cases t with
        | mk sk sn sa si sb =>
        have hlt : d.length < l.length := by rw [hl]; simp
        have hszl : szL d + (1 + szL si + szL sb) + szL r = szL l := by rw [hl, szL_append]; simp [szL, szS]; omega
        have hlens : s'.ms.length + 2 * (1 + szL si + szL sb) ≤ 4000000 := by
          have h1 := (unhide HR).few
          simp only [szL, szS] at h1
          rw [(unhide HR).ms]
          simp
          omega
        obtain ⟨b, o, rfl, e0, e1, e2, ⟨x1, c1, hc1, e3, a1⟩, ⟨x2, c2, hc2, e4, a2⟩⟩ := (hl ▸ (unhide HAT)).at
        have hbr := (unhide HR).old
        have E0 := (hbr.cell (World.block_lt_of_cell? w0 _ e0)).trans e0
        have E1 := (hbr.cell (World.block_lt_of_cell? w0 _ e1)).trans e1
        have E2 := (hbr.cell (World.block_lt_of_cell? w0 _ e2)).trans e2
        have E3 := (hbr.cell (World.block_lt_of_cell? w0 _ e3)).trans e3
        have E4 := (hbr.cell (World.block_lt_of_cell? w0 _ e4)).trans e4
        rw [show o + 5 * d.length = o + d.length * 5 by omega] at E0 E1 E2 E3 E4
        clear e0 e1 e2 e3 e4 hl hbr
        have hbs : Below wr.heap.size wr (wr.alloc (stepO sk sn sa x1 si.length c1 x2 sb.length c2)) := (Below.refl _ _).alloc (Nat.le_refl _) _
        have HBS := hide hbs
        have cbb := cell_of_one (unhide HR).bb
        have lbb := lt_of_block (unhide HR).bb
        clear hbs
        by_cases h1 : sk = 1
        · subst h1
          by_cases hn : sn = 0
          · subst hn
            go_wp2_with (go_at_call 17; refine (stop_ok _ _).mono ?_; rintro e w' ⟨rfl, rfl⟩)
            go_roundw
            case rel => exact ⟨d ++ [_], r, s', ns, by simp, (unhide HR).same (unhide HBS) (by simp [runS])⟩
            case measure => simp [intOf]; omega
          · have hn' : (sn != 0) = true := by simpa using hn
            go_wp2_with (go_at_call 17; refine (stop_no _ _ hn' _).mono ?_; rintro e w' ⟨rfl, rfl⟩)
            exact ⟨rfl, (unhide HR).stop (unhide HBS) (by simp [runS, hn]) hn⟩
        · have hPd := (bkSt w0.heap.size bk).below (unhide HR).P ((unhide HBS).drew)
          have hbd := (unhide HR).old.trans (((unhide HBS).drew).mono (unhide HR).old.size)
          have hBBd : (wr.alloc (stepO sk sn sa x1 si.length c1 x2 sb.length c2)).drew.heap[w.heap.size]? = some (bbox bk) := ((unhide HBS).block _ lbb).trans (unhide HR).bb
          have hSBd : (wr.alloc (stepO sk sn sa x1 si.length c1 x2 sb.length c2)).drew.heap[wr.heap.size]? = some (stepO sk sn sa x1 si.length c1 x2 sb.length c2) := heap_alloc_new wr _
          have hN0 : w0.heap.size ≤ (wr.alloc (stepO sk sn sa x1 si.length c1 x2 sb.length c2)).drew.heap.size := hbd.size
          have HMd : Hid (Moves (bkSt w0.heap.size bk) s' s' wr (wr.alloc (stepO sk sn sa x1 si.length c1 x2 sb.length c2)).drew) := Moves.below ((unhide HBS).drew)
          have HPd := hide hPd
          have Hbd := hide hbd
          have HBBd := hide hBBd
          have HSBd := hide hSBd
          have HN0 := hide hN0
          clear hPd hbd hBBd hSBd hN0
          by_cases h2 : sk = 2
          · subst h2
            have C := hide (catch_in (unhide IH) w.heap.size wr.heap.size (k := 2) (n := sn) (a := sa) (x2 := x2) (c2 := c2) (b := sb) s' (by omega) (by omega) (by omega) hc1 a1 _ (unhide Hbd) (unhide HPd) (unhide HBBd) (unhide HSBd))
            have hl1 := runL_len si
            have ht : runS (.mk 2 sn sa si sb) = ((runL si).1 ++ [(2, (runL si).2.1, (runL si).2.2)], 0, 0) := by simp [runS]
            have HT := hide ht
            clear ht
            generalize (runL si).1 = m1 at *
            generalize (runL si).2.1 = p1 at *
            generalize (runL si).2.2 = q1 at *
            go_wp2_with fail
            go_region_with (first
              | (go_at_call 9; refine (unhide C).mono ?_; rintro e w2 ⟨v2, rfl, hP2, hm2⟩; have HP2 := hide hP2; have HM2 := hide hm2; have hx2 := cell_of_one (keep_block (unhide HPd) hm2 (by decide) (by decide) (unhide HBBd)); clear hP2 hm2)
              | (go_at_call 27; refine (note_any w0.heap.size bk ⟨v2, s'.ms ++ m1⟩ 2 p1 q1 w2 (Nat.le_trans (unhide HN0) (unhide HM2).only.size) (unhide HP2) (by simp; omega)).mono ?_; rintro e w3 ⟨v3, rfl, hP3, hm3⟩; have HP3 := hide hP3; have HM3 := hide hm3; clear hP3 hm3))
            all_goals
              go_wp2_with fail
              go_roundw
              case rel =>
                have hP3 := unhide HP3
                have hM3 := (unhide HMd).trans ((unhide HM2).trans (unhide HM3))
                rw [List.append_assoc] at hP3 hM3
                exact ⟨d ++ [_], r, _, _, by simp, (unhide HR).next hbk hP3 hM3 (unhide HT)⟩
              case measure => simp [intOf]; omega
          · by_cases h3 : sk = 3
            · subst h3
              have C := hide (undo_in hbk (unhide IH) w.heap.size wr.heap.size (k := 3) (n := sn) (a := sa) s' (by omega) (by omega) (by omega) (by omega) (by omega) hc1 hc2 a1 a2 _ (unhide Hbd) (unhide HPd) (unhide HBBd) (unhide HSBd))
              have hst := runS_len (.mk 3 sn sa si sb)
              simp only [szS] at hst
              have HST := hide hst
              clear hst
              go_wp2_with fail
              go_region_with (first
                | (go_at_call 18; refine (unhide C).mono ?_; rintro e w2 ⟨v2, m1, p1, q1, rfl, ht, hP2, hm2⟩; have HT := hide ht; have hm1 : m1.length ≤ 2 * (1 + szL si + szL sb) := (by have h := unhide HST; rw [ht] at h; simp at h; omega); have HP2 := hide hP2; have HM2 := hide hm2; have hx2 := cell_of_one (keep_block (unhide HPd) hm2 (by decide) (by decide) (unhide HBBd)); clear hP2 hm2 ht)
                | (go_at_call 27; refine (note_any w0.heap.size bk ⟨v2, s'.ms ++ m1⟩ 3 p1 q1 w2 (Nat.le_trans (unhide HN0) (unhide HM2).only.size) (unhide HP2) (by simp; omega)).mono ?_; rintro e w3 ⟨v3, rfl, hP3, hm3⟩; have HP3 := hide hP3; have HM3 := hide hm3; clear hP3 hm3))
              all_goals
                go_wp2_with fail
                go_roundw
                case rel =>
                  have hP3 := unhide HP3
                  have hM3 := (unhide HMd).trans ((unhide HM2).trans (unhide HM3))
                  rw [List.append_assoc] at hP3 hM3
                  exact ⟨d ++ [_], r, _, _, by simp, (unhide HR).next hbk hP3 hM3 (unhide HT)⟩
                case measure => simp [intOf]; omega
            · by_cases h4 : sk = 4
              · subst h4
                have hli := len_le_sz si
                have hfl := firL_len si 0
                obtain ⟨wo, hwo⟩ : ∃ wo : World, Hid (wo = wr) := ⟨wr, rfl⟩
                have hx3 := (step_cells (unhide HSBd)).2.2.2.1
                obtain ⟨i0, hi, hz0, hz1, hz2⟩ := info_parts Try.infoFunc
                have HI := hide (And.intro hi (And.intro hz0 (And.intro hz1 hz2)))
                clear hi hz0 hz1 hz2
                go_wp2_with fail
                go_loopw [6, 55] (fun v i wi => ∃ (k : Nat) (ib : Nat → Nat), k ≤ si.length ∧ i = .int .i64 k ∧ RRnd w.heap.size wr.heap.size (wr.alloc (stepO 4 sn sa x1 si.length c1 x2 sb.length c2)) v k ib wi)
                  (fun _ i _ => si.length - (intOf i).toNat)
                case atStart => exact ⟨0, fun _ => 0, Nat.zero_le _, rfl, World.ownsRow_nil _ _ _ _, fun j hj => by omega, Below.refl _ _⟩
                case round =>
                  obtain ⟨k, ib, hk, rfl, hrr⟩ := hrel
                  have hown := hrr.row
                  have hzz := hrr.below.size
                  simp at hzz
                  have HRR := hide hrr
                  clear hrr
                  by_cases hlt2 : k < si.length
                  · go_wp2_with (at_builtin; refine wpList_append_own _ rfl _ _ 42 rfl _ 1 i0 .nilFunc 1 8 Try.underlying42 (unhide HI).1 (unhide HI).2.1 (unhide HI).2.2.1 (unhide HI).2.2.2 rfl (by decide) _ _ _ rfl ((hown.alloc _).alloc _) ⟨wr.heap.size + 1, 0, none⟩ 1 1 [.func (.func 31) #[] #[.pointer (some ⟨w.heap.size, 0, none⟩), .pointer (some ⟨_, 0, none⟩), .pointer (some ⟨wr.heap.size, 0, none⟩)]] rfl rfl (news_one _ _ _ _ (by simp)) (by simp [Value.oneCell']) (by unfold maxLen; omega) (by omega) (by simp; omega) ?_)
                    intro v' w2 hown' hgrow _
                    obtain ⟨ib', R⟩ := (unhide HRR).next (by simp) hown' hgrow
                    have RH := hide R
                    clear hown' hgrow hown R
                    go_wp2_with fail
                    go_roundw
                    case rel => exact ⟨k + 1, ib', by omega, by go_num, unhide RH⟩
                    case measure => simp [intOf]; omega
                  · have hkl : k = si.length := by omega
                    subst hkl
                    clear hlt2 hk
                    have hbi := (unhide HBS).trans ((unhide HRR).below.mono (unhide HBS).size)
                    have hPi := (bkSt w0.heap.size bk).below (unhide HR).P hbi
                    have HBi := hide hbi
                    have C := hide (first_in hbk (unhide IH) w.heap.size _ (k := 4) (n := sn) (a := sa) (x2 := x2) (c2 := c2) (b := sb) s' (by omega) (by omega) (by omega) hc1 a1 wr ((unhide HR).old.trans (hbi.mono (unhide HR).old.size)) hPi ((hbi.block _ lbb).trans (unhide HR).bb) (((unhide HRR).below.block _ (by simp)).trans (heap_alloc_new _ _)) _ _ ib (unhide HRR))
                    have ht : runS (.mk 4 sn sa si sb) = ((firL si 0).1 ++ [(4, (firL si 0).2.2.1, (firL si 0).2.2.2), (5, (firL si 0).2.1, 0)], 0, 0) := by simp [runS]
                    have HT := hide ht
                    have HPi := hide hPi
                    have HBBi := hide ((hbi.block _ lbb).trans (unhide HR).bb)
                    have HNi := hide (Nat.le_trans (unhide HR).old.size hbi.size)
                    clear ht hPi hbi hown HRR
                    generalize (firL si 0).1 = m1 at *
                    generalize (firL si 0).2.1 = kk at *
                    generalize (firL si 0).2.2.1 = cc at *
                    generalize (firL si 0).2.2.2 = aa at *
                    go_wp2_with fail
                    refine (unhide C).mono ?_
                    rintro e w2 ⟨v2, rfl, hP2, hm2⟩
                    have hb2 : Below w2.heap.size w2 (w2.alloc (.cells #[.int .i64 cc, .int .i64 aa] 31)) := (Below.refl _ _).alloc (Nat.le_refl _) _
                    have hB2 := keep_block (unhide HPi) hm2 (by decide) (by decide) (unhide HBBi)
                    have D := hide (note_any w0.heap.size bk ⟨v2, s'.ms ++ m1⟩ 4 cc aa _ (Nat.le_trans (Nat.le_trans (unhide HNi) hm2.only.size) hb2.size) ((bkSt w0.heap.size bk).below hP2 hb2) (by simp; omega))
                    have HM2 := hide (hm2.trans (Moves.below hb2))
                    have HP2 := hide ((bkSt w0.heap.size bk).below hP2 hb2)
                    have HB2 := hide ((hb2.block _ (lt_of_block hB2)).trans hB2)
                    have cb2 := cell_of_one hB2
                    have lb2 := lt_of_block hB2
                    clear hP2 hm2 hb2 hB2 C
                    simp only [faultV]
                    go_wp2_with fail
                    refine (unhide D).mono ?_
                    rintro e w3 ⟨v3, rfl, hP3, hm3⟩
                    obtain ⟨s3, hs3⟩ : ∃ s3 : Bk, s3 = ⟨v3, s'.ms ++ m1 ++ [(4, cc, aa)]⟩ := ⟨_, rfl⟩
                    rw [← hs3] at hP3 hm3
                    have hml : s3.ms.length ≤ 5000000 := by rw [hs3]; simp; omega
                    have HS3 : Hid (s3.ms = s'.ms ++ (m1 ++ [(4, cc, aa)])) := hide (by rw [hs3]; simp)
                    clear hs3
                    have hB3 := keep_block (unhide HP2) hm3 (by decide) (by decide) (unhide HB2)
                    have HM3 := hide ((unhide HM2).trans hm3)
                    have hN3 : w0.heap.size ≤ w3.heap.size := Nat.le_trans (unhide HNi) (unhide HM3).only.size
                    clear hm3 D cb2 lb2
                    obtain ⟨i1, hi1, hz01, hz11, hz21⟩ := info_parts Try.infoMark
                    have HI1 := hide (And.intro hi1 (And.intro hz01 (And.intro hz11 hz21)))
                    have HP3 := hide hP3
                    have cb := cell_of_one hP3.1
                    have fb := free_of_one hP3.1
                    have lb := lt_of_block hP3.1
                    have cbb3 := cell_of_one hB3
                    have lbb3 := lt_of_block hB3
                    have HB3 := hide hB3
                    have hW : ∀ o' : Obj, Hid (Below w3.heap.size w3 (w3.drew.alloc o')) := fun o' => ((Below.refl _ _).drew).alloc (by simp) _
                    clear hi1 hz01 hz11 hz21 hP3 hB3
                    have HQ : Hid (Moves (bkSt w0.heap.size bk) s' s3 wo w3) := by rw [unhide hwo]; exact (Moves.below (unhide HBi)).trans (unhide HM3)
                    go_wp2_with fail
                    go_region_law
                      ((refine step_append_lies _ (by rfl) (.tmp 75) (.tmp 78) 26 (by rfl) w0.heap.size 54 i1 _ 3 24 Try.underlying26 (unhide HI1).1 (unhide HI1).2.1 (unhide HI1).2.2.1 (unhide HI1).2.2.2 rfl (by decide) s3.v s3.ms.length (mksCells s3.ms) (by rfl) ((unhide HP3).2.alloc _) ⟨w3.heap.size, 0, none⟩ 1 1 (mksCells [(5, kk, 0)]) (by rfl) (by rfl) (news_mark _ _ (by simp) _) (mksCells_one _) (by decide) (by unfold maxLen; omega) (by omega) (by simp; omega) (w3.heap.size + 1) (by simp) ?_; intro g cap w4 hown1 hgrow hat hlt1; obtain ⟨y1, y2, y3⟩ := bk_far (unhide HP3) (unhide (hW _)) hgrow; have y6 := (hgrow.cell_far ⟨w.heap.size, 0, none⟩ (by simp; omega) (bk_other (unhide HP3) (by decide) (unhide HB3))); simp [go_sem, lbb3, cbb3] at y6; clear y3))
                    all_goals
                      obtain ⟨z1, z2⟩ := bk_next (ns := [(5, kk, 0)]) (unhide HP3) (unhide (hW _)) hown1 hgrow (by rcases hat with x | x; exact Or.inl x; exact Or.inr (by omega))
                      have Z1 := hide z1
                      have Z2 := hide ((unhide HQ).trans z2)
                      clear hown1 hgrow z1 z2
                      go_wp2_with fail
                      go_roundw
                      case rel =>
                        have hP3 := unhide Z1
                        have hM3 := unhide Z2
                        rw [unhide hwo] at hM3
                        have e3 : s3.ms ++ [(5, kk, 0)] = s'.ms ++ (m1 ++ [(4, cc, aa), (5, kk, 0)]) := by rw [unhide HS3]; simp
                        rw [e3] at hP3 hM3
                        exact ⟨d ++ [_], r, _, _, by simp, (unhide HR).next hbk hP3 hM3 (unhide HT)⟩
                      case measure => simp [intOf]; omega
              · have k1 : (sk == 1) = false := by simpa using h1
                have k2 : (sk == 2) = false := by simpa using h2
                have k3 : (sk == 3) = false := by simpa using h3
                have k4 : (sk == 4) = false := by simpa using h4
                obtain ⟨i0, hi, hz0, hz1, hz2⟩ := info_parts Try.infoMark
                have HI := hide (And.intro hi (And.intro hz0 (And.intro hz1 hz2)))
                clear hi hz0 hz1 hz2
                have cb := cell_of_one (unhide HR).P.1
                have fb := free_of_one (unhide HR).P.1
                have lb := lt_of_block (unhide HR).P.1
                have hW : ∀ o o' : Obj, Hid (Below wr.heap.size wr ((wr.alloc o).drew.alloc o')) := fun o o' => (((Below.refl _ _).alloc (Nat.le_refl _) _).drew).alloc (by simp) _
                have hN : w0.heap.size ≤ wr.heap.size := (unhide HR).old.size
                have ht : Hid (runS (.mk sk sn sa si sb) = ([(0, sn, 0)], 0, 0)) := by show _ = _; simp [runS, h1, h2, h3, h4]
                clear HPd Hbd HBBd HSBd HN0 HMd a1 a2 HAT HB HP IH
                go_wp2_with fail
                go_region_law
                  ((refine step_append_lies _ (by rfl) (.tmp 22) (.tmp 26) 26 (by rfl) w0.heap.size 54 i0 _ 3 24 Try.underlying26 (unhide HI).1 (unhide HI).2.1 (unhide HI).2.2.1 (unhide HI).2.2.2 rfl (by decide) s'.v s'.ms.length (mksCells s'.ms) (by rfl) (((unhide HR).P.2.alloc _).alloc _) ⟨wr.heap.size + 1, 0, none⟩ 1 1 (mksCells [(0, sn, 0)]) (by rfl) (by rfl) (news_mark _ _ (by simp) _) (mksCells_one _) (by decide) (by unfold maxLen; omega) (by omega) (by simp; omega) (wr.heap.size + 2) (by simp) ?_; intro g cap w1 hown1 hgrow hat hlt1; obtain ⟨y1, y2, y3⟩ := bk_far (unhide HR).P (unhide (hW _ _)) hgrow; have y6 := (hgrow.cell_far ⟨w.heap.size, 0, none⟩ (by simp; omega) (bk_other (unhide HR).P (by decide) (unhide HR).bb)); simp [go_sem, lbb, cbb] at y6; clear y3))
                all_goals
                  obtain ⟨z1, z2⟩ := bk_next (ns := [(0, sn, 0)]) (unhide HR).P (unhide (hW _ _)) hown1 hgrow (by rcases hat with x | x; exact Or.inl x; exact Or.inr (by omega))
                  have Z1 := hide z1
                  have Z2 := hide z2
                  clear hown1 hgrow z1 z2
                  go_wp2_with fail
                  go_roundw
                  case rel => exact ⟨d ++ [_], r, _, _, by simp, (unhide HR).next hbk (unhide Z1) (unhide Z2) (unhide ht)⟩
                  case measure => simp [intOf]; omega

end Go.Proofs.Ytlkodnhkhhgimaa
