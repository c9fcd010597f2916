/-
  The walk of the document's answer (tripwireref01.Run).
-/
import Derived.Test.YtlkodnhkhhgimaaRunsC
namespace Go.Proofs.Ytlkodnhkhhgimaa
open Go.RowKit

/-- What a call of Run does, of lists of fewer than N steps in all. -/
def RefSaid (w0 : World) (N : Nat) : Prop := ∀ (l : List Stp) (x : Option Addr) (c : Nat) (w : World), szL l < N → szL l ≤ 1000000 → l.length ≤ c → StepsAt w0 x l → Below w0.heap.size w0 w →
    Calls Try.prog 12 #[.slice x l.length c] w fun e w' => ∃ v, e = .returned (.tuple #[v, .int .i64 (runL l).2.1, .int .i64 (runL l).2.2]) ∧ OutAt w.heap.size w v (runL l).1 w'

/-- What holds at the head of a round. -/
structure RefRnd (w0 w : World) (l d r : List Stp) (v : Value) (ms : List Mk) (wr : World) : Prop where
  split : l = d ++ r
  out : OutAt w.heap.size w v ms wr
  sum : runL l = (ms ++ (runL r).1, (runL r).2)
  few : ms.length + 2 * szL r ≤ 2 * szL l
  old : Below w0.heap.size w0 wr

theorem RefRnd.next {w0 w : World} {l d r : List Stp} {s : Stp} {v v' : Value} {ms ns : List Mk} {wr w' : World} (h : RefRnd w0 w l d (s :: r) v ms wr) (hO : OutAt w.heap.size w v' (ms ++ ns) w') (hn : (runS s).1 = ns) (hc : (runS s).2.1 = 0) (hb : Below w0.heap.size w0 w') :
    RefRnd w0 w l (d ++ [s]) r v' (ms ++ ns) w' := by
  subst hn
  have hl := runS_len s
  refine ⟨by rw [h.split]; simp, hO, ?_, ?_, hb⟩
  · rw [h.sum]
    simp only [runL]
    rw [if_neg (by simpa using hc)]
    simp
  · have := h.few
    simp only [szL] at this
    simp
    omega

theorem RefRnd.stop {w0 w : World} {l d r : List Stp} {s : Stp} {v : Value} {ms : List Mk} {wr : World} (h : RefRnd w0 w l d (s :: r) v ms wr) (hc : (runS s).2.1 ≠ 0) : runL l = (ms ++ (runS s).1, (runS s).2) := by
  rw [h.sum]
  simp only [runL]
  rw [if_pos hc]

theorem ref_end {l : List Stp} {B : Nat} {w W : World} {v : Value} {ms : List Mk} {c a : Int} (hs : runL l = (ms, c, a)) (hO : OutAt B w v ms W) :
    ∃ v', Ending.returned (.tuple #[v, .int .i64 c, .int .i64 a]) = .returned (.tuple #[v', .int .i64 (runL l).2.1, .int .i64 (runL l).2.2]) ∧ OutAt B w v' (runL l).1 W := by
  rw [hs]; exact ⟨v, rfl, hO⟩

theorem OutAt.drewN {B : Nat} {w : World} {v : Value} {ms : List Mk} {W : World} (h : OutAt B w v ms W) (n : Nat) : OutAt B w v ms (W.drewN n) := h.sub (below_drewN (Below.refl _ _) n)

theorem OutAt.alloc {B : Nat} {w : World} {v : Value} {ms : List Mk} {W : World} (h : OutAt B w v ms W) (o : Obj) : OutAt B w v ms (W.alloc o) := h.sub ((Below.refl _ _).alloc (Nat.le_refl _) o)

/-- A call of Run on steps within, with names for what it answers. -/
theorem ref_call {w0 : World} {N : Nat} (ih : RefSaid w0 N) {l : List Stp} {x : Option Addr} {c : Nat} (h1 : szL l < N) (h2 : szL l ≤ 1000000) (h3 : l.length ≤ c) (h4 : StepsAt w0 x l) :
    ∃ m p q, runL l = (m, p, q) ∧ m.length ≤ 2 * szL l ∧ (p = 0 → q = 0) ∧ ∀ W, Below w0.heap.size w0 W → Calls Try.prog 12 #[.slice x l.length c] W fun e w' => ∃ g cap, e = .returned (.tuple #[.slice (some ⟨g, 0, none⟩) m.length cap, .int .i64 p, .int .i64 q]) ∧
      Below W.heap.size W w' ∧ ∀ j u, (mksCells m)[j]? = some u → w'.cell? ((⟨g, 0, none⟩ : Addr).add j) = some u := by
  refine ⟨(runL l).1, (runL l).2.1, (runL l).2.2, rfl, runL_len l, runL_zero l, fun W hW => ?_⟩
  refine (ih l x c W h1 h2 h3 h4 hW).mono ?_
  rintro e w' ⟨v, rfl, hO⟩
  obtain ⟨g, cap, rfl, -, -, hc⟩ := hO.form
  exact ⟨g, cap, rfl, hO.below, hc⟩

/-- What holds at the head of a round of First's loop. -/
structure FirRnd (B : Nat) (w : World) (si d r : List Stp) (ms ns : List Mk) (v : Value) (kk cc aa : Int) (sb : Nat) (so : Obj) (W : World) : Prop where
  split : si = d ++ r
  out : OutAt B w v (ms ++ ns) W
  step : W.heap[sb]? = some so
  few : ns.length + 2 * szL r ≤ 2 * szL si
  now : (cc = 0 ∧ aa = 0 ∧ kk = -1 ∧ firL si 0 = (ns ++ (firL r d.length).1, (firL r d.length).2)) ∨ (cc ≠ 0 ∧ firL si 0 = (ns, kk, cc, aa))

theorem FirRnd.next {B : Nat} {w : World} {si d r : List Stp} {s : Stp} {ms ns m : List Mk} {v v' : Value} {sb : Nat} {so : Obj} {W W' : World} (h : FirRnd B w si d (s :: r) ms ns v (-1) 0 0 sb so W)
    (hsum : firL si 0 = (ns ++ (firL (s :: r) d.length).1, (firL (s :: r) d.length).2)) (hs : runS s = (m, 0, 0)) (hO : OutAt B w v' (ms ++ ns ++ m) W') (hstep : W'.heap[sb]? = some so) :
    FirRnd B w si (d ++ [s]) r ms (ns ++ m) v' (-1) 0 0 sb so W' := by
  have hl := runS_len s
  rw [hs] at hl
  simp only at hl
  refine ⟨by rw [h.split]; simp, by rw [← List.append_assoc]; exact hO, hstep, ?_, Or.inl ⟨rfl, rfl, rfl, ?_⟩⟩
  · have := h.few
    simp only [szL] at this
    simp
    omega
  · rw [hsum]
    simp [firL, hs]

theorem FirRnd.stop {B : Nat} {w : World} {si d r : List Stp} {s : Stp} {ms ns m : List Mk} {v v' : Value} {p q : Int} {sb : Nat} {so : Obj} {W W' : World} (h : FirRnd B w si d (s :: r) ms ns v (-1) 0 0 sb so W)
    (hsum : firL si 0 = (ns ++ (firL (s :: r) d.length).1, (firL (s :: r) d.length).2)) (hs : runS s = (m, p, q)) (hp : p ≠ 0) (hO : OutAt B w v' (ms ++ ns ++ m) W') (hstep : W'.heap[sb]? = some so) :
    FirRnd B w si (d ++ [s]) r ms (ns ++ m) v' d.length p q sb so W' := by
  have hl := runS_len s
  rw [hs] at hl
  simp only at hl
  refine ⟨by rw [h.split]; simp, by rw [← List.append_assoc]; exact hO, hstep, ?_, Or.inr ⟨hp, ?_⟩⟩
  · have := h.few
    simp only [szL] at this
    simp
    omega
  · rw [hsum]
    simp [firL, hs, hp]

theorem below_of_out {w0 w : World} (hb : Below w0.heap.size w0 w) {v : Value} {ms : List Mk} {W : World} (h : OutAt w.heap.size w v ms W) : Below w0.heap.size w0 W := hb.trans (h.below.mono hb.size)

set_option maxRecDepth 100000 in
set_option maxHeartbeats 2000000 in
theorem ref_any (w0 : World) : ∀ N, RefSaid w0 N := by
  intro N
  induction N with
  | zero => intro l x c w hN; omega
  | succ N ih =>
    intro l x c w hN hsz hlc hat hb
    have IH := hide ih
    have HAT := hide hat
    have HB := hide hb
    have hlen := len_le_sz l
    clear ih hat hb
    go_enter Try.func12, Try.ntmps12
    go_wp2_with fail
    go_loopw [5, 6] (fun v i wr => ∃ (d r : List Stp) (ms : List Mk), i = .int .i64 d.length ∧ RefRnd w0 w l d r v ms wr)
      (fun _ i _ => l.length - (intOf i).toNat)
    case atStart =>
      have hbw : Below w.heap.size w (w.alloc (.cells #[] 54)) := (Below.refl _ _).alloc (Nat.le_refl _) _
      refine ⟨[], l, [], rfl, rfl, ⟨World.ownsRow_made w #[] 0 (Nat.le_refl _) (Nat.zero_le _) rfl, by simp, hbw, by simp⟩, rfl, by simp, (unhide HB).trans (hbw.mono (unhide HB).size)⟩
    case round =>
      obtain ⟨d, r, ms, rfl, hr⟩ := hrel
      have hl := hr.split
      have HR := hide hr
      clear hr
      cases r with
      | nil =>
        rw [List.append_nil] at hl
        subst hl
        go_wp2_with fail
        go_ret3
        have hsum := (unhide HR).sum
        simp only [runL, List.append_nil] at hsum
        exact ref_end hsum (unhide HR).out
      | cons s r =>
        cases s with
        | mk sk sn sa si sb =>
        have hlt : d.length < l.length := by rw [hl]; simp
        have hszl : szL d + (1 + szL si + szL sb) + szL r = szL l := by rw [hl, szL_append]; simp [szL, szS]; omega
        obtain ⟨b, o, rfl, e0, e1, e2, ⟨x1, c1, hc1, e3, a1⟩, ⟨x2, c2, hc2, e4, a2⟩⟩ := (hl ▸ (unhide HAT)).at
        have hbr := (unhide HR).old
        have E0 := (hbr.cell (World.block_lt_of_cell? w0 _ e0)).trans e0
        have E1 := (hbr.cell (World.block_lt_of_cell? w0 _ e1)).trans e1
        have E2 := (hbr.cell (World.block_lt_of_cell? w0 _ e2)).trans e2
        have E3 := (hbr.cell (World.block_lt_of_cell? w0 _ e3)).trans e3
        have E4 := (hbr.cell (World.block_lt_of_cell? w0 _ e4)).trans e4
        rw [show o + 5 * d.length = o + d.length * 5 by omega] at E0 E1 E2 E3 E4
        clear e0 e1 e2 e3 e4 hl hbr
        have hbs : Below wr.heap.size wr (wr.alloc (stepO sk sn sa x1 si.length c1 x2 sb.length c2)) := (Below.refl _ _).alloc (Nat.le_refl _) _
        have HO := hide ((unhide HR).out.sub hbs)
        clear hbs
        by_cases h1 : sk = 1
        · subst h1
          by_cases hn : sn = 0
          · subst hn
            go_wp2_with fail
            go_roundw
            case rel => exact ⟨d ++ [_], r, ms, by simp, by have := RefRnd.next (ns := []) (unhide HR) (by rw [List.append_nil]; exact unhide HO) (by simp [runS]) (by simp [runS]) (below_of_out (unhide HB) (unhide HO)); rwa [List.append_nil] at this⟩
            case measure => simp [intOf]; omega
          · have hn' : (sn != 0) = true := by simpa using hn
            go_wp2_with fail
            go_quiet (fail)
            go_wp2_with fail
            go_ret3
            exact ref_end (c := sn) (a := sa) (by rw [(unhide HR).stop (by simp [runS, hn])]; simp [runS, hn]) ((unhide HO).drewN _)
        · obtain ⟨m1, p1, q1, r1, hm1, hz1, C1⟩ := ref_call (unhide IH) (c := c1) (by omega) (by omega) hc1 a1
          obtain ⟨m2, p2, q2, r2, hm2, hz2, C2⟩ := ref_call (unhide IH) (c := c2) (by omega) (by omega) hc2 a2
          have R1 := hide r1
          have R2 := hide r2
          have D1 := hide C1
          have D2 := hide C2
          have hms : ms.length ≤ 2000000 := by have := (unhide HR).few; omega
          have Z1 := hide hz1
          have Z2 := hide hz2
          clear r1 r2 C1 C2 hz1 hz2
          have HB1 := hide (below_of_out (unhide HB) (unhide HO))
          by_cases h2 : sk = 2
          · subst h2
            go_wp2_with fail
            refine (unhide D1 _ (unhide HB1)).mono ?_
            rintro e w2 ⟨g2, cp2, rfl, hb2, hc2'⟩
            have O2 := (unhide HO).sub hb2
            have HC := hide hc2'
            clear hc2' hb2
            go_wp2_with (first
              | (at_builtin; refine app_out _ rfl (.tmp 54) (.tmp 55) rfl O2 rfl ⟨g2, 0, none⟩ _ _ m1 rfl rfl (unhide HC) (by omega) ?_; intro v3 w3 O3 hk3; clear hk3)
              | (at_builtin; refine app_out _ rfl (.tmp 56) (.tmp 60) rfl (O3.alloc _) rfl ⟨w3.heap.size, 0, none⟩ _ _ [(2, p1, q1)] rfl rfl (news_mark _ _ rfl _) (by simp; omega) ?_; intro v4 w4 O4 hk4; clear hk4))
            go_roundw
            case rel => exact ⟨d ++ [_], r, _, by simp, RefRnd.next (ns := m1 ++ [(2, p1, q1)]) (unhide HR) (by rw [← List.append_assoc]; exact O4) (by simp [runS, unhide R1]) (by simp [runS]) (below_of_out (unhide HB) O4)⟩
            case measure => simp [intOf]; omega
          · by_cases h3 : sk = 3
            · subst h3
              go_wp2_with fail
              refine (unhide D1 _ (unhide HB1)).mono ?_
              rintro e w2 ⟨g2, cp2, rfl, hb2, hc2'⟩
              have O2 := (unhide HO).sub hb2
              have hs2 : w2.heap[wr.heap.size]? = some (stepO 3 sn sa x1 si.length c1 x2 sb.length c2) := by rw [hb2.block _ (by simp)]; exact heap_alloc_new wr _
              have HS2 := hide hs2
              have HC := hide hc2'
              clear hc2' hb2 hs2
              by_cases hp1 : p1 = 0
              · have hq1 : q1 = 0 := unhide Z1 hp1
                subst hp1
                subst hq1
                go_wp2_with (first
                  | (at_builtin; refine app_out _ rfl (.tmp 72) (.tmp 73) rfl O2 rfl ⟨g2, 0, none⟩ _ _ m1 rfl rfl (unhide HC) (by omega) ?_; intro v3 w3 O3 hk3; clear hk3)
                  | (at_builtin; refine app_out _ rfl (.tmp 91) (.tmp 95) rfl (O3.alloc _) rfl ⟨w3.heap.size, 0, none⟩ _ _ [(3, 0, 0)] rfl rfl (news_mark _ _ rfl _) (by simp; omega) ?_; intro v4 w4 O4 hk4; clear hk4))
                go_roundw
                case rel => exact ⟨d ++ [_], r, _, by simp, RefRnd.next (ns := m1 ++ [(3, 0, 0)]) (unhide HR) (by rw [← List.append_assoc]; exact O4) (by simp [runS, unhide R1]) (by simp [runS, unhide R1]) (below_of_out (unhide HB) O4)⟩
                case measure => simp [intOf]; omega
              · have hp1' : (p1 != 0) = true := by simpa using hp1
                go_wp2_with (at_builtin; refine app_out _ rfl (.tmp 72) (.tmp 73) rfl O2 rfl ⟨g2, 0, none⟩ _ _ m1 rfl rfl (unhide HC) (by omega) ?_; intro v3 w3 O3 hk3; have HS3 := hide (hk3 _ _ _ _ (by decide) (unhide HS2)); have hx4 := (step_cells (unhide HS3)).2.2.2.2; clear hk3)
                refine (unhide D2 _ (below_of_out (unhide HB) O3)).mono ?_
                rintro e w4 ⟨g4, cp4, rfl, hb4, hc4⟩
                have O4 := O3.sub hb4
                have HC4 := hide hc4
                clear hc4 hb4 hx4
                by_cases hp2 : p2 = 0
                · subst hp2
                  go_wp2_with (first
                    | (at_builtin; refine app_out _ rfl (.tmp 84) (.tmp 85) rfl O4 rfl ⟨g4, 0, none⟩ _ _ m2 rfl rfl (unhide HC4) (by simp; omega) ?_; intro v5 w5 O5 hk5; clear hk5)
                    | (at_builtin; refine app_out _ rfl (.tmp 91) (.tmp 95) rfl (O5.alloc _) rfl ⟨w5.heap.size, 0, none⟩ _ _ [(3, p1, q1)] rfl rfl (news_mark _ _ rfl _) (by simp; omega) ?_; intro v6 w6 O6 hk6; clear hk6))
                  go_roundw
                  case rel => exact ⟨d ++ [_], r, _, by simp, RefRnd.next (ns := m1 ++ m2 ++ [(3, p1, q1)]) (unhide HR) (by rw [← List.append_assoc, ← List.append_assoc]; exact O6) (by simp [runS, unhide R1, unhide R2, hp1]) (by simp [runS, unhide R1, hp1]) (below_of_out (unhide HB) O6)⟩
                  case measure => simp [intOf]; omega
                · have hp2' : (p2 != 0) = true := by simpa using hp2
                  go_wp2_with (first
                    | (at_builtin; refine app_out _ rfl (.tmp 84) (.tmp 85) rfl O4 rfl ⟨g4, 0, none⟩ _ _ m2 rfl rfl (unhide HC4) (by simp; omega) ?_; intro v5 w5 O5 hk5; clear hk5)
                    | (at_builtin; refine app_out _ rfl (.tmp 91) (.tmp 95) rfl (O5.alloc _) rfl ⟨w5.heap.size, 0, none⟩ _ _ [(3, p2, q2)] rfl rfl (news_mark _ _ rfl _) (by simp; omega) ?_; intro v6 w6 O6 hk6; clear hk6))
                  go_roundw
                  case rel => exact ⟨d ++ [_], r, _, by simp, RefRnd.next (ns := m1 ++ m2 ++ [(3, p2, q2)]) (unhide HR) (by rw [← List.append_assoc, ← List.append_assoc]; exact O6) (by simp [runS, unhide R1, unhide R2, hp1, hp2]) (by simp [runS, unhide R1, hp1]) (below_of_out (unhide HB) O6)⟩
                  case measure => simp [intOf]; omega
            · by_cases h4 : sk = 4
              · subst h4
                have hli := len_le_sz si
                go_wp2_with fail
                go_loopw [5, 17, 18, 19, 20] (fun v k c a n wi => ∃ (d2 r2 : List Stp) (ns : List Mk) (kk cc aa : Int), n = .int .i64 d2.length ∧ k = .int .i64 kk ∧ c = .int .i64 cc ∧ a = .int .i64 aa ∧ FirRnd w.heap.size w si d2 r2 ms ns v kk cc aa wr.heap.size (stepO 4 sn sa x1 si.length c1 x2 sb.length c2) wi)
                  (fun _ _ _ _ n _ => si.length - (intOf n).toNat)
                case atStart => exact ⟨[], si, [], -1, 0, 0, rfl, rfl, rfl, rfl, rfl, by rw [List.append_nil]; exact unhide HO, heap_alloc_new wr _, by simp, Or.inl ⟨rfl, rfl, rfl, rfl⟩⟩
                case round =>
                  obtain ⟨d2, r2, ns, kk, cc, aa, rfl, rfl, rfl, rfl, hf⟩ := hrel
                  have HF := hide hf
                  have OO := hf.out
                  have hx3 := (step_cells hf.step).2.2.2.1
                  have hsi := hf.split
                  have hns : ns.length ≤ 2 * szL si := by have := hf.few; omega
                  have hnow := hf.now
                  clear hf
                  rcases hnow with ⟨rfl, rfl, rfl, hsum⟩ | ⟨hcc, hsum⟩
                  · have HSum := hide hsum
                    clear hsum
                    cases r2 with
                    | nil =>
                      have hd2 : si = d2 := by rw [hsi]; simp
                      have HSum : Hid (firL si 0 = (ns, -1, 0, 0)) := hide (by have := unhide HSum; simpa [firL] using this)
                      clear hsi
                      have hlt2 : ¬ d2.length < si.length := by rw [hd2]; omega
                      have hge : decide ((d2.length : Int) < si.length) = false := by simpa using hlt2
                      clear hd2
                      go_wp2_with (at_builtin; refine app_out _ rfl (.tmp 128) (.tmp 134) rfl (OO.alloc _) rfl ⟨wr.heap.size, 0, none⟩ _ _ [(4, 0, 0), (5, -1, 0)] rfl rfl (news_mark2 _ _ rfl _ _) (by simp; omega) ?_; intro v7 w7 O7 hk7; clear hk7)
                      go_roundw
                      case rel => exact ⟨d ++ [_], r, _, by simp, RefRnd.next (ns := ns ++ [(4, 0, 0), (5, -1, 0)]) (unhide HR) (by rw [← List.append_assoc]; exact O7) (by simp [runS, unhide HSum]) (by simp [runS]) (below_of_out (unhide HB) O7)⟩
                      case measure => simp [intOf]; omega
                    | cons s2 r3 =>
                      have hlt2 : d2.length < si.length := by rw [hsi]; simp
                      have hsz2 : szS s2 ≤ szL si := by rw [hsi, szL_append]; simp only [szL]; omega
                      obtain ⟨b1, o1, rfl, hst⟩ := (hsi ▸ a1).at
                      obtain ⟨m5, p5, q5, r5, hm5, hz5, C5⟩ := ref_call (unhide IH) (l := [s2]) (x := some ⟨b1, o1 + d2.length * 5, none⟩) (c := c1 - d2.length) (by simp only [szL]; omega) (by simp only [szL]; omega) (by simp; omega)
                        ⟨b1, o1 + d2.length * 5, rfl, by rw [show o1 + d2.length * 5 = o1 + 5 * d2.length by omega]; exact hst, trivial⟩
                      rw [runL_one] at r5
                      have R5 := hide r5
                      have Z5 := hide hz5
                      have C5' := hide C5
                      simp only [szL] at hm5
                      clear hsi hst r5 hz5 C5 D1 D2
                      go_wp2_with fail
                      refine (unhide C5' _ (below_of_out (unhide HB) OO)).mono ?_
                      rintro e w5 ⟨g5, cp5, rfl, hb5, hc5⟩
                      have O5 := OO.sub hb5
                      have HC5 := hide hc5
                      have HS5 := hide ((hb5.block _ (lt_of_block (unhide HF).step)).trans (unhide HF).step)
                      clear hc5 hb5 OO hx3
                      by_cases hp5 : p5 = 0
                      · have hq5 : q5 = 0 := unhide Z5 hp5
                        subst hp5
                        subst hq5
                        go_wp2_with (at_builtin; refine app_out _ rfl (.tmp 122) (.tmp 123) rfl O5 rfl ⟨g5, 0, none⟩ _ _ m5 rfl rfl (unhide HC5) (by simp; omega) ?_; intro v6 w6 O6 hk6; have HS6 := hide (hk6 _ _ _ _ (by decide) (unhide HS5)); clear hk6)
                        go_roundw
                        case rel => exact ⟨d2 ++ [s2], r3, ns ++ m5, -1, 0, 0, by simp, rfl, rfl, rfl, (unhide HF).next (unhide HSum) (unhide R5) O6 (unhide HS6)⟩
                        case measure => simp [intOf]; omega
                      · have hp5' : (p5 != 0) = true := by simpa using hp5
                        go_wp2_with (at_builtin; refine app_out _ rfl (.tmp 122) (.tmp 123) rfl O5 rfl ⟨g5, 0, none⟩ _ _ m5 rfl rfl (unhide HC5) (by simp; omega) ?_; intro v6 w6 O6 hk6; have HS6 := hide (hk6 _ _ _ _ (by decide) (unhide HS5)); clear hk6)
                        go_roundw
                        case rel => exact ⟨d2 ++ [s2], r3, ns ++ m5, d2.length, p5, q5, by simp, rfl, rfl, rfl, (unhide HF).stop (unhide HSum) (unhide R5) hp5 O6 (unhide HS6)⟩
                        case measure => simp [intOf]; omega
                  · have HSum := hide hsum
                    have hcc' : (cc == 0) = false := by simpa using hcc
                    clear hsum hsi
                    by_cases hlt2 : d2.length < si.length
                    · have hge : decide ((d2.length : Int) < si.length) = true := by simpa using hlt2
                      go_wp2_with (at_builtin; refine app_out _ rfl (.tmp 128) (.tmp 134) rfl (OO.alloc _) rfl ⟨wr.heap.size, 0, none⟩ _ _ [(4, cc, aa), (5, kk, 0)] rfl rfl (news_mark2 _ _ rfl _ _) (by simp; omega) ?_; intro v7 w7 O7 hk7; clear hk7)
                      go_roundw
                      case rel => exact ⟨d ++ [_], r, _, by simp, RefRnd.next (ns := ns ++ [(4, cc, aa), (5, kk, 0)]) (unhide HR) (by rw [← List.append_assoc]; exact O7) (by simp [runS, unhide HSum]) (by simp [runS]) (below_of_out (unhide HB) O7)⟩
                      case measure => simp [intOf]; omega
                    · have hge : decide ((d2.length : Int) < si.length) = false := by simpa using hlt2
                      go_wp2_with (at_builtin; refine app_out _ rfl (.tmp 128) (.tmp 134) rfl (OO.alloc _) rfl ⟨wr.heap.size, 0, none⟩ _ _ [(4, cc, aa), (5, kk, 0)] rfl rfl (news_mark2 _ _ rfl _ _) (by simp; omega) ?_; intro v7 w7 O7 hk7; clear hk7)
                      go_roundw
                      case rel => exact ⟨d ++ [_], r, _, by simp, RefRnd.next (ns := ns ++ [(4, cc, aa), (5, kk, 0)]) (unhide HR) (by rw [← List.append_assoc]; exact O7) (by simp [runS, unhide HSum]) (by simp [runS]) (below_of_out (unhide HB) O7)⟩
                      case measure => simp [intOf]; omega
              · have k1 : (sk == 1) = false := by simpa using h1
                have k2 : (sk == 2) = false := by simpa using h2
                have k3 : (sk == 3) = false := by simpa using h3
                have k4 : (sk == 4) = false := by simpa using h4
                have O1 := unhide HO
                go_wp2_with (at_builtin; refine app_out _ rfl (.tmp 136) (.tmp 140) rfl (O1.alloc _) rfl ⟨wr.heap.size + 1, 0, none⟩ _ _ [(0, sn, 0)] rfl rfl (news_mark _ _ (by simp) _) (by simp; omega) ?_; intro v4 w4 O4 hk4; clear hk4)
                go_roundw
                case rel => exact ⟨d ++ [_], r, _, by simp, RefRnd.next (ns := [(0, sn, 0)]) (unhide HR) O4 (by simp [runS, h1, h2, h3, h4]) (by simp [runS, h1, h2, h3, h4]) (below_of_out (unhide HB) O4)⟩
                case measure => simp [intOf]; omega

end Go.Proofs.Ytlkodnhkhhgimaa
