/-
  DeltaTracks: its walk.
-/
import Derived.Deep.RegionHeldLaw
import Derived.Deep.CutRange
import Derived.Test.YtmcbpopeinabcaaDlTu
namespace Go.Proofs.Ytmcbpopeinabcaa
open Go.RowKit

set_option linter.unusedSimpArgs false in
set_option maxRecDepth 100000 in
set_option maxHeartbeats 4000000 in
theorem tracks_walk {l : List StepD} {a : Option Addr} {n c : Nat} {w : World} (h : StepsIn w a l) (hl : l.length = n)
    (hr : ∀ (l : List PC) (a : Option Addr) (n c : Nat) (w : World), SlC w a l → AllM w l → l.length = n → n ≤ 1000 → Calls Try.prog 15 #[.slice a n c] w fun e w' => ∃ v, e = .returned v ∧ ∃ N, PlW w v N w' ∧ AllM w N ∧ IsNet (l.map (·.2)) (N.map (·.2))) :
    Calls Try.prog 6 #[.slice a n c] w fun e w' => e = .returned (.bool true) ∧ Below w.heap.size w w' := by
  have HH := dhid h
  have HL := dhid hl
  have HR := dhid hr
  have hml : n ≤ 9223372036854775807 := by have := h.len; unfold maxLen at this; omega
  clear h hl hr
  go_enter Try.func6, Try.ntmps6
  go_wp2_with fail
  refine (awake_walk w).mono ?_
  rintro e W1 ⟨rfl, B1⟩
  have HB1 := dhid B1
  clear B1
  by_cases h80 : n ≤ 80
  · have h80' : ¬ (80 : Int) < (n : Int) := by omega
    go_wp2_with fail
    refine (new_walk W1).mono ?_
    rintro e W2 ⟨rfl, rfl⟩
    have HT2 := dhid (TkI.mk (w := w) (tr := W1.heap.size) (trk_new HB1.out (fun _ => True)) (HB1.out.alloc HB1.out.size _) (docL_nil w.heap.size _) (fun _ h => (by cases h)) rfl)
    go_wp2
    obtain ⟨tr, HTR⟩ : ∃ t, Hid (W1.heap.size = t) := ⟨_, rfl⟩
    rw [HTR.out] at HT2 ⊢
    refine to_letter (F := fun W => TkI w tr (.slice none 0 0) [] none 0 0 [] W) HT2.out ?_
    intro V1 hV1
    have HV1 := dhid hV1
    clear hV1 HT2 HB1
    go_loopw [5, 22] (fun s i wr => ∃ (j : Nat) (v : Value) (L : List PC) (a' : Option Addr) (n' c' : Nat) (N : List PC), j ≤ n ∧ i = .int .i64 (j : Int) ∧ s = .slice a' n' c' ∧ n' ≤ j ∧ Hid (TkI w tr v L a' n' c' N wr)) (fun _ i _ => n - (intOf i).toNat)
    case atStart => exact ⟨0, _, _, _, _, _, _, Nat.zero_le _, rfl, rfl, Nat.le_refl _, HV1.out⟩
    case round =>
      obtain ⟨j, v, L, a', n', c', N, hj, rfl, rfl, hn', HI⟩ := hrel
      by_cases hlt : j < n
      · obtain ⟨b, o, x, rfl, hb, hx, hmw, d0, d1, d2, d3, d4, d5⟩ := (HH.out.below HI.out.below).at (j := j) (by rw [HL.out]; exact hlt)
        have HMW := dhid hmw
        have HX := dhid hx
        clear hx hmw
        have HGW := dhid (fun k hk => great_walk (c := 1) (lit_chgs (wr.alloc (.cells #[.int .i64 x.k, .int .i64 x.n, .string x.c.1.t, .int .i64 x.c.1.id, .slice x.c.1.oa x.c.1.ol x.c.1.oc, .slice x.c.1.na x.c.1.nl x.c.1.nc] 52)) x.c k hk (HMW.out.below (below_alloc _ _))) rfl)
        go_wp2_with fail
        refine (HGW.out _ (by simp)).mono ?_
        rintro e W3 ⟨bg, rfl, hg, B3⟩
        have HB3 : Hid (Below wr.heap.size wr W3) := ((below_alloc wr _).alloc (by simp) _).trans (B3.mono (by simp; omega))
        have HT3 := dhid (HI.out.on HB3.out)
        have HO3 : Hid (BoxS W3 wr.heap.size x) := by
          show W3.heap[wr.heap.size]? = _
          rw [B3.block _ (by simp; omega), Below.heap_alloc _ _ _ (by simp), go_heap_new]
        clear B3 HGW HB3 HI d0 d1 d2 d3 d4 d5 hb
        generalize wr.heap.size = A at *
        cases bg
        · have hsm := (hg rfl).2 x.c (by simp)
          have HMx : Hid (Means w x.c.1 x.c.2) := by
            have m := HH.out.ok x (List.mem_of_getElem? HX.out)
            obtain ⟨h1, h2, h3⟩ := hsm
            exact ⟨m.t, m.id, m.ol, m.nl, by omega, by omega, m.o, m.n, m.oc, m.nc, by omega, m.ib⟩
          have hol : x.c.1.ol ≤ 20 := hsm.2.1
          have hnl : x.c.1.nl ≤ 20 := hsm.2.2
          clear hg hsm HMW
          have hNE := near_eq x.n n'
          obtain ⟨k, HK⟩ : ∃ k, Hid (nearN x.n n' = k) := ⟨_, rfl⟩
          rw [HK.out] at hNE
          have hkn : k ≤ n' := by rw [← HK.out]; exact Nat.min_le_right _ _
          have hLn : L.length = n' := by have h1 := congrArg List.length HT3.out.same; simp at h1; rw [h1, HT3.out.doc.len]
          obtain ⟨f0, f1, f2, f3, f4, f5, fl⟩ := HO3.out.facts
          by_cases hk0 : x.k = 0
          · rw [hk0] at f0
            go_wp2_with fail
            refine to_letter (F := fun W => Below W3.heap.size W3 W ∧ Box4 W W3.heap.size (.string x.c.1.t) (.int .i64 x.c.1.id) (.slice x.c.1.oa x.c.1.ol x.c.1.oc) (.slice x.c.1.na x.c.1.nl x.c.1.nc)) ⟨below_alloc _ _, go_heap_new _ _⟩ ?_
            rintro U ⟨hU, CU⟩
            have HU := dhid hU
            have HCU := dhid CU
            clear hU CU f0 f1 f2 f3 f4 f5 fl
            obtain ⟨CB, HCB⟩ : ∃ X, Hid (W3.heap.size = X) := ⟨_, rfl⟩
            rw [HCB.out] at HCU ⊢
            have HS1 : Hid (∀ W, Below CB U W → Src W x.c.1.oa x.c.1.ol x.c.1.oc (vcs x.c.2.o)) := fun W hW => by
              have hb : Below W3.heap.size W3 W := by rw [← HCB.out] at hW; exact HU.out.trans hW
              exact ((HMx.out.below (below_on HT3.out.below hb HT3.out.below.size)).o).src HMx.out.ol HMx.out.oc
            have HS2 : Hid (∀ W, Below CB U W → Src W x.c.1.na x.c.1.nl x.c.1.nc (vcs x.c.2.n)) := fun W hW => by
              have hb : Below W3.heap.size W3 W := by rw [← HCB.out] at hW; exact HU.out.trans hW
              exact ((HMx.out.below (below_on HT3.out.below hb HT3.out.below.size)).n).src HMx.out.nl HMx.out.nc
            have HV1 : Hid ((vcs x.c.2.o).length = x.c.1.ol * 3) := by show _ = _; rw [vcs_length, HMx.out.ol]
            have HV2 : Hid ((vcs x.c.2.n).length = x.c.1.nl * 3) := by show _ = _; rw [vcs_length, HMx.out.nl]
            have HCP : Hid (∀ {W : World} {a5 a7 : Option Addr} {k5 k7 : Nat}, Below CB U W → W.heap[CB]? = some (.cells #[.string x.c.1.t, .int .i64 x.c.1.id, .slice a5 x.c.1.ol k5, .slice a7 x.c.1.nl k7] 27 (0, 0)) → W.ownsRow U.heap.size 55 3 (.slice a5 x.c.1.ol k5) x.c.1.ol (vcs x.c.2.o) → W.ownsRow U.heap.size 55 3 (.slice a7 x.c.1.nl k7) x.c.1.nl (vcs x.c.2.n) → CpN W3 CB x a5 k5 a7 k7 W) := fun h1 h2 h3 h4 => cpn_end HCB.out HU.out h1 h2 h3 h4
            go_cut [] from 82 to 91 (fun wx => ∃ oa2 oc2 na2 nc2, Hid (CpN W3 CB x oa2 oc2 na2 nc2 wx))
            case first =>
              refine Rw.two_copies (s := 82) (xs := 9) (X := CB) (fo := 2) (fn := 3) (T := 27) (bx := fun p r => #[.string x.c.1.t, .int .i64 x.c.1.id, p, r]) (by kernel_rfl)
                ⟨⟨_, rfl, rfl, rfl, rfl⟩, ⟨_, rfl, rfl, rfl, rfl⟩, ⟨_, rfl, rfl, rfl, rfl, Rw.dep_of (by kernel_rfl)⟩, ⟨_, rfl, rfl, rfl, rfl, Rw.dep_of (by kernel_rfl), Rw.dep_of (by kernel_rfl)⟩, ⟨_, rfl, rfl, rfl, rfl⟩, ⟨_, rfl, rfl, rfl, rfl⟩, ⟨_, rfl, rfl, rfl, rfl, Rw.dep_of (by kernel_rfl)⟩, ⟨_, rfl, rfl, rfl, rfl, Rw.dep_of (by kernel_rfl), Rw.dep_of (by kernel_rfl), Rw.dep_of (by kernel_rfl)⟩, ⟨_, rfl, rfl, rfl, rfl⟩, ⟨_, rfl, rfl, rfl, rfl, Rw.dep_of (by kernel_rfl), Rw.dep_of (by kernel_rfl), Rw.dep_of (by kernel_rfl)⟩, ⟨_, rfl, rfl, rfl, rfl⟩, ⟨_, rfl, rfl, rfl, rfl, Rw.dep_of (by kernel_rfl), Rw.dep_of (by kernel_rfl)⟩, rfl, Rw.low_of (by kernel_rfl)⟩
                (by simp) (by decide) rfl HCU.out (fun _ _ => rfl) (fun _ _ => rfl) (fun _ _ _ => rfl) (fun _ _ _ => rfl) HS1.out HS2.out HV1.out HV2.out vcs_one vcs_one (by omega) (by omega)
                (fun f hf o a w K h1 h2 h3 => op_fa h1 h2 hf h3) ?_
              intro v0 v1 v2 v3 v4 v5 v6 v7 v8 v9 W a5 k5 a7 k7 g1 g2 g3 g4 _
              have HCX := dhid (HCP.out g1 g2 g3 g4)
              clear g1 g2 g3 g4
              simp only [Act.put, List.setIfInBounds_toArray, List.set_cons_succ, List.set_cons_zero]
              go_wp2_with fail
              go_meet
              case rel => exact ⟨a5, k5, a7, k7, HCX⟩
            case rest =>
              obtain ⟨oa2, oc2, na2, nc2, HC⟩ := hcut
              have HNW := dhid (note_ok HT3.out HC.out HCB.out HO3.out HMx.out (by omega))
              obtain ⟨z0, z1, z2, z3, -, -, -, -, zl⟩ := HC.out.box.facts
              clear HCU HS1 HS2 HV1 HV2 HCP HU
              go_wp2_with fail
              refine HNW.out.mono ?_
              rintro e W4 ⟨rfl, r', v4, nx4⟩
              have HX4 := dhid nx4
              obtain ⟨y0, y1, y2, y3, -, -, -, -, yl⟩ := nx4.box.facts
              clear nx4 HNW z0 z1 z2 z3 zl
              go_wp2_with fail
              refine (note_nil (cpR x oa2 oc2 na2 nc2) _).mono ?_
              rintro e W5 ⟨rfl, B5⟩
              have HX5 := dhid (HX4.out.on B5)
              clear B5 HX4 y0 y1 y2 y3 yl
              obtain ⟨f0, f1, f2, f3, f4, f5, fl⟩ := HX5.out.bo.facts
              go_wp2_with (first | (at_builtin; revert HX5) | go_in)
              intro HX5
              refine to_letter (F := fun W => Below W5.heap.size W5 W ∧ Src W (some ⟨W5.heap.size, 0, none⟩) 1 1 (rcC x.c.1)) ⟨below_alloc _ _, src_newT _ _ _ rfl⟩ ?_
              rintro V ⟨bV, sV⟩
              have hXV := HX5.out.on bV
              refine app_doc (y := x.c) hXV.doc hXV.below.size rfl _ _ rfl rfl rfl sV (by omega) ?_
              intro v6 W6 O6 B6 K6
              obtain ⟨a6, c6, rfl⟩ := owns_slice O6
              have HX6 := dhid (hXV.kind B6 K6 (docL_own O6))
              have hLn6 : (L ++ [(r', x.c.2)]).length = n' + 1 := by simp [hLn]
              clear O6 B6 K6 hXV bV sV HX5 f0 f1 f2 f3 f4 f5 fl
              obtain ⟨y0, y1, y2, y3, -, -, -, -, yl⟩ := HX6.out.box.facts
              go_wp2_with fail
              clear y0 y1 y2 y3 yl
              refine to_letter (F := fun W => NtX w tr W3.heap.size wc.heap.size v4 (L ++ [(r', x.c.2)]) a6 (n' + 1) c6 (N ++ [x.c]) A CB x oa2 oc2 na2 nc2 x.c.2.n W) HX6.out ?_
              intro V7 hV7
              have HV7 := dhid hV7
              clear hV7 HX6
              go_loopw [106] (fun i wr => ∃ (t : Nat) (m' : List Va), t ≤ x.c.1.nl ∧ i = .int .i64 (t : Int) ∧ Hid (NtX w tr W3.heap.size wc.heap.size v4 (L ++ [(r', x.c.2)]) a6 (n' + 1) c6 (N ++ [x.c]) A CB x oa2 oc2 na2 nc2 m' wr)) (fun i _ => x.c.1.nl - (intOf i).toNat)
              case atStart => exact ⟨0, _, Nat.zero_le _, rfl, HV7⟩
              case round =>
                obtain ⟨t, m', ht, rfl, HA⟩ := hrel
                by_cases hto : t < x.c.1.nl
                · obtain ⟨g, z, rfl, e1, ef, egl, hst⟩ := HA.out.store hto
                  obtain ⟨-, -, -, y3, -, -, -, -, yl⟩ := HA.out.box.facts
                  have HST := dhid hst
                  clear hst HA HV7
                  go_wp2
                  obtain ⟨m2, h2⟩ := HST.out _
                  exact ⟨⟨t + 1, m2, hto, by go_num, h2⟩, by simp [intOf]; omega⟩
                · have hte : t = x.c.1.nl := by omega
                  subst hte
                  have HTX := dhid (HA.out.tki HT3.out HMx.out)
                  obtain ⟨f0, f1, f2, f3, f4, f5, fl⟩ := HA.out.bo.facts
                  clear HA HV7
                  obtain ⟨av, cv, ev⟩ := owns_slice HTX.out.trk.own
                  have x0 := HTX.out.trk.cell.1
                  rw [ev, hLn6] at x0
                  go_wp2_with fail
                  refine (mark_walk x0).mono ?_
                  rintro e W8 ⟨rfl, rfl⟩
                  go_wp2_with fail
                  refine (mark_nil _).mono ?_
                  rintro e W8 ⟨rfl, rfl⟩
                  go_wp2_with fail
                  refine (since_nil _ _).mono ?_
                  rintro e W8 ⟨rfl, rfl⟩
                  go_wp2
                  exact ⟨⟨j + 1, _, _, _, _, _, _, by omega, by go_num, rfl, by omega, HTX.out⟩, by simp [intOf]; omega⟩
          · have hk0' : (x.k == 0) = false := beq_eq_false_iff_ne.2 hk0
            by_cases hk1 : x.k = 1
            · rw [hk1] at f0
              have HBW := dhid (back_walk (m := x.n) HT3.out.trk)
              go_wp2_with fail
              refine HBW.out.mono ?_
              rintro e W4 ⟨rfl, v4, hT4, B4, K4⟩
              rw [hLn, HK.out] at hT4
              have hD4 : DocL w.heap.size a' n' c' N W4 := HT3.out.doc.keep fun g cur hg => K4 g (Array.getElem?_eq_some_iff.1 hg).1 (HT3.out.trk.far hg (by decide) (by decide)).1 (HT3.out.trk.far hg (by decide) (by decide)).2
              have hO4 : BoxS W4 A x := (K4 A fl (HT3.out.trk.far HO3.out (by decide) (by decide)).1 (HT3.out.trk.far HO3.out (by decide) (by decide)).2).trans HO3.out
              have HT4 : Hid (TkI w tr v4 (L.take k) a' k k (N.take k) W4) := ⟨hT4, HT3.out.below.trans B4, hD4.cut hkn, fun y hy => HT3.out.all y (List.mem_of_mem_take hy), by rw [List.map_take, List.map_take, HT3.out.same]⟩
              have hcap := hD4.cap
              have hblk := hD4.blk
              have hnil := hD4.nil
              clear f0 f1 f2 f3 f4 f5 fl HBW HO3 B4 K4 hT4 hD4 HT3
              obtain ⟨f0, f1, f2, f3, f4, f5, fl⟩ := hO4.facts
              clear hO4
              have hLk : (L.take k).length = k := by rw [List.length_take]; omega
              clear hLn
              have hLn := hLk
              go_wp2_with fail
              refine (back_nil _ _).mono ?_
              rintro e W5 ⟨rfl, rfl⟩
              cases a' with
              | none =>
                have hc0 := hnil rfl
                subst hc0
                have hn0 : n' = 0 := by omega
                subst hn0
                have hk0 : k = 0 := by omega
                subst hk0
                clear hblk hnil
                obtain ⟨av, cv, ev⟩ := owns_slice HT4.out.trk.own
                have x0 := HT4.out.trk.cell.1
                rw [ev, hLn] at x0
                go_wp2_with fail
                refine (mark_walk x0).mono ?_
                rintro e W8 ⟨rfl, rfl⟩
                go_wp2_with fail
                refine (mark_nil _).mono ?_
                rintro e W8 ⟨rfl, rfl⟩
                go_wp2_with fail
                refine (since_nil _ _).mono ?_
                rintro e W8 ⟨rfl, rfl⟩
                go_wp2
                exact ⟨⟨j + 1, _, _, _, _, _, _, by omega, by go_num, rfl, by omega, HT4.out⟩, by simp [intOf]; omega⟩
              | some ad =>
                obtain ⟨g, cur, rfl, _⟩ := hblk _ rfl
                have i1 : (k : Int) ≤ (c' : Int) := by omega
                have i2 : (k : Int) ≤ (n' : Int) := by omega
                clear hblk hnil
                obtain ⟨av, cv, ev⟩ := owns_slice HT4.out.trk.own
                have x0 := HT4.out.trk.cell.1
                rw [ev, hLn] at x0
                go_wp2_with fail
                refine (mark_walk x0).mono ?_
                rintro e W8 ⟨rfl, rfl⟩
                go_wp2_with fail
                refine (mark_nil _).mono ?_
                rintro e W8 ⟨rfl, rfl⟩
                go_wp2_with fail
                refine (since_nil _ _).mono ?_
                rintro e W8 ⟨rfl, rfl⟩
                go_wp2
                exact ⟨⟨j + 1, _, _, _, _, _, _, by omega, by go_num, rfl, by omega, HT4.out⟩, by simp [intOf]; omega⟩
            · have hk1' : (x.k == 1) = false := beq_eq_false_iff_ne.2 hk1
              have HSW := dhid (since_walk (m := x.n) HT3.out.trk (by omega))
              rw [hLn, HK.out] at HSW
              go_wp2_with fail
              refine HSW.out.mono ?_
              rintro e W4 ⟨v4, rfl, N4, hN4, hi4⟩
              have hl4 : N4.length ≤ 80 := by have := hi4.len; simp at this; omega
              obtain ⟨a4, c4, rfl⟩ := owns_slice hN4.own
              have HN4 := dhid hN4
              have HI4 := dhid hi4
              have HT4 := dhid (HT3.out.on hN4.below)
              have HO4 : Hid (BoxS W4 A x) := (hN4.below.block A fl).trans HO3.out
              have HPL4 := dhid (plain_walk (c := c4) (owns_slc hN4.own).2.1 rfl (by omega))
              clear hN4 hi4 HSW f0 f1 f2 f3 f4 f5
              obtain ⟨L4, HL4⟩ : ∃ m, Hid (N4.length = m) := ⟨_, rfl⟩
              rw [HL4.out] at hl4 HPL4 ⊢
              have HPLW : Hid (∀ W, Below W4.heap.size W4 W → Calls Try.prog 12 #[.slice a4 L4 c4] W fun e w' => ∃ v, e = .returned v ∧ PlW W v N4 w' ∧ Below W4.heap.size W4 w') := fun W hW => by
                have h := (HN4.out.on hW).own
                rw [HL4.out] at h
                exact (plain_walk (c := c4) (owns_slc h).2.1 HL4.out (by omega)).mono fun e w' ⟨v, he, hp⟩ => ⟨v, he, hp, below_on hW hp.below hW.size⟩
              have HRN : Hid (∀ W aa cc, Below W4.heap.size W4 W → SlC W aa (N.drop k) → Calls Try.prog 15 #[.slice aa (n' - k) cc] W fun e w' => ∃ v, e = .returned v ∧ ∃ N6, PlW W v N6 w' ∧ AllM W N6 ∧ N4.map (·.2) = N6.map (·.2) ∧ N6.length = L4) := fun W aa cc hW hs => (HR.out (N.drop k) aa (n' - k) cc W hs (fun y hy => (HT4.out.on hW).all.below (HT4.out.on hW).below y (List.mem_of_mem_drop hy)) (by rw [List.length_drop, HT4.out.doc.len]) (by omega)).mono fun e w' ⟨v, he, N6, hp, hm, hi⟩ => by
                have hi4' := HI4.out
                rw [List.map_drop, HT4.out.same, ← List.map_drop] at hi4'
                have he46 := hi4'.uniq hi
                exact ⟨v, he, N6, hp, hm, he46, by rw [← HL4.out]; have := congrArg List.length he46; simpa using this.symm⟩
              have HA4 := dhid HN4.out.all
              have hcap := HT4.out.doc.cap
              have hblk := HT4.out.doc.blk
              have hnil := HT4.out.doc.nil
              have HSDg : Hid (∀ W, Below W4.heap.size W4 W → ∀ b o, a' = some ⟨b, o, none⟩ → SlC W (some ⟨b, o + k * 4, none⟩) (N.drop k)) := fun W hW b o e => by
                have g := (HT4.out.on hW).doc.slc
                rw [e] at g
                exact slc_drop g k
              have HNL : Hid (N.length = n') := HT4.out.doc.len
              clear HPL4
              go_wp2_with fail
              go_cut [49] from 42 to 49 (fun s wx => s = .bool false ∧ Hid (Below W4.heap.size W4 wx))
              case first =>
                cases a' with
                | none =>
                  have hc0 := hnil rfl
                  subst hc0
                  have hn0 : n' = 0 := by omega
                  subst hn0
                  have hk0 : k = 0 := by omega
                  subst hk0
                  have HSD : Hid (∀ W, Below W4.heap.size W4 W → SlC W none (N.drop 0)) := fun W _ => Or.inl (by rw [List.length_eq_zero_iff.1 HNL.out]; rfl)
                  clear hblk hnil
                  go_region_held_law (fun _ => True) (trivial) (first
                    | (go_at_call 12; with_reducible refine (HPLW.out _ ?_).mono ?_
                       · repeat (first | exact Below.refl _ _ | refine Below.drew ?_)
                       rintro e W5 ⟨v5, rfl, hp5, hb5⟩
                       obtain ⟨a5, c5, e5⟩ := owns_slice hp5.own
                       rw [HL4.out] at e5
                       subst e5
                       have HP5 := dhid hp5
                       have HB5 := dhid hb5
                       clear hp5 hb5 HPLW)
                    | (go_at_call 15; with_reducible refine (HRN.out _ _ _ HB5.out ?_).mono ?_
                       · exact HSD.out _ HB5.out
                       rintro e W6 ⟨v6, rfl, N6, hp6, hm6, he6, hl6⟩
                       obtain ⟨a6, c6, e6⟩ := owns_slice hp6.own
                       rw [hl6] at e6
                       subst e6
                       have HB6 := dhid (below_on HB5.out hp6.below HB5.out.size)
                       have hs1 : SlC W6 a5 N4 := by have h := (HP5.out.on hp6.below).own; rw [HL4.out] at h; exact (owns_slc h).2.1
                       have hs2 : SlC W6 a6 N6 := by have h := hp6.own; rw [hl6] at h; exact (owns_slc h).2.1
                       have HSM := dhid (csame_walk (c := c5) (d := c6) hs1 hs2 (HA4.out.below HB6.out) (hm6.below hp6.below) he6 HL4.out (by omega))
                       clear hs1 hs2 hp6 hm6 he6 hl6 HRN HP5 HB5)
                    | (go_at_call 13; with_reducible refine HSM.out.mono ?_
                       rintro e W7 ⟨rfl, q, rfl⟩
                       clear HSM))
                  all_goals
                    go_simp
                    go_wp2_with fail
                    go_meet
                    exact ⟨rfl, below_drewN HB6.out q⟩
                | some ad =>
                  obtain ⟨g, cur, rfl, _⟩ := hblk _ rfl
                  clear hblk hnil
                  by_cases hck : c' = k
                  · subst hck
                    have hnc : n' = c' := by omega
                    subst hnc
                    have HSD : Hid (∀ W, Below W4.heap.size W4 W → SlC W (some ⟨g, 0, none⟩) (N.drop n')) := fun W _ => Or.inl (List.drop_eq_nil_of_le (by rw [HNL.out]; omega))
                    rw [Nat.sub_self] at HRN
                    go_region_held_law (fun _ => True) (trivial) (first
                      | (go_at_call 12; with_reducible refine (HPLW.out _ ?_).mono ?_
                         · repeat (first | exact Below.refl _ _ | refine Below.drew ?_)
                         rintro e W5 ⟨v5, rfl, hp5, hb5⟩
                         obtain ⟨a5, c5, e5⟩ := owns_slice hp5.own
                         rw [HL4.out] at e5
                         subst e5
                         have HP5 := dhid hp5
                         have HB5 := dhid hb5
                         clear hp5 hb5 HPLW)
                      | (go_at_call 15; with_reducible refine (HRN.out _ _ _ HB5.out ?_).mono ?_
                         · exact HSD.out _ HB5.out
                         rintro e W6 ⟨v6, rfl, N6, hp6, hm6, he6, hl6⟩
                         obtain ⟨a6, c6, e6⟩ := owns_slice hp6.own
                         rw [hl6] at e6
                         subst e6
                         have HB6 := dhid (below_on HB5.out hp6.below HB5.out.size)
                         have hs1 : SlC W6 a5 N4 := by have h := (HP5.out.on hp6.below).own; rw [HL4.out] at h; exact (owns_slc h).2.1
                         have hs2 : SlC W6 a6 N6 := by have h := hp6.own; rw [hl6] at h; exact (owns_slc h).2.1
                         have HSM := dhid (csame_walk (c := c5) (d := c6) hs1 hs2 (HA4.out.below HB6.out) (hm6.below hp6.below) he6 HL4.out (by omega))
                         clear hs1 hs2 hp6 hm6 he6 hl6 HRN HP5 HB5)
                      | (go_at_call 13; with_reducible refine HSM.out.mono ?_
                         rintro e W7 ⟨rfl, q, rfl⟩
                         clear HSM))
                    all_goals
                      go_simp
                      go_wp2_with fail
                      go_meet
                      exact ⟨rfl, below_drewN HB6.out q⟩
                  · have i1 : (k : Int) ≤ (c' : Int) := by omega
                    have i2 : (k : Int) ≤ (n' : Int) := by omega
                    have i3 : (n' : Int) ≤ (c' : Int) := by omega
                    have i4 : ¬ c' - k = 0 := by omega
                    have HSD : Hid (∀ W, Below W4.heap.size W4 W → SlC W (some ⟨g, k * 4, none⟩) (N.drop k)) := fun W hW => by have g1 := HSDg.out W hW g 0 rfl; rwa [Nat.zero_add] at g1
                    go_region_held_law (fun _ => True) (trivial) (first
                      | (go_at_call 12; with_reducible refine (HPLW.out _ ?_).mono ?_
                         · repeat (first | exact Below.refl _ _ | refine Below.drew ?_)
                         rintro e W5 ⟨v5, rfl, hp5, hb5⟩
                         obtain ⟨a5, c5, e5⟩ := owns_slice hp5.own
                         rw [HL4.out] at e5
                         subst e5
                         have HP5 := dhid hp5
                         have HB5 := dhid hb5
                         clear hp5 hb5 HPLW)
                      | (go_at_call 15; with_reducible refine (HRN.out _ _ _ HB5.out ?_).mono ?_
                         · exact HSD.out _ HB5.out
                         rintro e W6 ⟨v6, rfl, N6, hp6, hm6, he6, hl6⟩
                         obtain ⟨a6, c6, e6⟩ := owns_slice hp6.own
                         rw [hl6] at e6
                         subst e6
                         have HB6 := dhid (below_on HB5.out hp6.below HB5.out.size)
                         have hs1 : SlC W6 a5 N4 := by have h := (HP5.out.on hp6.below).own; rw [HL4.out] at h; exact (owns_slc h).2.1
                         have hs2 : SlC W6 a6 N6 := by have h := hp6.own; rw [hl6] at h; exact (owns_slc h).2.1
                         have HSM := dhid (csame_walk (c := c5) (d := c6) hs1 hs2 (HA4.out.below HB6.out) (hm6.below hp6.below) he6 HL4.out (by omega))
                         clear hs1 hs2 hp6 hm6 he6 hl6 HRN HP5 HB5)
                      | (go_at_call 13; with_reducible refine HSM.out.mono ?_
                         rintro e W7 ⟨rfl, q, rfl⟩
                         clear HSM))
                    all_goals
                      go_simp
                      go_wp2_with fail
                      go_meet
                      exact ⟨rfl, below_drewN HB6.out q⟩
              case rest =>
                obtain ⟨rfl, HBX⟩ := hcut
                have HLW : Hid (LW W3 a4 L4 c4 N4 wc) := ⟨below_on HN4.out.below HBX.out HN4.out.below.size, by have h := (HN4.out.on HBX.out).own; rwa [HL4.out] at h, fun y hy => ⟨y.2.n, ((HN4.out.on HBX.out).all y hy).nl, (HN4.out.on HBX.out).rows y hy⟩⟩
                have HNB : Hid (∀ y ∈ N4, y.1.nl ≤ 1000) := fun y hy => (HN4.out.all y hy).nb
                clear HBX HN4 HI4 HT4 HO4 HPLW HRN HA4 hcap hblk hnil HSDg HNL
                go_wp2_with fail
                refine to_letter (F := fun W => LW W3 a4 L4 c4 N4 W) HLW.out ?_
                intro V5 hV5
                have HV5 := dhid hV5
                clear hV5 HLW
                go_loopw [52] (fun i wr => ∃ p : Nat, p ≤ L4 ∧ i = .int .i64 (p : Int) ∧ Hid (LW W3 a4 L4 c4 N4 wr)) (fun i _ => L4 - (intOf i).toNat)
                case atStart => exact ⟨0, Nat.zero_le _, rfl, HV5.out⟩
                case round =>
                  obtain ⟨p, hp, rfl, HLR⟩ := hrel
                  by_cases hpl : p < L4
                  · obtain ⟨g, y, rfl, hy, q0, gl⟩ := HLR.out.item hpl
                    have HY := dhid (List.mem_of_getElem? hy)
                    have HYI := dhid hy
                    have hynl : y.1.nl ≤ 1000 := HNB.out y HY.out
                    clear hy
                    go_wp2_with fail
                    refine to_letter (F := fun W => LW W3 (some ⟨g, 0, none⟩) L4 c4 N4 W) HLR.out ?_
                    intro V6 hV6
                    have HV6 := dhid hV6
                    clear hV6 HLR q0 gl
                    go_loopw [61] (fun i wr => ∃ t : Nat, t ≤ y.1.nl ∧ i = .int .i64 (t : Int) ∧ Hid (LW W3 (some ⟨g, 0, none⟩) L4 c4 N4 wr)) (fun i _ => y.1.nl - (intOf i).toNat)
                    case atStart => exact ⟨0, Nat.zero_le _, rfl, HV6.out⟩
                    case round =>
                      obtain ⟨t, ht, rfl, HLT⟩ := hrel
                      by_cases htn : t < y.1.nl
                      · obtain ⟨q, z, hq, r1, r2, ql⟩ := HLT.out.num HY.out htn
                        obtain ⟨g', y', e', hy', q0, gl⟩ := HLT.out.item hpl
                        cases e'
                        rw [HYI.out] at hy'
                        cases hy'
                        rw [hq] at q0
                        have HST := dhid (fun z => HLT.out.store HY.out hq t z)
                        clear HLT
                        go_wp2
                        exact ⟨⟨t + 1, by omega, by go_num, HST.out _⟩, by simp [intOf]; omega⟩
                      · have hte : t = y.1.nl := by omega
                        subst hte
                        go_wp2
                        exact ⟨⟨p + 1, by omega, by go_num, HLT.out⟩, by simp [intOf]; omega⟩
                  · have hpe : p = L4 := by omega
                    subst hpe
                    have HTX := dhid (HT3.out.on HLR.out.below)
                    have HOX : Hid (BoxS wr A x) := (HLR.out.below.block A fl).trans HO3.out
                    clear fl
                    obtain ⟨f0, f1, f2, f3, f4, f5, fl⟩ := HOX.out.facts
                    obtain ⟨av, cv, ev⟩ := owns_slice HTX.out.trk.own
                    have x0 := HTX.out.trk.cell.1
                    rw [ev, hLn] at x0
                    go_wp2_with fail
                    refine (mark_walk x0).mono ?_
                    rintro e W8 ⟨rfl, rfl⟩
                    go_wp2_with fail
                    refine (mark_nil _).mono ?_
                    rintro e W8 ⟨rfl, rfl⟩
                    go_wp2_with fail
                    refine (since_nil _ _).mono ?_
                    rintro e W8 ⟨rfl, rfl⟩
                    go_wp2
                    exact ⟨⟨j + 1, _, _, _, _, _, _, by omega, by go_num, rfl, by omega, HTX.out⟩, by simp [intOf]; omega⟩
        · go_wp2
          go_ret
          exact ⟨rfl, HT3.out.below⟩
      · have hjn : j = n := by omega
        subst hjn
        have hLn : L.length = n' := by have h1 := congrArg List.length HI.out.same; simp at h1; rw [h1, HI.out.doc.len]
        have HSW := dhid (since_walk (m := 0) HI.out.trk (by omega))
        have hz : nearN 0 L.length = 0 := by unfold nearN; simp
        rw [hz, List.drop_zero] at HSW
        go_wp2_with fail
        refine HSW.out.mono ?_
        rintro e W4 ⟨v4, rfl, N4, hN4, hi4⟩
        have hl4 : N4.length ≤ 80 := by have := hi4.len; simp at this; omega
        obtain ⟨a4, c4, rfl⟩ := owns_slice hN4.own
        have HN4 := dhid hN4
        have HI4 := dhid hi4
        have HT4 := dhid (HI.out.on hN4.below)
        have HPL4 := dhid (plain_walk (c := c4) (owns_slc hN4.own).2.1 rfl (by omega))
        clear hN4 hi4 HSW hz HI
        obtain ⟨L4, HL4⟩ : ∃ m, Hid (N4.length = m) := ⟨_, rfl⟩
        rw [HL4.out] at hl4 HPL4 ⊢
        go_wp2_with fail
        refine HPL4.out.mono ?_
        rintro e W5 ⟨v5, rfl, hp5⟩
        have HP5 := dhid hp5
        have HT5 := dhid (HT4.out.on hp5.below)
        have HA5 := dhid (HN4.out.all.below hp5.below)
        have HR5 := dhid (HR.out N a' n' c' W5 HT5.out.doc.slc (HT5.out.all.below HT5.out.below) HT5.out.doc.len (by omega))
        obtain ⟨a5, c5, e5⟩ := owns_slice hp5.own
        rw [HL4.out] at e5
        subst e5
        clear hp5 HPL4 HT4 HN4
        go_wp2_with fail
        refine HR5.out.mono ?_
        rintro e W6 ⟨v6, rfl, N6, hp6, hm6, hi6⟩
        have hi4' := HI4.out
        rw [HT5.out.same] at hi4'
        have he46 : N4.map (·.2) = N6.map (·.2) := hi4'.uniq hi6
        have hl6 : N6.length = L4 := by rw [← HL4.out]; have := congrArg List.length he46; simpa using this.symm
        obtain ⟨a6, c6, e6⟩ := owns_slice hp6.own
        rw [hl6] at e6
        subst e6
        have hs1 : SlC W6 a5 N4 := by have h := (HP5.out.on hp6.below).own; rw [HL4.out] at h; exact (owns_slc h).2.1
        have hs2 : SlC W6 a6 N6 := by have h := hp6.own; rw [hl6] at h; exact (owns_slc h).2.1
        have HSM := dhid (csame_walk (c := c5) (d := c6) hs1 hs2 (HA5.out.below hp6.below) (hm6.below hp6.below) he46 HL4.out (by omega))
        have HB6 := dhid (HT5.out.on hp6.below).below
        clear hs1 hs2 hp6 hm6 hi6 he46 HR5 HP5 HA5 HI4 hi4' HT5
        go_wp2_with fail
        refine HSM.out.mono ?_
        rintro e W7 ⟨rfl, q, rfl⟩
        go_wp2
        go_ret
        exact ⟨rfl, below_drewN HB6.out q⟩
  · have h80' : (80 : Int) < (n : Int) := by omega
    go_wp2
    go_ret
    exact ⟨rfl, HB1.out⟩
end Go.Proofs.Ytmcbpopeinabcaa
