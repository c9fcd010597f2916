/-
  UndoPlays: its walk.
-/
import Derived.Deep.RegionHeldLaw
import Derived.Deep.CutRange
import Derived.Deep.CutBlock
import Derived.Test.YtdiagnmkfnhnjaaUdS
namespace Go.Proofs.Ytdiagnmkfnhnjaa
open Go.RowKit Rw

theorem dlg_new {w W : World} (h : Below w.heap.size w W) (q : Nat) : DLg w.heap.size W.heap.size q (.slice none 0 0) [] (W.alloc (.cells #[.int .i64 (q : Int), .slice none 0 0] 32)) :=
  ⟨heap_new _ _, h.size, World.ownsRow_nil _ _ _ _⟩

set_option linter.unusedSimpArgs false in
set_option maxRecDepth 100000 in
set_option maxHeartbeats 4000000 in
theorem plays_walk {q0 : Int} {l' : List OpD} {a : Option Addr} {n c : Nat} {w : World} (h : OpsIn w a l') (hl : l'.length = n) :
    Calls Try.prog 3 #[.int .i64 q0, .slice a n c] w fun e w' => e = .returned (.bool true) ∧ Below w.heap.size w w' := by
  have HH := dhid h
  have HLn := dhid hl
  clear h hl
  go_enter Try.func3, Try.ntmps3
  go_wp2_with fail
  refine (awake_walk _).mono ?_
  rintro e W1 ⟨rfl, B1⟩
  have HB1 := dhid B1
  clear B1
  by_cases hq : q0 < 0 ∨ 100000 < q0
  · have HNB := dhid (new_bad q0 hq W1)
    rcases hq with hq | hq
    · go_wp2_with fail
      refine HNB.out.mono ?_
      rintro e W2 ⟨rfl, rfl⟩
      go_wp2
      go_ret
      exact ⟨rfl, HB1.out⟩
    · have hq' : ¬ q0 < 0 := by omega
      go_wp2_with fail
      refine HNB.out.mono ?_
      rintro e W2 ⟨rfl, rfl⟩
      go_wp2
      go_ret
      exact ⟨rfl, HB1.out⟩
  · obtain ⟨q, rfl⟩ : ∃ q : Nat, q0 = (q : Int) := ⟨q0.toNat, by omega⟩
    have hq1 : ¬ (q : Int) < 0 := by omega
    have hq2 : ¬ (100000 : Int) < (q : Int) := by omega
    have hqd1 : decide ((q : Int) < 0) = false := decide_eq_false hq1
    have hqd2 : decide ((100000 : Int) < (q : Int)) = false := decide_eq_false hq2
    clear hq
    go_wp2_with fail
    refine (new_walk q (by omega) _).mono ?_
    rintro e W2 ⟨rfl, rfl⟩
    have HL2 := dhid (lg_new HB1.out q)
    have HB2 : Hid (Below w.heap.size w (W1.alloc (.cells #[.int .i64 (q : Int), .slice none 0 0, .slice none 0 0] 64))) := HB1.out.alloc HB1.out.size _
    have HG := dhid (great_walk (c := c) (HH.out.below HB2.out) HLn.out)
    generalize hWl : W1.heap.size = l at *
    clear hWl HB1
    generalize W1.alloc (.cells #[.int .i64 (q : Int), .slice none 0 0, .slice none 0 0] 64) = W2 at *
    go_wp2_with fail
    refine HG.out.mono ?_
    rintro e W3 ⟨bg, rfl, hg, B3⟩
    have HL3 := dhid (HL2.out.on B3)
    have HB3 := dhid (below_on HB2.out B3 HB2.out.size)
    clear B3 HG HB2 HL2
    cases bg
    case true =>
      go_wp2
      go_ret
      exact ⟨rfl, HB3.out⟩
    have HGP := dhid (hg rfl)
    have hn120 : n ≤ 120 := by rw [← HLn.out]; exact HGP.out.1
    clear hg
    go_wp2
    refine to_letter (F := fun W => PlI w l W3.heap.size q (.slice none 0 0) (.slice none 0 0) [] (.slice none 0 0) [] W) ⟨HL3.out.on (below_alloc _ _), dlg_new HB3.out q, HB3.out.alloc HB3.out.size _, fun _ h => (by cases h), rfl⟩ ?_
    generalize W3.heap.size = d
    intro V1 hV1
    have HV1 := dhid hV1
    clear hV1 HL3 HB3
    go_loopw [49] (fun i wr => ∃ (j : Nat) (v s : Value) (L : List PE) (dv : Value) (D : List DI), j ≤ n ∧ i = .int .i64 (j : Int) ∧ D.length ≤ j ∧ Hid (PlI w l d q v s L dv D wr)) (fun i _ => n - (intOf i).toNat)
    case atStart => exact ⟨0, _, _, _, _, _, Nat.zero_le _, rfl, Nat.le_refl _, HV1.out⟩
    case round =>
      obtain ⟨j, v, s, L, dv, D, hj, rfl, hD, HI⟩ := hrel
      by_cases hlt : j < n
      · obtain ⟨b, o, x, rfl, hb, hx, hok, c0, c1, c2, c3, c4, c5, c6, c7⟩ := (HH.out.below HI.out.below).at (j := j) (by rw [HLn.out]; exact hlt)
        have hsm := HGP.out.2 x (List.mem_of_getElem? hx)
        have HME : Hid (MeansE w x.e.1 x.e.2) := (HH.out.ok x (List.mem_of_getElem? hx)).e.small hsm.2.2.1 hsm.2.2.2
        have hol : x.e.1.ol ≤ 20 := hsm.2.2.1
        have hnl : x.e.1.nl ≤ 20 := hsm.2.2.2
        clear hx hok hsm
        go_upto_block 2 with fail
        refine to_letter (F := fun W => BoxO W wr.heap.size x ∧ PlI w l d q v s L dv D W) ⟨heap_new _ _, HI.out.on (below_alloc _ _)⟩ ?_
        rintro U0 ⟨hbo, hpi⟩
        have HBO := dhid hbo
        have HPI := dhid hpi
        obtain ⟨f0, f1, f2, f3, f4, f5, f6, f7, fl⟩ := hbo.facts
        have hLn : L.length = (ens D).length := hpi.len
        have hEn : (ens D).length ≤ D.length := ens_len D
        have hSn : (svp 0 D).length ≤ D.length := svp_len D 0
        clear HI c0 c1 c2 c3 c4 c5 c6 c7 hb hbo hpi
        generalize wr.heap.size = A at *
        go_cut [10] from 50 to 139 (fun s10 wx => s10 = .bool true ∧ ∃ (v s : Value) (L : List PE) (dv : Value) (D : List DI), D.length ≤ j + 1 ∧ Hid (PlI w l d q v s L dv D wx))
        case first =>
          have hk : x.k = 0 ∨ x.k = 1 ∨ x.k = 2 ∨ x.k = 3 ∨ (x.k ≠ 0 ∧ x.k ≠ 1 ∧ x.k ≠ 2 ∧ x.k ≠ 3) := by omega
          rcases hk with hk | hk | hk | hk | hk
          · as_aux_lemma =>
              rw [hk] at f0
              go_upto_region 18 with fail
              refine to_letter (F := fun W => Below U0.heap.size U0 W ∧ Box5 W U0.heap.size (.int .i64 x.e.1.k) (.int .i64 x.e.1.id) (.string x.e.1.t) (.slice x.e.1.oa x.e.1.ol x.e.1.oc) (.slice x.e.1.na x.e.1.nl x.e.1.nc)) ⟨below_alloc _ _, heap_new _ _⟩ ?_
              rintro U ⟨bU, CU⟩
              have HBU := dhid bU
              have HCU := dhid CU
              clear f0 f1 f2 f3 f4 f5 f6 f7 fl bU CU
              obtain ⟨X, HX⟩ : ∃ X, Hid (U0.heap.size = X) := ⟨_, rfl⟩
              rw [HX.out] at HCU ⊢
              have HS1 : Hid (∀ W, Below X U W → Src W x.e.1.oa x.e.1.ol x.e.1.oc (flat vaC x.e.2.o)) := fun W hW => by
                have hb : Below U0.heap.size U0 W := by rw [← HX.out] at hW; exact HBU.out.trans hW
                exact ((HME.out.below (below_on HPI.out.below hb HPI.out.below.size)).o).srcG HME.out.ol HME.out.oc
              have HS2 : Hid (∀ W, Below X U W → Src W x.e.1.na x.e.1.nl x.e.1.nc (flat vaC x.e.2.n)) := fun W hW => by
                have hb : Below U0.heap.size U0 W := by rw [← HX.out] at hW; exact HBU.out.trans hW
                exact ((HME.out.below (below_on HPI.out.below hb HPI.out.below.size)).n).srcG HME.out.nl HME.out.nc
              have HV1 : Hid ((flat vaC x.e.2.o).length = x.e.1.ol * 3) := by show _ = _; rw [flat_length vaC_len, HME.out.ol]
              have HV2 : Hid ((flat vaC x.e.2.n).length = x.e.1.nl * 3) := by show _ = _; rw [flat_length vaC_len, HME.out.nl]
              have HCP : Hid (∀ {W : World} {a5 a7 : Option Addr} {k5 k7 : Nat}, Below X U W → W.heap[X]? = some (.cells #[.int .i64 x.e.1.k, .int .i64 x.e.1.id, .string x.e.1.t, .slice a5 x.e.1.ol k5, .slice a7 x.e.1.nl k7] 35 (0, 0)) → W.ownsRow U.heap.size 42 3 (.slice a5 x.e.1.ol k5) x.e.1.ol (flat vaC x.e.2.o) → W.ownsRow U.heap.size 42 3 (.slice a7 x.e.1.nl k7) x.e.1.nl (flat vaC x.e.2.n) → CpX U0 X x a5 k5 a7 k7 W) := fun {W a5 a7 k5 k7} h1 h2 h3 h4 =>
                ⟨by rw [← HX.out] at h1; exact HBU.out.trans h1, h2, owns_mono h3 fun p hp => Nat.le_trans HBU.out.size (h3.lt p hp).1, owns_mono h4 fun p hp => Nat.le_trans HBU.out.size (h4.lt p hp).1, by rw [HX.out]; exact Nat.le_refl _⟩
              go_cut [] from 59 to 68 (fun wx => ∃ a5 k5 a7 k7, Hid (CpX U0 X x a5 k5 a7 k7 wx))
              case first =>
                refine two_copies (s := 59) (xs := 11) (X := X) (fo := 3) (fn := 4) (T := 35) (bx := fun p r => #[.int .i64 x.e.1.k, .int .i64 x.e.1.id, .string x.e.1.t, p, r]) (by kernel_rfl)
                  ⟨⟨_, rfl, rfl, rfl, rfl⟩, ⟨_, rfl, rfl, rfl, rfl⟩, ⟨_, rfl, rfl, rfl, rfl, dep_of (by kernel_rfl)⟩, ⟨_, rfl, rfl, rfl, rfl, dep_of (by kernel_rfl), dep_of (by kernel_rfl)⟩, ⟨_, rfl, rfl, rfl, rfl⟩, ⟨_, rfl, rfl, rfl, rfl⟩, ⟨_, rfl, rfl, rfl, rfl, dep_of (by kernel_rfl)⟩, ⟨_, rfl, rfl, rfl, rfl, dep_of (by kernel_rfl), dep_of (by kernel_rfl), dep_of (by kernel_rfl)⟩, ⟨_, rfl, rfl, rfl, rfl⟩, ⟨_, rfl, rfl, rfl, rfl, dep_of (by kernel_rfl), dep_of (by kernel_rfl), dep_of (by kernel_rfl)⟩, ⟨_, rfl, rfl, rfl, rfl⟩, ⟨_, rfl, rfl, rfl, rfl, dep_of (by kernel_rfl), dep_of (by kernel_rfl)⟩, rfl, low_of (by kernel_rfl)⟩
                  (by simp) (by decide) rfl HCU.out (fun _ _ => rfl) (fun _ _ => rfl) (fun _ _ _ => rfl) (fun _ _ _ => rfl) HS1.out HS2.out HV1.out HV2.out (flat_one vaC_one) (flat_one vaC_one) (by omega) (by omega)
                  (fun f hf o a w K h1 h2 h3 => op_fa h1 h2 hf h3) ?_
                intro v0 v1 v2 v3 v4 v5 v6 v7 v8 v9 W a5 k5 a7 k7 g1 g2 g3 g4 _
                have HCX := dhid (HCP.out g1 g2 g3 g4)
                clear g1 g2 g3 g4
                simp only [Act.put, List.setIfInBounds_toArray, List.set_cons_succ, List.set_cons_zero]
                go_wp2_with fail
                go_meet
                case rel => exact ⟨a5, k5, a7, k7, HCX⟩
              case rest =>
                obtain ⟨a5, k5, a7, k7, HCX⟩ := hcut
                obtain ⟨E, hE⟩ := add_both (J := j) HPI.out HCX.out HBO.out HME.out hD (by omega)
                have HEA := dhid hE
                have hEE : (E == E) = true := beq_self_eq_true _
                have bo1 : BoxO wc A x := (HCX.out.below.block _ HBO.out.facts.2.2.2.2.2.2.2.2).trans HBO.out
                obtain ⟨g0, g1, g2, g3, g4, gl⟩ := HCX.out.box.facts
                obtain ⟨-, -, -, h3, h4, h5, h6, h7, hl7⟩ := bo1.facts
                have KS : Hid (∀ W, Box5 W X (.int .i64 x.e.1.k) (.int .i64 x.e.1.id) (.string x.e.1.t) (.slice a5 x.e.1.ol k5) (.slice a7 x.e.1.nl k7) → BoxO W A x → (W.cell? ⟨X, 0, none⟩ = some (.int .i64 x.e.1.k) ∧ W.cell? ⟨X, 1, none⟩ = some (.int .i64 x.e.1.id) ∧ W.cell? ⟨X, 2, none⟩ = some (.string x.e.1.t) ∧ W.cell? ⟨X, 3, none⟩ = some (.slice a5 x.e.1.ol k5) ∧ W.cell? ⟨X, 4, none⟩ = some (.slice a7 x.e.1.nl k7)) ∧ W.cell? ⟨A, 3, none⟩ = some (.int .i64 x.e.1.k) ∧ W.cell? ⟨A, 4, none⟩ = some (.int .i64 x.e.1.id) ∧ W.cell? ⟨A, 5, none⟩ = some (.string x.e.1.t) ∧ W.cell? ⟨A, 6, none⟩ = some (.slice x.e.1.oa x.e.1.ol x.e.1.oc) ∧ W.cell? ⟨A, 7, none⟩ = some (.slice x.e.1.na x.e.1.nl x.e.1.nc)) := fun W k1 k2 => by
                  obtain ⟨i0, i1, i2, i3, i4, _⟩ := k1.facts
                  obtain ⟨_, _, _, j3, j4, j5, j6, j7, _⟩ := k2.facts
                  exact ⟨⟨i0, i1, i2, i3, i4⟩, j3, j4, j5, j6, j7⟩
                have KS0 := KS.out wc HCX.out.box bo1
                clear hE bo1 HS1 HS2 HV1 HV2 HCP HCU HBU HME HCX HBO HPI hLn hEn hSn
                go_wp2_with fail
                go_region_held_law (fun w' => (w'.cell? ⟨X, 0, none⟩ = some (.int .i64 x.e.1.k) ∧ w'.cell? ⟨X, 1, none⟩ = some (.int .i64 x.e.1.id) ∧ w'.cell? ⟨X, 2, none⟩ = some (.string x.e.1.t) ∧ w'.cell? ⟨X, 3, none⟩ = some (.slice a5 x.e.1.ol k5) ∧ w'.cell? ⟨X, 4, none⟩ = some (.slice a7 x.e.1.nl k7)) ∧ w'.cell? ⟨A, 3, none⟩ = some (.int .i64 x.e.1.k) ∧ w'.cell? ⟨A, 4, none⟩ = some (.int .i64 x.e.1.id) ∧ w'.cell? ⟨A, 5, none⟩ = some (.string x.e.1.t) ∧ w'.cell? ⟨A, 6, none⟩ = some (.slice x.e.1.oa x.e.1.ol x.e.1.oc) ∧ w'.cell? ⟨A, 7, none⟩ = some (.slice x.e.1.na x.e.1.nl x.e.1.nc)) (first | assumption | exact KS0)
                  (first
                    | (go_at_call 9; with_reducible refine (HEA.out _ ?_).mono ?_
                       · repeat (first | exact Below.refl _ _ | refine Below.drew ?_)
                       rintro e W4 ⟨rfl, ⟨bx4, bo4⟩, hR4⟩
                       have KS4 := KS.out W4 bx4 bo4
                       have HR4 := dhid hR4
                       clear bx4 bo4 hR4 HEA)
                    | (go_at_call 10; with_reducible refine (HR4.out _ ?_).mono ?_
                       · repeat (first | exact Below.refl _ _ | refine Below.drew ?_)
                       rintro e W5 ⟨rfl, v5, L5, dv5, D5, af5⟩
                       have KS5 := KS.out W5 af5.box af5.bo
                       have HAF := dhid af5
                       clear af5 HR4))
                all_goals
                  go_simp
                  go_wp2_with fail
                  clear KS5 KS4 KS0 KS g0 g1 g2 g3 g4 gl h3 h4 h5 h6 h7 hl7
                  go_loopw [80] (fun i wr => ∃ (t : Nat) (m' : List Va), t ≤ x.e.1.ol ∧ i = .int .i64 (t : Int) ∧ Hid (AfX w l d q s U0 X A x a5 k5 a7 k7 (j + 1) v5 L5 dv5 D5 m' wr)) (fun i _ => x.e.1.ol - (intOf i).toNat)
                  case atStart => exact ⟨0, _, Nat.zero_le _, rfl, HAF⟩
                  case round =>
                    obtain ⟨t, m', ht, rfl, HA⟩ := hrel
                    have b3 := HA.out.box.facts.2.2.2.1
                    have bl := HA.out.box.facts.2.2.2.2.2
                    by_cases hto : t < x.e.1.ol
                    · obtain ⟨g, y, rfl, hy, e1, ef, egl, hst⟩ := HA.out.store hto
                      have HST := dhid hst
                      clear hy hst HA HAF
                      go_wp2
                      exact ⟨⟨t + 1, _, hto, by go_num, HST.out _⟩, by simp [intOf]; omega⟩
                    · have hte : t = x.e.1.ol := by omega
                      subst hte
                      go_wp2_with fail
                      go_meet
                      case rel => exact ⟨rfl, _, _, _, _, _, HA.out.len, HA.out.pl⟩
          · as_aux_lemma =>
              rw [hk] at f0
              have HSV := dhid (save_walk (name := x.s) HPI.out.lg (by omega))
              go_wp2_with fail
              refine HSV.out.mono ?_
              rintro e W4 ⟨rfl, s4, L4, B4, K4⟩
              have d4 := HPI.out.dl.kept HPI.out.lg K4
              have HRS := dhid (rsave_walk (name := x.s) d4 (by omega))
              have HFI : Hid (∀ {dv' : Value} {W5 : World}, DocO w.heap.size d q dv' (D ++ [⟨true, x.s, zE⟩]) W4 W5 → PlI w l d q v s4 L dv' (D ++ [⟨true, x.s, zE⟩]) W5) := fun o5 => HPI.out.save L4 B4 K4 o5
              have z2 : W4.cell? ⟨A, 2, none⟩ = some (.string x.s) := cell_of_row _ _ _ _ _ _ (HPI.out.lg.kept K4 HBO.out (by decide) (by decide) (by decide))
              have zl : A < W4.heap.size := World.block_lt_of_cell? _ _ z2
              clear f0 f1 f2 f3 f4 f5 f6 f7 fl HSV L4 B4 K4 d4
              go_wp2_with fail
              refine HRS.out.mono ?_
              rintro e W5 ⟨rfl, dv5, o5⟩
              have HP5 := dhid (HFI.out o5)
              clear HRS HFI o5
              go_wp2_with fail
              go_meet
              case rel => exact ⟨rfl, _, _, _, _, _, by simp; omega, HP5⟩
          · as_aux_lemma =>
              rw [hk] at f0
              have HBW := dhid (back_walk (name := x.s) HPI.out.lg (by omega) (by omega))
              rcases bk_cases x.s D with hno | ⟨i, hi⟩
              · have hnoS := bk_none hno
                have HRB := dhid (rback_walk (name := x.s) HPI.out.dl (by omega))
                have HNO := dhid hno
                have HNS := dhid hnoS
                have HPW := dhid (plain_walk (l := []) (a := none) (n := 0) (c := 0) (w := U0) (Or.inl rfl) rfl (by decide))
                clear hno hnoS
                go_wp2_with fail
                refine HBW.out.mono ?_
                intro e W4 h4
                obtain ⟨rfl, rfl⟩ := backE_none h4 HNS.out
                clear h4
                go_wp2_with fail
                refine HRB.out.mono ?_
                intro e W5 h5
                obtain ⟨rfl, rfl⟩ := rbackE_none h5 HNO.out
                clear h5
                go_wp2_with fail
                refine HPW.out.mono ?_
                rintro e W6 ⟨v6, rfl, o6, b6⟩
                obtain ⟨a6, c6, rfl⟩ := owns_slice o6
                have HP6 := dhid (HPI.out.on b6)
                have HSW := dhid (esame_walk (l := []) (m := []) (a := a6) (b := none) (n := 0) (c := c6) (d := 0) (w := W6) (Or.inl rfl) (Or.inl rfl) (fun _ h => (by cases h)) (fun _ h => (by cases h)) rfl rfl (by decide))
                clear o6 b6 HPW
                go_wp2_with fail
                refine HSW.out.mono ?_
                rintro e W7 ⟨rfl, q7, rfl⟩
                have HP7 := dhid (HP6.out.on (below_drewN (Below.refl _ _) q7))
                clear HSW HP6
                go_wp2_with fail
                go_meet
                case rel => exact ⟨rfl, _, _, _, _, _, by omega, HP7⟩
              · obtain ⟨k, m, hk1, hk2, ee, ed, es⟩ := hi.law
                have HHI := dhid hi
                have HK1 := dhid hk1
                have HK2 := dhid hk2
                have HEE := dhid ee
                have HED := dhid ed
                have HES := dhid es
                clear hi hk1 hk2 ee ed es
                have hil : i < D.length := by obtain ⟨y, hy, _⟩ := HHI.out; exact (List.getElem?_eq_some_iff.1 hy).1
                go_wp2_with fail
                refine HBW.out.mono ?_
                intro e W4 h4
                obtain ⟨vt, v4, s4, rfl, O4⟩ := backE_some (x := (x.s, m)) h4 HK1.out rfl HK2.out
                have O4lg := O4.lg
                have O4tk := O4.tak
                dsimp only at O4lg O4tk
                rw [← HES.out] at O4lg
                have A4 := HPI.out.cutA O4lg O4.below O4.keeps O4.lone
                have HA4 := dhid A4
                obtain ⟨at4, ct4, rfl⟩ := owns_slice O4tk
                have HTK := dhid O4tk
                have z2 : W4.cell? ⟨A, 2, none⟩ = some (.string x.s) := cell_of_row _ _ _ _ _ _ (HPI.out.lg.kept O4.keeps HBO.out (by decide) (by decide) (by decide))
                have zl : A < W4.heap.size := World.block_lt_of_cell? _ _ z2
                have HRB := dhid (rback_walk (name := x.s) A4.dl (by omega))
                clear h4 O4 O4lg O4tk A4 f0 f1 f2 f3 f4 f5 f6 f7 fl HBW
                obtain ⟨dn, HDN⟩ : ∃ dn, Hid ((L.drop m).length = dn) := ⟨_, rfl⟩
                have hdb : dn ≤ 200 := by rw [← HDN.out, List.length_drop]; omega
                rw [HDN.out] at HTK
                rw [HDN.out]
                go_wp2_with fail
                refine HRB.out.mono ?_
                intro e W5 h5
                obtain ⟨vt5, dv5, rfl, o5, D5⟩ := rbackE_some h5 HHI.out
                rw [HED.out] at o5
                obtain ⟨p5, l5⟩ := HA4.out.both HPI.out D5 HEE.out
                rw [show ((ens D).drop m).length = dn by rw [← HDN.out, List.length_drop, List.length_drop, hLn]] at o5
                obtain ⟨a5, c5, rfl⟩ := owns_slice o5
                have tk5 := own_doc HTK.out HA4.out.dl D5.keeps (by decide)
                have HPW := dhid (plain_walk (n := dn) (c := ct4) (owns_slg peC_len (by decide) tk5).2.1 (by rw [List.length_reverse]; exact HDN.out) (by omega))
                have HP5 := dhid p5
                have HL5 := dhid l5
                have HO5 := dhid o5
                clear h5 D5 tk5 p5 l5 o5 HRB HTK HA4 z2 zl
                go_wp2_with fail
                refine HPW.out.mono ?_
                rintro e W6 ⟨v6, rfl, o6, b6⟩
                obtain ⟨a6, c6, rfl⟩ := owns_slice o6
                have HP6 := dhid (HP5.out.on b6)
                have HSW := dhid (esame_walk (n := dn) (c := c6) (d := c5) (owns_slg peC_len (by decide) o6).2.1 (owns_slg peC_len (by decide) (owns_on HO5.out b6)).2.1 (HL5.out.on b6).taken (HPI.out.means HP6.out.below) HPI.out.taken (by rw [List.length_reverse]; exact HDN.out) (by omega))
                clear o6 b6 HPW HP5 HL5 HO5
                go_wp2_with fail
                refine HSW.out.mono ?_
                rintro e W7 ⟨rfl, q7, rfl⟩
                have HP7 := dhid (HP6.out.on (below_drewN (Below.refl _ _) q7))
                clear HSW HP6
                go_wp2_with fail
                go_meet
                case rel => exact ⟨rfl, _, _, _, _, _, by rw [List.length_take]; omega, HP7⟩
          · as_aux_lemma =>
              rw [hk] at f0
              obtain ⟨m, HMX⟩ : ∃ m : Nat, Hid (max x.n 0 = (m : Int)) := ⟨x.n.toNat, by show _ = _; omega⟩
              obtain ⟨dn, HDN⟩ : ∃ dn, Hid ((L.drop m).length = dn) := ⟨_, rfl⟩
              have hdb : dn ≤ 200 := by rw [← HDN.out, List.length_drop]; omega
              have HTO : Hid (∀ W, Below U0.heap.size U0 W → Calls Try.prog 17 #[.pointer (some ⟨l, 0, none⟩), .int .i64 x.n] W fun e w' => ∃ at4 ct4 v4 s4, e = .returned (.slice at4 dn ct4) ∧ CutA w l d q v4 s4 dv L D m (upto m (svp 0 D)) w' ∧ w'.ownsRow 0 35 5 (.slice at4 dn ct4) dn (flat peC (L.drop m).reverse) ∧ BoxO w' A x) := fun W hW => by
                have hp := HPI.out.on hW
                refine (to_walk hp.lg HMX.out (by omega) (by omega)).mono ?_
                rintro e w' ⟨vt, v4, s4, rfl, T4⟩
                have tk := T4.tak
                rw [HDN.out] at tk
                obtain ⟨at4, ct4, rfl⟩ := owns_slice tk
                exact ⟨at4, ct4, v4, s4, rfl, hp.cutA T4.lg T4.below T4.keeps T4.lone, owns_mono tk fun _ _ => Nat.zero_le _, hp.lg.kept T4.keeps ((hW.block _ fl).trans HBO.out) (by decide) (by decide) (by decide)⟩
              have HRT : Hid (∀ {v4 s4 : Value} {W : World}, CutA w l d q v4 s4 dv L D m (upto m (svp 0 D)) W → Calls Try.prog 18 #[.pointer (some ⟨d, 0, none⟩), .int .i64 x.n] W fun e w' => ∃ a5 c5 dv5 D5, e = .returned (.slice a5 dn c5) ∧ D5.length ≤ D.length ∧ PlI w l d q v4 s4 (L.take m) dv5 D5 w' ∧ LoneE w' L ∧ w'.ownsRow W.heap.size 40 5 (.slice a5 dn c5) dn (flat peC ((ens D).drop m).reverse) ∧ KeepsD d W w' ∧ W.heap.size ≤ w'.heap.size) := fun {v4 s4 W} hA => by
                refine (rto_walk hA.dl HMX.out (by omega)).mono ?_
                rintro e w' ⟨vt, rfl, i, dv5, hJ, o5, D5⟩
                obtain ⟨e1, e2, e3⟩ := hJ.law
                rw [e2] at o5
                rw [show ((ens D).drop m).length = dn by rw [← HDN.out, List.length_drop, List.length_drop, hLn]] at o5
                obtain ⟨a5, c5, rfl⟩ := owns_slice o5
                rw [← e3] at hA
                obtain ⟨p5, l5⟩ := hA.both HPI.out D5 e1
                exact ⟨a5, c5, dv5, _, rfl, by rw [List.length_take]; omega, p5, l5, o5, D5.keeps, D5.below.size⟩
              have KS : Hid (∀ W, BoxO W A x → W.cell? ⟨A, 1, none⟩ = some (.int .i64 x.n)) := fun W hW => hW.facts.2.1
              have HPL : Hid (∀ {at4 : Option Addr} {ct4 : Nat} {W4 : World}, W4.ownsRow 0 35 5 (.slice at4 dn ct4) dn (flat peC (L.drop m).reverse) → ∀ W, Below W4.heap.size W4 W → Calls Try.prog 16 #[.slice at4 dn ct4] W fun e w' => ∃ a6 c6, e = .returned (.slice a6 dn c6) ∧ w'.ownsRow 0 40 5 (.slice a6 dn c6) dn (flat peC (L.drop m).reverse) ∧ Below W4.heap.size W4 w') := fun {at4 ct4 W4} tk4 W hW => by
                refine (plain_walk (n := dn) (c := ct4) (owns_slg peC_len (by decide) (owns_on tk4 hW)).2.1 (by rw [List.length_reverse]; exact HDN.out) (by omega)).mono ?_
                rintro e w' ⟨v6, rfl, o6, b6⟩
                obtain ⟨a6, c6, rfl⟩ := owns_slice o6
                exact ⟨a6, c6, rfl, owns_mono o6 fun _ _ => Nat.zero_le _, below_on hW b6 hW.size⟩
              have HR6 : Hid (∀ {v4 s4 : Value} {a6 : Option Addr} {c6 : Nat} {W6 : World}, CutA w l d q v4 s4 dv L D m (upto m (svp 0 D)) W6 → W6.ownsRow 0 40 5 (.slice a6 dn c6) dn (flat peC (L.drop m).reverse) → BoxO W6 A x → ∀ W, Below W6.heap.size W6 W → Calls Try.prog 18 #[.pointer (some ⟨d, 0, none⟩), .int .i64 x.n] W fun e w' => ∃ a5 c5 dv5 D5, e = .returned (.slice a5 dn c5) ∧ D5.length ≤ D.length ∧ PlI w l d q v4 s4 (L.take m) dv5 D5 w' ∧ LoneE w' L ∧ w'.ownsRow 0 40 5 (.slice a5 dn c5) dn (flat peC ((ens D).drop m).reverse) ∧ w'.ownsRow 0 40 5 (.slice a6 dn c6) dn (flat peC (L.drop m).reverse) ∧ BoxO w' A x) := fun {v4 s4 a6 c6 W6} hA6 o6 bo6 W hW => by
                have hA := hA6.on hW
                refine (HRT.out hA).mono ?_
                rintro e w' ⟨a5, c5, dv5, D5, rfl, h1, h2, h3, h4, h5, -⟩
                refine ⟨a5, c5, dv5, D5, rfl, h1, h2, h3, owns_mono h4 fun _ _ => Nat.zero_le _, own_doc (owns_on o6 hW) hA.dl h5 (by decide), ?_⟩
                have hA' := (hW.block _ bo6.facts.2.2.2.2.2.2.2.2).trans bo6
                refine (h5 A (Array.getElem?_eq_some_iff.1 hA').1 ?_).trans hA'
                rintro rfl
                rw [hA.dl.box] at hA'
                injection Option.some.inj hA' with _ e2 _
                exact absurd e2 (by decide)
              have HS8 : Hid (∀ {v4 s4 dv5 : Value} {D5 : List DI} {a5 a6 : Option Addr} {c5 c6 : Nat} {W8 : World}, PlI w l d q v4 s4 (L.take m) dv5 D5 W8 → LoneE W8 L → W8.ownsRow 0 40 5 (.slice a5 dn c5) dn (flat peC ((ens D).drop m).reverse) → W8.ownsRow 0 40 5 (.slice a6 dn c6) dn (flat peC (L.drop m).reverse) → BoxO W8 A x → ∀ W, Below W8.heap.size W8 W → Calls Try.prog 15 #[.slice a6 dn c6, .slice a5 dn c5] W fun e w' => e = .returned (.bool true) ∧ PlI w l d q v4 s4 (L.take m) dv5 D5 w' ∧ BoxO w' A x) := fun {v4 s4 dv5 D5 a5 a6 c5 c6 W8} p5 l5 o5 o6 bo8 W hW => by
                refine (esame_walk (n := dn) (c := c6) (d := c5) (owns_slg peC_len (by decide) (owns_on o6 hW)).2.1 (owns_slg peC_len (by decide) (owns_on o5 hW)).2.1 (l5.on hW).taken (HPI.out.means (p5.on hW).below) HPI.out.taken (by rw [List.length_reverse]; exact HDN.out) (by omega)).mono ?_
                rintro e w' ⟨rfl, q8, rfl⟩
                have bq := below_drewN (Below.refl W.heap.size W) q8
                exact ⟨rfl, (p5.on hW).on bq, (hW.block _ bo8.facts.2.2.2.2.2.2.2.2).trans bo8⟩
              have HBON : Hid (∀ {W W' : World}, BoxO W A x → Below W.heap.size W W' → BoxO W' A x) := fun bo hb => (hb.block _ bo.facts.2.2.2.2.2.2.2.2).trans bo
              clear f0 f2 f3 f4 f5 f6 f7
              go_upto_region 33 with fail
              go_region_held_law (fun w' => w'.cell? ⟨A, 1, none⟩ = some (.int .i64 x.n)) (first | assumption | exact f1)
                (first
                  | (go_at_call 17; with_reducible refine (HTO.out _ ?_).mono ?_
                     · repeat (first | exact Below.refl _ _ | refine Below.drew ?_)
                     rintro e W4 ⟨at4, ct4, v4, s4, rfl, A4, tk4, bo4⟩
                     have HA4 := dhid A4
                     have HBO4 := dhid bo4
                     have KS4 := KS.out W4 bo4
                     have HPW := dhid (HPL.out tk4)
                     clear A4 tk4 bo4 HTO HPL)
                  | (go_at_call 16; with_reducible refine (HPW.out _ ?_).mono ?_
                     · repeat (first | exact Below.refl _ _ | refine Below.drew ?_)
                     rintro e W6 ⟨a6, c6, rfl, o6, b6⟩
                     have bo6 := HBON.out HBO4.out b6
                     have KS6 := KS.out W6 bo6
                     have HRT6 := dhid (HR6.out (HA4.out.on b6) o6 bo6)
                     clear o6 b6 bo6 HPW HR6)
                  | (go_at_call 18; with_reducible refine (HRT6.out _ ?_).mono ?_
                     · repeat (first | exact Below.refl _ _ | refine Below.drew ?_)
                     rintro e W8 ⟨a5, c5, dv5, D5, rfl, hD5, p5, l5, o5, o6, bo8⟩
                     have KS8 := KS.out W8 bo8
                     have HSM := dhid (HS8.out p5 l5 o5 o6 bo8)
                     clear p5 l5 o5 o6 bo8 HRT6 HS8)
                  | (go_at_call 15; with_reducible refine (HSM.out _ ?_).mono ?_
                     · repeat (first | exact Below.refl _ _ | refine Below.drew ?_)
                     rintro e W9 ⟨rfl, p9, bo9⟩
                     have HP9 := dhid p9
                     have KS9 := KS.out W9 bo9
                     clear p9 bo9 HSM))
              all_goals
                go_simp
                go_wp2_with fail
                go_meet
                case rel => exact ⟨rfl, _, _, _, _, _, by omega, HP9⟩
          · as_aux_lemma =>
              have hk0 : (x.k == 0) = false := beq_eq_false_iff_ne.2 hk.1
              have hk1 : (x.k == 1) = false := beq_eq_false_iff_ne.2 hk.2.1
              have hk2 : (x.k == 2) = false := beq_eq_false_iff_ne.2 hk.2.2.1
              have hk3 : (x.k == 3) = false := beq_eq_false_iff_ne.2 hk.2.2.2
              clear hk
              go_wp2_with fail
              go_meet
              case rel => exact ⟨rfl, _, _, _, _, _, by omega, HPI⟩
        case rest =>
          obtain ⟨h10, v', s', L', dv', D', hD', HP⟩ := hcut
          subst h10
          clear f0 f1 f2 f3 f4 f5 f6 f7 fl HBO HPI hLn hEn hSn
          have hL : L'.length = (ens D').length := HP.out.len
          have hE : (ens D').length ≤ D'.length := ens_len D'
          have hS : (svp 0 D').length ≤ D'.length := svp_len D' 0
          obtain ⟨a1, c1, e1⟩ := owns_slice HP.out.lg.own
          subst e1
          have x1 := HP.out.lg.facts.2.1
          have HRL := dhid (rlen_walk HP.out.dl (by omega))
          have HSW := dhid (saves_walk HP.out.lg (by omega))
          rw [← hL] at HRL
          have hmm : ((L'.length : Int) == (L'.length : Int)) = true := beq_self_eq_true _
          clear hL hE hS
          obtain ⟨m, HM⟩ : ∃ m, Hid (L'.length = m) := ⟨_, rfl⟩
          rw [HM.out] at x1 HRL hmm
          go_wp2_with fail
          refine (len_walk x1).mono ?_
          rintro e W4 ⟨rfl, rfl⟩
          go_wp2_with fail
          refine HRL.out.mono ?_
          rintro e W5 ⟨rfl, rfl⟩
          go_wp2_with fail
          refine HSW.out.mono ?_
          rintro e W6 ⟨v6, rfl, o6, b6⟩
          have HP6 := dhid (HP.out.on b6)
          have HRW := dhid (rsaves_walk HP6.out.dl (by omega))
          have HO6 := dhid o6
          obtain ⟨a6, c6, rfl⟩ := owns_slice o6
          clear o6 b6 x1 HRL HSW
          go_wp2_with fail
          refine HRW.out.mono ?_
          rintro e W7 ⟨v7, rfl, o7, b7⟩
          have HP7 := dhid (HP6.out.on b7)
          obtain ⟨a7, c7, rfl⟩ := owns_slice o7
          have o6 := owns_on HO6.out b7
          rw [flat_nm, svp_nms] at o6
          have hsl : (svp 0 D').length = (nms D').length := by rw [← svp_nms D' 0, List.length_map]
          rw [hsl] at o6
          have HMW := dhid (sames_walk (c := c6) (c' := c7) (owns_slg nmC_len (by decide) o6).2.1 (owns_slg nmC_len (by decide) o7).2.1 rfl (Nat.le_trans (nms_len D') (by omega)))
          rw [hsl]
          clear o6 o7 b7 HRW HO6 HP6 hsl
          go_wp2_with fail
          refine HMW.out.mono ?_
          rintro e W8 ⟨rfl, q8, rfl⟩
          have HP8 := dhid (HP7.out.on (below_drewN (Below.refl _ _) q8))
          clear HMW HP7
          go_wp2
          exact ⟨⟨j + 1, _, _, _, _, _, hlt, by go_num, hD', HP8⟩, by simp [intOf]; omega⟩
      · have hjn : j = n := by omega
        subst hjn
        have hL : L.length = (ens D).length := HI.out.len
        have hE : (ens D).length ≤ D.length := ens_len D
        have hS : (svp 0 D).length ≤ D.length := svp_len D 0
        have hdb : L.length ≤ 200 := by omega
        have HTW := dhid (to_walk (n := 0) (m := 0) HI.out.lg (by decide) (by omega) (by omega))
        have HLN := dhid hL
        clear hE hS hL
        obtain ⟨dn, HDN⟩ : ∃ dn, Hid (L.length = dn) := ⟨_, rfl⟩
        rw [HDN.out] at hdb
        go_wp2_with fail
        refine HTW.out.mono ?_
        rintro e W4 ⟨vt, v4, s4, rfl, T4⟩
        have tk := T4.tak
        rw [List.drop_zero, HDN.out] at tk
        obtain ⟨at4, ct4, rfl⟩ := owns_slice tk
        have HA4 := dhid (HI.out.cutA T4.lg T4.below T4.keeps T4.lone)
        have HPW := dhid (plain_walk (n := dn) (c := ct4) (owns_slg peC_len (by decide) tk).2.1 (by rw [List.length_reverse]; exact HDN.out) (by omega))
        clear T4 tk HTW
        go_wp2_with fail
        refine HPW.out.mono ?_
        rintro e W6 ⟨v6, rfl, o6, b6⟩
        obtain ⟨a6, c6, rfl⟩ := owns_slice o6
        have HA6 := dhid (HA4.out.on b6)
        have HO6 := dhid o6
        have HRT := dhid (rto_walk (n := 0) (m := 0) HA6.out.dl (by decide) (by omega))
        clear o6 b6 HPW HA4
        go_wp2_with fail
        refine HRT.out.mono ?_
        rintro e W7 ⟨vt7, rfl, i, dv7, hJ, o7, D7⟩
        obtain ⟨e1, e2, e3⟩ := hJ.law
        rw [e2, List.drop_zero, ← HLN.out, HDN.out] at o7
        obtain ⟨a7, c7, rfl⟩ := owns_slice o7
        have lg7 := HA6.out.lg.doc HA6.out.dl D7.keeps
        have HB7 := dhid (HA6.out.below.trans D7.below)
        have ln7 := HA6.out.lone.doc HA6.out.dl D7.keeps
        have HSM := dhid (esame_walk (n := dn) (c := c6) (d := c7) (l := L.reverse) (m := (ens D).reverse) (owns_slg peC_len (by decide) (own_doc HO6.out HA6.out.dl D7.keeps (by decide))).2.1 (owns_slg peC_len (by decide) o7).2.1 (fun x hx => ln7.all x (List.mem_reverse.1 hx)) (fun x hx => HI.out.means (n := 0) HB7.out x hx) (by rw [List.map_reverse, List.map_reverse, HI.out.same]) (by rw [List.length_reverse]; exact HDN.out) (by omega))
        obtain ⟨a8, c8, e8⟩ := owns_slice lg7.own
        subst e8
        have x1 := lg7.facts.2.1
        rw [List.take_zero, List.length_nil] at x1
        clear hJ o7 D7 e1 e2 e3 lg7 ln7 HRT HO6 HA6
        go_wp2_with fail
        refine HSM.out.mono ?_
        rintro e W8 ⟨rfl, q8, rfl⟩
        have x1' : (W7.drewN q8).cell? ⟨l, 1, none⟩ = some (.slice a8 0 c8) := x1
        have HB8 := dhid (below_drewN HB7.out q8)
        clear x1 HSM HB7
        go_wp2_with fail
        refine (len_walk x1').mono ?_
        rintro e W9 ⟨rfl, rfl⟩
        go_wp2
        go_ret
        exact ⟨rfl, HB8.out⟩
end Go.Proofs.Ytdiagnmkfnhnjaa
