/-
  IndexNone: its walk.
-/
import Derived.Test.YtjocopclgehciaaGreatDoorMBB
import Derived.Deep.Slices
import Derived.Deep.Strs
import Derived.Lib.SmallJoins
import Derived.ProofKit
import Derived.OpenShut
import Derived.Test.YtjocopclgehciaaGreatDoorMAC
namespace Go.Proofs.YtjocopclgehciaaGreatDoor
open Go.RowKit
open L4 (Ar ArP Abs arV nv)
open L3 (valV fits)

set_option maxRecDepth 100000 in
theorem inew_nil (w : World) : Calls Tryz.prog 9 #[.pointer none] w fun e w' => e = .returned (.tuple #[.pointer none, .int .i64 15]) ∧ Below w.heap.size w w' := by
  go_enter Tryz.func9, Tryz.ntmps9
  go_wp2_with fail
  refine (new_nil _).mono ?_
  rintro e w1 ⟨rfl, B1⟩
  have HB := thid B1
  clear B1
  go_wp2
  go_ret2
  exact ⟨rfl, HB.out⟩

set_option maxRecDepth 100000 in
set_option maxHeartbeats 2000000 in
theorem none_walk {l : List OpX} {ox : OpX} {a : Option Addr} {c : Nat} {w : World} (h1 : OpsIn w a l) (hf : ∀ x ∈ l, x.fit) (ho : ox.fit) (hx : MxL w) :
    Calls Tryz.prog 5 #[.slice a l.length c, ox.v] w fun e w' => e = .returned (.bool true) ∧ Below w.heap.size w w' := by
  have HO := thid h1
  have HF := thid hf
  have HOF := thid ho
  have HX := thid hx
  clear h1 hf ho hx
  obtain ⟨K, id, k, n, s, ⟨lh, li, lk, ln, ls⟩, ⟨hh, hi, hk, hn, hs⟩⟩ := ox
  unfold OpX.v OpX.cs
  dsimp only
  have HB0 := thid (tbelow w (.cells #[.int .i64 K, .int .i64 id, .int .i64 k, .int .i64 n, .string s, .bool lh, .bool li, .int .i64 lk, .int .i64 ln, .string ls, .bool hh, .bool hi, .int .i64 hk, .int .i64 hn, .string hs] 41))
  have g0 := heap_alloc_new w (.cells #[.int .i64 K, .int .i64 id, .int .i64 k, .int .i64 n, .string s, .bool lh, .bool li, .int .i64 lk, .int .i64 ln, .string ls, .bool hh, .bool hi, .int .i64 hk, .int .i64 hn, .string hs] 41)
  go_enter Tryz.func5, Tryz.ntmps5
  go_wp2_with fail
  generalize w.alloc (.cells #[.int .i64 K, .int .i64 id, .int .i64 k, .int .i64 n, .string s, .bool lh, .bool li, .int .i64 lk, .int .i64 ln, .string ls, .bool hh, .bool hi, .int .i64 hk, .int .i64 hn, .string hs] 41) = w1 at *
  refine (xawake_walk (HX.out.on HB0.out)).mono ?_
  rintro e w2 ⟨rfl, b2⟩
  have HB2 := thid (tbelow_on HB0.out b2)
  have HG2 := thid ((b2.block _ (Array.getElem?_eq_some_iff.1 g0).1).trans g0)
  clear g0 b2 HB0
  go_wp2_with fail
  refine (great_walk (HO.out.on HB2.out)).mono ?_
  rintro e w3 ⟨⟨b, rfl, hb⟩, b3⟩
  have HB3 := thid (tbelow_on HB2.out b3)
  have HG3 := thid ((b3.block _ (Array.getElem?_eq_some_iff.1 HG2.out).1).trans HG2.out)
  clear b3 HB2 HG2
  cases b with
  | true =>
    go_wp2
    go_ret
    exact ⟨rfl, HB3.out⟩
  | false =>
    have hl : l.length ≤ 150 := hb rfl
    have f0 : ∀ i v, (#[Value.int .i64 K, .int .i64 id, .int .i64 k, .int .i64 n, .string s, .bool lh, .bool li, .int .i64 lk, .int .i64 ln, .string ls, .bool hh, .bool hi, .int .i64 hk, .int .i64 hn, .string hs])[i]? = some v → w3.cell? ⟨w.heap.size, i, none⟩ = some v := fun i v hv => by rw [cell_of_row _ _ _ _ _ _ HG3.out]; exact hv
    have f00 := f0 0 _ rfl
    have f01 := f0 1 _ rfl
    have f02 := f0 2 _ rfl
    have f03 := f0 3 _ rfl
    have f04 := f0 4 _ rfl
    have f05 := f0 5 _ rfl
    have f06 := f0 6 _ rfl
    have f07 := f0 7 _ rfl
    have f08 := f0 8 _ rfl
    have f09 := f0 9 _ rfl
    have f10 := f0 10 _ rfl
    have f11 := f0 11 _ rfl
    have f12 := f0 12 _ rfl
    have f13 := f0 13 _ rfl
    have f14 := f0 14 _ rfl
    have fl := (Array.getElem?_eq_some_iff.1 HG3.out).1
    clear f0 hb
    have HO1 : Hid (OpsIn (w3.alloc (.cells #[.int .i64 K, .int .i64 id, .int .i64 k, .int .i64 n, .string s, .bool lh, .bool li, .int .i64 lk, .int .i64 ln, .string ls, .bool hh, .bool hi, .int .i64 hk, .int .i64 hn, .string hs] 41)) (some ⟨w3.heap.size, 0, none⟩) [⟨K, id, k, n, s, ⟨lh, li, lk, ln, ls⟩, ⟨hh, hi, hk, hn, hs⟩⟩]) := by
      intro j hj
      have hj0 : j = 0 := by simpa using hj
      subst hj0
      refine ⟨w3.heap.size, 0, rfl, by simp, fun i v hv => ?_⟩
      rw [cell_of_row _ _ _ _ _ _ (heap_alloc_new _ _)]
      rw [show 0 + 0 * 15 + i = i by omega, ← Array.getElem?_toList]
      exact hv
    have HB4 := thid (tbelow_on HB3.out (tbelow w3 (.cells #[.int .i64 K, .int .i64 id, .int .i64 k, .int .i64 n, .string s, .bool lh, .bool li, .int .i64 lk, .int .i64 ln, .string ls, .bool hh, .bool hi, .int .i64 hk, .int .i64 hn, .string hs] 41)))
    have HG4 := thid (((tbelow w3 (.cells #[.int .i64 K, .int .i64 id, .int .i64 k, .int .i64 n, .string s, .bool lh, .bool li, .int .i64 lk, .int .i64 ln, .string ls, .bool hh, .bool hi, .int .i64 hk, .int .i64 hn, .string hs] 41)).block _ (Array.getElem?_eq_some_iff.1 HG3.out).1).trans HG3.out)
    clear HB3 HG3
    go_wp2_with fail
    clear f00 f01 f02 f03 f04 f05 f06 f07 f08 f09 f10 f11 f12 f13 f14 fl
    refine (great_walk HO1.out).mono ?_
    rintro e w5 ⟨⟨b, rfl, _⟩, b5⟩
    have HB5 := thid (tbelow_on HB4.out b5)
    have HG5 := thid ((b5.block _ (Array.getElem?_eq_some_iff.1 HG4.out).1).trans HG4.out)
    clear b5 HB4 HG4 HO1
    cases b with
    | true =>
      go_wp2
      go_ret
      exact ⟨rfl, HB5.out⟩
    | false =>
      go_wp2_with fail
      refine (L4.new_ok 4000 (by decide) _).mono ?_
      rintro e w6 ⟨sa, rfl, hF⟩
      have HN := thid (inew_ok hF (by decide) (by decide))
      clear hF
      unfold arV at HN ⊢
      go_wp2_with fail
      refine HN.out.mono ?_
      rintro e w7 ⟨x, rfl, s7, t, r7, p7, k7⟩
      have HK7 := thid k7
      have HP7 := thid p7
      clear HN k7 p7
      go_wp2_with fail
      go_loopw [40] (fun i wr => ∃ j : Nat, j ≤ l.length ∧ i = .int .i64 (j : Int) ∧ ∃ (s8 : Ar) (r8 h8 : Nat) (es : List ByteArray) (ps : List Nat), Hid (s8.p = sa.p ∧ IX w5 4000 s8 x t r8 h8 es ps wr ∧ es.length ≤ j)) (fun i _ => l.length - (intOf i).toNat)
      case atStart => exact ⟨0, Nat.zero_le _, rfl, s7, r7, 1, [], [r7], HP7.out, HK7.out, by simp⟩
      case round =>
        clear HK7 HP7
        obtain ⟨j, hj, rfl, s8, r8, h8, es, ps, HI⟩ := hrel
        by_cases hlt : j < l.length
        · have hlt' : (j : Int) < (l.length : Int) := by omega
          obtain ⟨b, o, rfl, hb, c0, c1, c2, c3, c4, c5, c6, c7, c8, c9, c10, c11, c12, c13, c14⟩ := ((HO.out.on HB5.out).on HI.out.2.1.bel).at hlt
          have hft := HF.out _ (List.getElem_mem hlt)
          generalize l[j] = xo at *
          obtain ⟨K1, id1, k1, n1, s1, ⟨lh1, li1, lk1, ln1, ls1⟩, ⟨hh1, hi1, hk1, hn1, hs1⟩⟩ := xo
          dsimp only at *
          have HK8 := thid (HI.out.2.1.on (tbelow wr (.cells #[.int .i64 K1, .int .i64 id1, .int .i64 k1, .int .i64 n1, .string s1, .bool lh1, .bool li1, .int .i64 lk1, .int .i64 ln1, .string ls1, .bool hh1, .bool hi1, .int .i64 hk1, .int .i64 hn1, .string hs1] 41)))
          have HAD := thid (HK8.out.add (HX.out.on HB5.out) (k := k1) (b := s1) (id := id1) hft.1 (by have := HI.out.2.2; omega) (by have := HI.out.2.2; omega))
          unfold valV at HAD
          clear HK8 hft
          go_wp2_with fail
          clear c0 c1 c2 c3 c4 c5 c6 c7 c8 c9 c10 c11 c12 c13 c14
          refine HAD.out.mono ?_
          rintro e w9 ⟨rfl, s9, r9, h9, ps9, p9, k9⟩
          have HD : Hid (s9.p = sa.p ∧ IX w5 4000 s9 x t r9 h9 (addF es k1 n1 s1 id1) ps9 w9 ∧ (addF es k1 n1 s1 id1).length ≤ j + 1) := ⟨p9.trans HI.out.1, k9, by have := addF_len es k1 n1 s1 id1; have := HI.out.2.2; omega⟩
          clear k9 p9 HAD HI
          go_wp2
          exact ⟨⟨j + 1, by omega, by go_num, s9, r9, h9, _, ps9, HD⟩, by simp [intOf]; omega⟩
        · have hlt' : (l.length : Int) ≤ (j : Int) := by omega
          have hjl : j = l.length := by omega
          subst hjl
          have HDR := thid (HI.out.2.1.drop (by have := HI.out.2.2; omega))
          go_wp2_with fail
          refine HDR.out.mono ?_
          rintro e w9 ⟨rfl, ⟨s9, p9, ok9, u9, a9⟩, i9, b9⟩
          have HU := thid (L4.used_walk a9 ok9)
          rw [u9, p9, HI.out.1] at HU
          unfold arV nv at HU
          have HI9 := thid i9
          have HB9 := thid (tbelow_on HB5.out b9)
          have HG9 := thid ((b9.block _ (Array.getElem?_eq_some_iff.1 HG5.out).1).trans HG5.out)
          clear HDR i9 b9 a9 ok9 u9 p9 HI
          go_wp2_with fail
          refine HU.out.mono ?_
          rintro e w10 ⟨rfl, b10⟩
          have HI10 := thid (HI9.out.on b10)
          have HB10 := thid (tbelow_on HB9.out b10)
          have HG10 := thid ((b10.block _ (Array.getElem?_eq_some_iff.1 HG9.out).1).trans HG9.out)
          clear HU b10 HI9 HB9 HG9 HB5 HG5
          go_wp2_with fail
          obtain ⟨w11, HW11⟩ : ∃ w11, Hid (w10.alloc (.cells #[.pointer (some ⟨x, 0, none⟩), .pointer none] 29) = w11) := ⟨_, rfl⟩
          rw [HW11.out]
          have hb11 : Below w10.heap.size w10 w11 := by rw [← HW11.out]; exact tbelow _ _
          have HI11 := thid (HI10.out.on hb11)
          have HB11 := thid (tbelow_on HB10.out hb11)
          have HG11 := thid ((hb11.block _ (Array.getElem?_eq_some_iff.1 HG10.out).1).trans HG10.out)
          have HS11 : Hid (w11.heap[w10.heap.size]? = some (.cells #[.pointer (some ⟨x, 0, none⟩), .pointer none] 29 (0, 0))) := by
            rw [← HW11.out]
            exact heap_alloc_new _ _
          clear HI10 HB10 HG10 hb11 HW11
          generalize w10.heap.size = sb at *
          go_loopw [63] (fun i wr => ∃ j : Nat, j ≤ 2 ∧ i = .int .i64 (j : Int) ∧ Hid (Below w11.heap.size w11 wr)) (fun i _ => 2 - (intOf i).toNat)
          case atStart => exact ⟨0, by omega, rfl, Below.refl _ _⟩
          case round =>
            obtain ⟨j, hj, rfl, HBr⟩ := hrel
            have HI12 := thid (HI11.out.on HBr.out)
            have HB12 := thid (tbelow_on HB11.out HBr.out)
            have HG12 := thid ((HBr.out.block _ (Array.getElem?_eq_some_iff.1 HG11.out).1).trans HG11.out)
            have HS12 := thid ((HBr.out.block _ (Array.getElem?_eq_some_iff.1 HS11.out).1).trans HS11.out)
            by_cases hlt : j < 2
            · have hlt' : (j : Int) < 2 := by omega
              obtain ⟨v, hv, hvo⟩ : ∃ v, wr.cell? ⟨sb, j, none⟩ = some v ∧ Hid (IOv wr v) := by
                have : j = 0 ∨ j = 1 := by omega
                rcases this with rfl | rfl
                · exact ⟨_, by rw [cell_of_row _ _ _ _ _ _ HS12.out]; rfl, HI12.out⟩
                · exact ⟨_, by rw [cell_of_row _ _ _ _ _ _ HS12.out]; rfl, Or.inl rfl⟩
              have sl := (Array.getElem?_eq_some_iff.1 HS12.out).1
              have fl := (Array.getElem?_eq_some_iff.1 HG12.out).1
              clear HI12 HS12
              have f02 : wr.cell? ⟨w.heap.size, 2, none⟩ = some (.int .i64 k) := by rw [cell_of_row _ _ _ _ _ _ HG12.out]; rfl
              have f03 : wr.cell? ⟨w.heap.size, 3, none⟩ = some (.int .i64 n) := by rw [cell_of_row _ _ _ _ _ _ HG12.out]; rfl
              have f04 : wr.cell? ⟨w.heap.size, 4, none⟩ = some (.string s) := by rw [cell_of_row _ _ _ _ _ _ HG12.out]; rfl
              have HFI := thid (first_ok (k := k) (n := n) (s := s) (eachC_ov (lo := ⟨true, true, k, n, s⟩) (hi := ⟨true, true, k, n, s⟩) hvo.out ((HX.out.on HB11.out).on HBr.out) HOF.out.1 HOF.out.1))
              rw [told_nil] at HFI
              unfold valV at HFI
              go_wp2_with fail
              clear f02 f03 f04
              refine HFI.out.mono ?_
              rintro e x0 ⟨rfl, bb⟩
              have V0 := thid (hvo.out.on bb)
              have G0 := thid ((bb.block _ (Array.getElem?_eq_some_iff.1 HG12.out).1).trans HG12.out)
              have B0 := thid (tbelow_on HBr.out bb)
              have l0 := (Array.getElem?_eq_some_iff.1 G0.out).1
              clear HFI bb
              have f01 : x0.cell? ⟨w.heap.size, 1, none⟩ = some (.int .i64 id) := by rw [cell_of_row _ _ _ _ _ _ G0.out]; rfl
              have f02 : x0.cell? ⟨w.heap.size, 2, none⟩ = some (.int .i64 k) := by rw [cell_of_row _ _ _ _ _ _ G0.out]; rfl
              have f03 : x0.cell? ⟨w.heap.size, 3, none⟩ = some (.int .i64 n) := by rw [cell_of_row _ _ _ _ _ _ G0.out]; rfl
              have f04 : x0.cell? ⟨w.heap.size, 4, none⟩ = some (.string s) := by rw [cell_of_row _ _ _ _ _ _ G0.out]; rfl
              have HAD := thid (iadd_ov (kk := k) (s := s) (id := id) V0.out HOF.out.1 ((HX.out.on HB11.out).on B0.out))
              unfold valV at HAD
              go_wp2_with fail
              clear f01 f02 f03 f04
              refine HAD.out.mono ?_
              rintro e x1 ⟨rfl, bb⟩
              have V1 := thid (V0.out.on bb)
              have G1 := thid ((bb.block _ (Array.getElem?_eq_some_iff.1 G0.out).1).trans G0.out)
              have B1 := thid (tbelow_on B0.out bb)
              have l1 := (Array.getElem?_eq_some_iff.1 G1.out).1
              clear HAD bb V0 G0 B0
              have f01 : x1.cell? ⟨w.heap.size, 1, none⟩ = some (.int .i64 id) := by rw [cell_of_row _ _ _ _ _ _ G1.out]; rfl
              have f02 : x1.cell? ⟨w.heap.size, 2, none⟩ = some (.int .i64 k) := by rw [cell_of_row _ _ _ _ _ _ G1.out]; rfl
              have f03 : x1.cell? ⟨w.heap.size, 3, none⟩ = some (.int .i64 n) := by rw [cell_of_row _ _ _ _ _ _ G1.out]; rfl
              have f04 : x1.cell? ⟨w.heap.size, 4, none⟩ = some (.string s) := by rw [cell_of_row _ _ _ _ _ _ G1.out]; rfl
              have HCU := thid (icut_ov (kk := k) (s := s) (id := id) V1.out HOF.out.1 ((HX.out.on HB11.out).on B1.out))
              unfold valV at HCU
              go_wp2_with fail
              clear f01 f02 f03 f04
              refine HCU.out.mono ?_
              rintro e x2 ⟨rfl, bb⟩
              have V2 := thid (V1.out.on bb)
              have G2 := thid ((bb.block _ (Array.getElem?_eq_some_iff.1 G1.out).1).trans G1.out)
              have B2 := thid (tbelow_on B1.out bb)
              have l2 := (Array.getElem?_eq_some_iff.1 G2.out).1
              clear HCU bb V1 G1 B1
              have f05 : x2.cell? ⟨w.heap.size, 5, none⟩ = some (.bool lh) := by rw [cell_of_row _ _ _ _ _ _ G2.out]; rfl
              have f06 : x2.cell? ⟨w.heap.size, 6, none⟩ = some (.bool li) := by rw [cell_of_row _ _ _ _ _ _ G2.out]; rfl
              have f07 : x2.cell? ⟨w.heap.size, 7, none⟩ = some (.int .i64 lk) := by rw [cell_of_row _ _ _ _ _ _ G2.out]; rfl
              have f08 : x2.cell? ⟨w.heap.size, 8, none⟩ = some (.int .i64 ln) := by rw [cell_of_row _ _ _ _ _ _ G2.out]; rfl
              have f09 : x2.cell? ⟨w.heap.size, 9, none⟩ = some (.string ls) := by rw [cell_of_row _ _ _ _ _ _ G2.out]; rfl
              have f10 : x2.cell? ⟨w.heap.size, 10, none⟩ = some (.bool hh) := by rw [cell_of_row _ _ _ _ _ _ G2.out]; rfl
              have f11 : x2.cell? ⟨w.heap.size, 11, none⟩ = some (.bool hi) := by rw [cell_of_row _ _ _ _ _ _ G2.out]; rfl
              have f12 : x2.cell? ⟨w.heap.size, 12, none⟩ = some (.int .i64 hk) := by rw [cell_of_row _ _ _ _ _ _ G2.out]; rfl
              have f13 : x2.cell? ⟨w.heap.size, 13, none⟩ = some (.int .i64 hn) := by rw [cell_of_row _ _ _ _ _ _ G2.out]; rfl
              have f14 : x2.cell? ⟨w.heap.size, 14, none⟩ = some (.string hs) := by rw [cell_of_row _ _ _ _ _ _ G2.out]; rfl
              have HPR := thid (pairs_ok (eachC_ov (lo := ⟨lh, li, lk, ln, ls⟩) (hi := ⟨hh, hi, hk, hn, hs⟩) V2.out ((HX.out.on HB11.out).on B2.out) HOF.out.2.1 HOF.out.2.2))
              rw [told_nil] at HPR
              unfold Bd.v at HPR
              dsimp only at HPR
              go_wp2_with fail
              clear f05 f06 f07 f08 f09 f10 f11 f12 f13 f14
              refine HPR.out.mono ?_
              rintro e x3 ⟨pa, pc, rfl, _, bb⟩
              have V3 := thid (V2.out.on bb)
              have G3 := thid ((bb.block _ (Array.getElem?_eq_some_iff.1 G2.out).1).trans G2.out)
              have B3 := thid (tbelow_on B2.out bb)
              have l3 := (Array.getElem?_eq_some_iff.1 G3.out).1
              clear HPR bb V2 G2 B2
              have HLE := thid (ilen_ov V3.out)
              go_wp2_with fail
              refine HLE.out.mono ?_
              rintro e x4 ⟨rfl, bb⟩
              have V4 := thid (V3.out.on bb)
              have G4 := thid ((bb.block _ (Array.getElem?_eq_some_iff.1 G3.out).1).trans G3.out)
              have B4 := thid (tbelow_on B3.out bb)
              have l4 := (Array.getElem?_eq_some_iff.1 G4.out).1
              clear HLE bb V3 G3 B3
              have HHE := thid (iheight_ov V4.out)
              go_wp2_with fail
              refine HHE.out.mono ?_
              rintro e x5 ⟨rfl, bb⟩
              have V5 := thid (V4.out.on bb)
              have G5 := thid ((bb.block _ (Array.getElem?_eq_some_iff.1 G4.out).1).trans G4.out)
              have B5 := thid (tbelow_on B4.out bb)
              have l5 := (Array.getElem?_eq_some_iff.1 G5.out).1
              clear HHE bb V4 G4 B4
              have HPA := thid (ipages_ov V5.out)
              go_wp2_with fail
              refine HPA.out.mono ?_
              rintro e x6 ⟨rfl, bb⟩
              have V6 := thid (V5.out.on bb)
              have G6 := thid ((bb.block _ (Array.getElem?_eq_some_iff.1 G5.out).1).trans G5.out)
              have B6 := thid (tbelow_on B5.out bb)
              have l6 := (Array.getElem?_eq_some_iff.1 G6.out).1
              clear HPA bb V5 G5 B5
              have HDR := thid (idrop_ov V6.out)
              go_wp2_with fail
              refine HDR.out.mono ?_
              rintro e x7 ⟨rfl, bb⟩
              have V7 := thid (V6.out.on bb)
              have G7 := thid ((bb.block _ (Array.getElem?_eq_some_iff.1 G6.out).1).trans G6.out)
              have B7 := thid (tbelow_on B6.out bb)
              have l7 := (Array.getElem?_eq_some_iff.1 G7.out).1
              clear HDR bb V6 G6 B6
              clear V7 G7
              go_wp2
              exact ⟨⟨j + 1, by omega, by go_num, B7⟩, by simp [intOf]; omega⟩
            · have hlt' : (2 : Int) ≤ (j : Int) := by omega
              have hj2 : j = 2 := by omega
              subst hj2
              clear HI12 HG12 HS12
              go_wp2_with fail
              refine (inew_nil _).mono ?_
              rintro e w13 ⟨rfl, b13⟩
              have HB13 := thid (tbelow_on HB12.out b13)
              clear b13 HB12
              go_wp2
              go_ret
              exact ⟨rfl, HB13.out⟩
end Go.Proofs.YtjocopclgehciaaGreatDoor
/-
  From what an argument of calls reads as to how the calls lie in memory.
-/
namespace Go.Proofs.YtjocopclgehciaaGreatDoor
open Go.RowKit Go.Deep
open L3 (fits valV)

theorem trod_struct5 {H : Type} {enc : TypeId × Value → H} {P : Program} {w : World} {base : Nat} {spare : Nat → Bool} {held : Bool} {t : TypeId} {f0 f1 f2 f3 f4 : Field} {fuel : Nat} {cs : List Value} {x : DataW H × List MemPlace} (ht : P.underlying t = some (.struct #[f0, f1, f2, f3, f4])) (h : DataW.trod enc P w base spare held fuel t cs = some x) :
    ∃ y0 y1 y2 y3 y4 n, cs.length = P.cellsOf t ∧ DataW.trod enc P w base spare held n f0.type ((cs.drop f0.offset).take (P.cellsOf f0.type)) = some y0 ∧
      DataW.trod enc P w base spare held n f1.type ((cs.drop f1.offset).take (P.cellsOf f1.type)) = some y1 ∧ DataW.trod enc P w base spare held n f2.type ((cs.drop f2.offset).take (P.cellsOf f2.type)) = some y2 ∧
      DataW.trod enc P w base spare held n f3.type ((cs.drop f3.offset).take (P.cellsOf f3.type)) = some y3 ∧ DataW.trod enc P w base spare held n f4.type ((cs.drop f4.offset).take (P.cellsOf f4.type)) = some y4 := by
  obtain ⟨xs, n, _, rfl, hl, hlen, hf⟩ := DataW.trod_struct ht h
  match xs, hlen with
  | [y0, y1, y2, y3, y4], _ => exact ⟨y0, y1, y2, y3, y4, n, hl, by simpa using hf 0 f0 rfl, by simpa using hf 1 f1 rfl, by simpa using hf 2 f2 rfl, by simpa using hf 3 f3 rfl, by simpa using hf 4 f4 rfl⟩

theorem Tryz.cellsOp : Tryz.prog.cellsOf 41 = 15 := by kernel_rfl
theorem Tryz.cellsBd : Tryz.prog.cellsOf 39 = 5 := by kernel_rfl
theorem Tryz.cellsVal : Tryz.prog.cellsOf 37 = 3 := by kernel_rfl
theorem Tryz.cellsInt : Tryz.prog.cellsOf 3 = 1 := by kernel_rfl
theorem Tryz.cellsBool : Tryz.prog.cellsOf 4 = 1 := by kernel_rfl
theorem Tryz.cellsStr : Tryz.prog.cellsOf 9 = 1 := by kernel_rfl

theorem one_of_take {cs : List Value} {j : Nat} {v : Value} (h : (cs.drop j).take 1 = [v]) : cs[j]? = some v := by
  have := congrArg (·[0]?) h
  simpa using this

theorem sub_at {cs : List Value} {a n b : Nat} {v : Value} (h : ((cs.drop a).take n)[b]? = some v) : cs[a + b]? = some v := by
  rw [List.getElem?_take] at h
  split at h
  · rwa [List.getElem?_drop] at h
  · cases h

section
variable {H : Type} {enc : TypeId × Value → H} {w : World}

set_option maxRecDepth 100000 in
theorem read_val {fuel : Nat} {cs : List Value} {x : DataW H × List MemPlace} (h : DataW.trod enc Tryz.prog w 0 (fun _ => true) true fuel 37 cs = some x) : ∃ k n s, fits n = true ∧ cs[0]? = some (.int .i64 k) ∧ cs[1]? = some (.int .i64 n) ∧ cs[2]? = some (.string s) := by
  obtain ⟨y0, y1, y2, n', -, -, f0, f1, f2⟩ := trod_struct3 Tryz.underlying37 h
  obtain ⟨k, g0, -, -⟩ := DataW.trod_int Tryz.underlying3 f0
  obtain ⟨q, g1, -, hq⟩ := DataW.trod_int Tryz.underlying3 f1
  obtain ⟨s, g2, -, -⟩ := DataW.trod_string Tryz.underlying9 f2
  exact ⟨k, q, s, fits_of_wf hq, one_of_take g0, one_of_take g1, one_of_take g2⟩

set_option maxRecDepth 100000 in
theorem read_bound {fuel : Nat} {cs : List Value} {x : DataW H × List MemPlace} (h : DataW.trod enc Tryz.prog w 0 (fun _ => true) true fuel 39 cs = some x) : ∃ b : Bd, fits b.n = true ∧ cs[0]? = some (.bool b.has) ∧ cs[1]? = some (.bool b.incl) ∧ cs[2]? = some (.int .i64 b.k) ∧ cs[3]? = some (.int .i64 b.n) ∧ cs[4]? = some (.string b.s) := by
  obtain ⟨y0, y1, y2, n', -, -, f0, f1, f2⟩ := trod_struct3 Tryz.underlying39 h
  obtain ⟨b0, g0, -⟩ := DataW.trod_bool Tryz.underlying4 f0
  obtain ⟨b1, g1, -⟩ := DataW.trod_bool Tryz.underlying4 f1
  obtain ⟨k, n, s, hn, c0, c1, c2⟩ := read_val f2
  exact ⟨⟨b0, b1, k, n, s⟩, hn, one_of_take g0, one_of_take g1, sub_at c0, sub_at c1, sub_at c2⟩

set_option maxRecDepth 100000 in
theorem read_op {fuel : Nat} {cs : List Value} {x : DataW H × List MemPlace} (h : DataW.trod enc Tryz.prog w 0 (fun _ => true) true fuel 41 cs = some x) : ∃ o : OpX, o.fit ∧ cs = o.cs := by
  obtain ⟨y0, y1, y2, y3, y4, n', hl, f0, f1, f2, f3, f4⟩ := trod_struct5 Tryz.underlying41 h
  obtain ⟨K, g0, -, -⟩ := DataW.trod_int Tryz.underlying3 f0
  obtain ⟨id, g1, -, -⟩ := DataW.trod_int Tryz.underlying3 f1
  obtain ⟨k, n, s, hn, c0, c1, c2⟩ := read_val f2
  obtain ⟨lo, hlo, l0, l1, l2, l3, l4⟩ := read_bound f3
  obtain ⟨hi, hhi, h0, h1, h2, h3, h4⟩ := read_bound f4
  refine ⟨⟨K, id, k, n, s, lo, hi⟩, ⟨hn, hlo, hhi⟩, ?_⟩
  rw [Tryz.cellsOp] at hl
  have e0 := one_of_take g0
  have e1 := one_of_take g1
  have a2 := sub_at c0
  have a3 := sub_at c1
  have a4 := sub_at c2
  have a5 := sub_at l0
  have a6 := sub_at l1
  have a7 := sub_at l2
  have a8 := sub_at l3
  have a9 := sub_at l4
  have a10 := sub_at h0
  have a11 := sub_at h1
  have a12 := sub_at h2
  have a13 := sub_at h3
  have a14 := sub_at h4
  refine List.ext_getElem? fun i => ?_
  by_cases hi15 : i < 15
  · have : i = 0 ∨ i = 1 ∨ i = 2 ∨ i = 3 ∨ i = 4 ∨ i = 5 ∨ i = 6 ∨ i = 7 ∨ i = 8 ∨ i = 9 ∨ i = 10 ∨ i = 11 ∨ i = 12 ∨ i = 13 ∨ i = 14 := by omega
    rcases this with rfl | rfl | rfl | rfl | rfl | rfl | rfl | rfl | rfl | rfl | rfl | rfl | rfl | rfl | rfl
    · exact e0
    · exact e1
    · exact a2
    · exact a3
    · exact a4
    · exact a5
    · exact a6
    · exact a7
    · exact a8
    · exact a9
    · exact a10
    · exact a11
    · exact a12
    · exact a13
    · exact a14
  · rw [List.getElem?_eq_none (by omega), List.getElem?_eq_none (by simp [OpX.cs]; omega)]

theorem list_opx {p : Nat → OpX → Prop} : ∀ n, (∀ i, i < n → ∃ v, p i v) → ∃ l : List OpX, l.length = n ∧ ∀ i (h : i < l.length), p i l[i]
  | 0, _ => ⟨[], rfl, fun i h => by simp at h⟩
  | n + 1, h => by
    obtain ⟨l, hl, hp⟩ := list_opx n fun i hi => h i (by omega)
    obtain ⟨v, hv⟩ := h n (by omega)
    refine ⟨l ++ [v], by simp [hl], fun i hi => ?_⟩
    by_cases e : i < l.length
    · rw [List.getElem_append_left e]; exact hp i e
    · have : i = l.length := by simp at hi; omega
      subst this
      simp
      rw [hl]
      exact hv

set_option maxRecDepth 100000 in
theorem open_ops {base : Nat} {v : Value} {d : DataW H} {p : List MemPlace} (hv : Value.okWide Tryz.prog w .any base 22 v) (h : DataW.Trod enc Tryz.prog w 0 (fun _ => true) true 22 v d p) : ∃ a cap, ∃ l : List OpX, v = .slice a l.length cap ∧ OpsIn w a l ∧ ∀ o ∈ l, o.fit := by
  obtain ⟨a0, len0, cap0, rfl⟩ := Go.WideShapes.okWide_slice Tryz.underlying22 hv
  obtain ⟨fuel, hf⟩ := h
  rcases open_slice Tryz.underlying22 hf with ⟨hcs, hx⟩ | ⟨a, len, cap, m, n, D, Pl, hcs, hb, hl, hm, hmm, hx, hel⟩
  · simp [Value.cells] at hcs
    obtain ⟨rfl, rfl, rfl⟩ := hcs
    exact ⟨none, 0, [], rfl, fun j hj => by simp at hj, fun o ho => by cases ho⟩
  · simp [Value.cells] at hcs
    obtain ⟨rfl, rfl, rfl⟩ := hcs
    simp only [if_true] at hmm
    subst hmm
    by_cases hz : len0 = 0
    · subst hz
      exact ⟨_, _, [], rfl, fun j hj => by simp at hj, fun o ho => by cases ho⟩
    have hsp : a.spot = none := by
      obtain ⟨cs', hc, -⟩ := hel 0 (by omega)
      rw [Tryz.cellsOp] at hc
      obtain ⟨-, hlen, hcell⟩ := World.cells?_some hc
      have h0 := hcell 0 (by decide)
      rw [List.getElem?_eq_getElem (by omega)] at h0
      have := World.cell?_spot h0
      simpa [Addr.add] using this
    obtain ⟨b, o, sp⟩ := a
    simp only at hsp
    subst hsp
    have key : ∀ i, i < len0 → ∃ x : OpX, x.fit ∧ b < w.heap.size ∧ ∀ j u, x.cs[j]? = some u → w.cell? ⟨b, o + i * 15 + j, none⟩ = some u := by
      intro i hi
      obtain ⟨cs', hc, ht⟩ := hel i (by omega)
      rw [Tryz.cellsOp] at hc
      obtain ⟨-, hlen, hcell⟩ := World.cells?_some hc
      obtain ⟨x, hfit, rfl⟩ := read_op ht
      have cc : ∀ j u, x.cs[j]? = some u → w.cell? ⟨b, o + i * 15 + j, none⟩ = some u := fun j u hu => by
        have hj : j < 15 := by rw [← hlen]; exact (List.getElem?_eq_some_iff.1 hu).1
        have := hcell j hj
        rw [add_add, show (⟨b, o, none⟩ : Addr).add (i * 15 + j) = ⟨b, o + i * 15 + j, none⟩ by unfold Addr.add; split <;> simp <;> omega] at this
        rw [this, hu]
      exact ⟨x, hfit, World.block_lt_of_cell? _ _ (cc 0 _ rfl), cc⟩
    obtain ⟨l, hl2, hp⟩ := list_opx len0 key
    subst hl2
    exact ⟨_, _, l, rfl, fun j hj => ⟨b, o, rfl, (hp j hj).2⟩, fun x hx => by
      obtain ⟨i, hi, rfl⟩ := List.getElem_of_mem hx
      exact (hp i hi).1⟩

set_option maxRecDepth 100000 in
theorem open_op {base : Nat} {v : Value} {d : DataW H} {p : List MemPlace} (hv : Value.okWide Tryz.prog w .any base 41 v) (h : DataW.Trod enc Tryz.prog w 0 (fun _ => true) true 41 v d p) : ∃ o : OpX, v = o.v ∧ o.fit := by
  obtain ⟨cs, rfl, hsz⟩ := Go.WideShapes.okWide_struct Tryz.underlying41 hv
  obtain ⟨fuel, hf⟩ := h
  obtain ⟨x, hfit, hc⟩ := read_op hf
  refine ⟨x, ?_, hfit⟩
  unfold OpX.v
  rw [← hc]
  simp [Value.cells]
end
end Go.Proofs.YtjocopclgehciaaGreatDoor
