/-
  DeltaNets: its walk.
-/
import Derived.Test.YtbeilgikmikonaaDlZ
import Derived.Test.YtbeilgikmikonaaDlY
namespace Go.Proofs.Ytbeilgikmikonaa
open Go.RowKit

set_option maxRecDepth 100000 in
set_option maxHeartbeats 1000000 in
theorem nets_walk {l : List PC} {a : Option Addr} {n c : Nat} {tb : ByteArray} {kd : Int} {w : World} (h : ChgsIn w a l) (hl : l.length = n) (ht : tb.size ≤ maxLen)
    (hr : ∀ (l : List PC) (a : Option Addr) (n c : Nat) (w : World), SlC w a l → AllM w l → l.length = n → n ≤ 1000 → Calls Try.prog 15 #[.slice a n c] w fun e w' => ∃ v, e = .returned v ∧ ∃ N, PlW w v N w' ∧ AllM w N ∧ IsNet (l.map (·.2)) (N.map (·.2))) :
    Calls Try.prog 3 #[.slice a n c, .string tb, .int .i64 kd] w fun e w' => e = .returned (.bool true) ∧ Below w.heap.size w w' := by
  have HH := dhid h
  have HL := dhid hl
  have htm : tb.size ≤ 9223372036854775807 := by unfold maxLen at ht; omega
  have hml : n ≤ 9223372036854775807 := by have := h.len; unfold maxLen at this; omega
  have HR := dhid hr
  clear h hl ht hr
  go_enter Try.func3, Try.ntmps3
  go_wp2_with fail
  refine (awake_walk w).mono ?_
  rintro e W1 ⟨rfl, B1⟩
  have HB1 := dhid B1
  have HGW := dhid (great_walk (c := c) (HH.out.below B1) HL.out)
  clear B1
  go_wp2_with fail
  refine HGW.out.mono ?_
  rintro e W2 ⟨bg, rfl, hg, B2⟩
  have HB2 := dhid (below_on HB1.out B2 HB1.out.size)
  clear B2 HGW HB1
  cases bg
  · have HG := dhid (hg rfl)
    have hn80 : n ≤ 80 := by rw [← HL.out]; exact (hg rfl).1
    clear hg
    by_cases h200 : tb.size ≤ 200
    · have h200' : ¬ (200 : Int) < (tb.size : Int) := by omega
      have HM2 := dhid ((HH.out.below HB2.out).means HG.out)
      have HS2 := dhid (HH.out.below HB2.out).sl
      clear HH HG
      go_wp2
      refine to_letter (F := fun W => Below w.heap.size w W ∧ AllM W l ∧ SlC W a l) ⟨HB2.out, HM2.out, HS2.out⟩ ?_
      rintro V1 ⟨b1, m1, s1⟩
      have HBV := dhid b1
      have HMV := dhid m1
      have HSV := dhid s1
      clear b1 m1 s1 HB2 HM2 HS2
      go_loopw [21] (fun i wr => ∃ j : Nat, j ≤ n ∧ i = .int .i64 (j : Int) ∧ Hid (Below V1.heap.size V1 wr)) (fun i _ => n - (intOf i).toNat)
      case atStart => exact ⟨0, Nat.zero_le _, rfl, Below.refl _ _⟩
      case round =>
        obtain ⟨j, hj, rfl, HB⟩ := hrel
        by_cases hlt : j < n
        · obtain ⟨b, o, x, rfl, hb, hx, c0, c1, c2, c3⟩ := (HSV.out.below HB.out).at (j := j) (by rw [HL.out]; exact hlt)
          have HMx := dhid ((HMV.out.below HB.out) x (List.mem_of_getElem? hx))
          clear hx
          go_wp2_with fail
          have HKS : Hid (∀ W, Below wr.heap.size wr W → W.heap[wr.heap.size]? = some (.cells #[.string x.1.t, .int .i64 x.1.id, .slice x.1.oa x.1.ol x.1.oc, .slice x.1.na x.1.nl x.1.nc] 27 (0, 0)) → Box4 W wr.heap.size (.string x.1.t) (.int .i64 x.1.id) (.slice x.1.oa x.1.ol x.1.oc) (.slice x.1.na x.1.nl x.1.nc)) := fun W _ h => h
          refine to_letter (F := fun W => Below V1.heap.size V1 W ∧ Box4 W wr.heap.size (.string x.1.t) (.int .i64 x.1.id) (.slice x.1.oa x.1.ol x.1.oc) (.slice x.1.na x.1.nl x.1.nc) ∧ Means W x.1 x.2) ⟨HB.out.alloc HB.out.size _, go_heap_new _ _, HMx.out.below (below_alloc _ _)⟩ ?_
          rintro U ⟨B2, C2, M2⟩
          have HB2 := dhid B2
          have KS : Hid (∀ W, Below U.heap.size U W → W.cell? ⟨wr.heap.size, 0, none⟩ = some (.string x.1.t) ∧ W.cell? ⟨wr.heap.size, 1, none⟩ = some (.int .i64 x.1.id) ∧ W.cell? ⟨wr.heap.size, 2, none⟩ = some (.slice x.1.oa x.1.ol x.1.oc) ∧ W.cell? ⟨wr.heap.size, 3, none⟩ = some (.slice x.1.na x.1.nl x.1.nc)) := fun W hW => by
            obtain ⟨x0, x1, x2, x3, _, _, _, _, xl⟩ := C2.facts
            rw [hW.cell (p := ⟨wr.heap.size, 0, none⟩) xl, hW.cell (p := ⟨wr.heap.size, 1, none⟩) xl, hW.cell (p := ⟨wr.heap.size, 2, none⟩) xl, hW.cell (p := ⟨wr.heap.size, 3, none⟩) xl]; exact ⟨x0, x1, x2, x3⟩
          have HK1 : Hid (∀ W, Below U.heap.size U W → Calls Try.prog 10 #[rcV x.1] W fun e w' => e = .returned (.int .i64 x.2.kind) ∧ Below U.heap.size U w') := fun W hW => (kind_walk (M2.below hW)).mono fun e w' ⟨he, hb⟩ => ⟨he, below_on hW hb hW.size⟩
          have HK2 : Hid (∀ W, Below U.heap.size U W → Calls Try.prog 11 #[rcV x.1] W fun e w' => e = .returned (.int .i64 x.2.kind) ∧ Below U.heap.size U w') := fun W hW => (rkind_walk (M2.below hW)).mono fun e w' ⟨he, hb⟩ => ⟨he, below_on hW hb hW.size⟩
          generalize x.2.kind = kk at HK1 HK2
          unfold rcV at HK1 HK2
          clear B2 C2 M2 HKS HMx c0 c1 c2 c3 hb HB
          go_region_held_law (fun w' => w'.cell? ⟨wr.heap.size, 0, none⟩ = some (.string x.1.t) ∧ w'.cell? ⟨wr.heap.size, 1, none⟩ = some (.int .i64 x.1.id) ∧ w'.cell? ⟨wr.heap.size, 2, none⟩ = some (.slice x.1.oa x.1.ol x.1.oc) ∧ w'.cell? ⟨wr.heap.size, 3, none⟩ = some (.slice x.1.na x.1.nl x.1.nc)) (first | assumption | exact KS.out _ (by repeat (first | exact Below.refl _ _ | refine Below.drew ?_)) | exact KS.out _ HB4.out | exact KS.out _ HB5.out)
            (first
              | (go_at_call 10; with_reducible refine (HK1.out _ ?_).mono ?_
                 · repeat (first | exact Below.refl _ _ | refine Below.drew ?_)
                 rintro e W4 ⟨rfl, B4⟩
                 have HB4 := dhid B4
                 have KS4 := KS.out W4 B4
                 clear B4 HK1)
              | (go_at_call 11; with_reducible refine (HK2.out _ ?_).mono ?_
                 · exact HB4.out
                 rintro e W5 ⟨rfl, B5⟩
                 have HB5 := dhid B5
                 have KS5 := KS.out W5 B5
                 clear B5 HK2 HB4 KS4))
          all_goals
            clear KS5
            go_simp
            go_wp2
            exact ⟨⟨j + 1, by omega, by go_num, below_on HB2.out HB5.out HB2.out.size⟩, by simp [intOf]; omega⟩
        · have hjn : j = n := by omega
          subst hjn
          have HP1 := dhid (plain_walk (c := c) (HSV.out.below HB.out) HL.out (by omega))
          have HMR := dhid (HMV.out.below HB.out)
          have HSR := dhid (HSV.out.below HB.out)
          have HBR := dhid (below_on HBV.out HB.out HBV.out.size)
          clear HB HMV HSV HBV
          go_wp2_with fail
          refine HP1.out.mono ?_
          rintro e W3 ⟨v3, rfl, hp3⟩
          obtain ⟨a3, c3, e3⟩ := owns_slice hp3.own
          rw [HL.out] at e3
          subst e3
          have HP3 := dhid hp3
          have HM3 := dhid (HMR.out.below hp3.below)
          have HS3 := dhid (HSR.out.below hp3.below)
          have HB3 := dhid (below_on HBR.out hp3.below HBR.out.size)
          have HN3 := dhid (net_walk (c := c) HS3.out HM3.out HL.out (by omega))
          clear hp3 HP1 HMR HBR
          go_wp2_with fail
          refine HN3.out.mono ?_
          rintro e W4 ⟨v4, rfl, N4, hN4, hi4⟩
          have hl4 : N4.length ≤ 80 := by have := hi4.len; simp [HL.out] at this; omega
          obtain ⟨a4, c4, rfl⟩ := owns_slice hN4.own
          have HN4 := dhid hN4
          have HI4 := dhid hi4
          have HPL4 := dhid (plain_walk (c := c4) (owns_slc hN4.own).2.1 rfl (by omega))
          have HP4 := dhid (HP3.out.on hN4.below)
          have HM4 := dhid (HM3.out.below hN4.below)
          have HB4 := dhid (below_on HB3.out hN4.below HB3.out.size)
          clear hN4 hi4 HN3 HP3 HM3 HB3 HS3
          obtain ⟨L4, HL4⟩ : ∃ m, Hid (N4.length = m) := ⟨_, rfl⟩
          rw [HL4.out] at hl4 HPL4 ⊢
          go_wp2_with fail
          refine HPL4.out.mono ?_
          rintro e W5 ⟨v5, rfl, hp5⟩
          have HP5 := dhid hp5
          have HPl5 := dhid (HP4.out.on hp5.below)
          have HM5 := dhid (HM4.out.below hp5.below)
          have HB5 := dhid (below_on HB4.out hp5.below HB4.out.size)
          have HA5 := dhid (HN4.out.all.below hp5.below)
          have HS5 : Hid (SlC W5 a3 l) := by have h := (HP4.out.on hp5.below).own; rw [HL.out] at h; exact (owns_slc h).2.1
          have HR5 := dhid (HR.out l a3 j c3 W5 HS5.out HM5.out HL.out (by omega))
          obtain ⟨a5, c5, e5⟩ := owns_slice hp5.own
          rw [HL4.out] at e5
          subst e5
          clear hp5 HPL4 HP4 HM4 HB4
          go_wp2_with fail
          refine HR5.out.mono ?_
          rintro e W6 ⟨v6, rfl, N6, hp6, hm6, hi6⟩
          have he46 : N4.map (·.2) = N6.map (·.2) := HI4.out.uniq hi6
          have hl6 : N6.length = L4 := by rw [← HL4.out]; have := congrArg List.length he46; simpa using this.symm
          obtain ⟨a6, c6, e6⟩ := owns_slice hp6.own
          rw [hl6] at e6
          subst e6
          have hs1 : SlC W6 a5 N4 := by have h := (HP5.out.on hp6.below).own; rw [HL4.out] at h; exact (owns_slc h).2.1
          have hs2 : SlC W6 a6 N6 := by have h := hp6.own; rw [hl6] at h; exact (owns_slc h).2.1
          have HSM := dhid (csame_walk (c := c5) (d := c6) hs1 hs2 (HA5.out.below hp6.below) (hm6.below hp6.below) he46 HL4.out (by omega))
          have HPl6 := dhid (HPl5.out.on hp6.below)
          have HM6 := dhid (HM5.out.below hp6.below)
          have HB6 := dhid (below_on HB5.out hp6.below HB5.out.size)
          clear hs1 hs2 hp6 hm6 hi6 he46 HR5 HP5 HA5 HS5 HPl5 HM5 HB5 HI4 HN4
          go_wp2_with fail
          refine HSM.out.mono ?_
          rintro e W7 ⟨rfl, q, rfl⟩
          refine to_letter (F := fun W => Below W6.heap.size W6 W) (below_drews W6 q) ?_
          intro W7 hb7
          have HPl7 := dhid (HPl6.out.on hb7)
          have HM7 := dhid (HM6.out.below hb7)
          have HB7 := dhid (below_on HB6.out hb7 HB6.out.size)
          clear hb7 HPl6 HM6 HB6 HSM
          have HOF := dhid (of_walk (c := c) (tb := tb) (kd := kd) (HSR.out.below HPl7.out.below) HM7.out HL.out (by omega))
          clear HSR HR HL4
          go_wp2_with fail
          refine HOF.out.mono ?_
          rintro e W8 ⟨v8, rfl, N8, hN8, he8⟩
          have hl8 : N8.length ≤ 80 := by
            have h1 : (N8.map (·.2)).length ≤ (l.map (·.2)).length := by rw [he8]; exact List.length_filter_le _ _
            simp [HL.out] at h1; omega
          obtain ⟨a8, c8, rfl⟩ := owns_slice hN8.own
          have HPL8 := dhid (plain_walk (c := c8) (owns_slc hN8.own).2.1 rfl (by omega))
          have HE8 := dhid he8
          have HA8 := dhid hN8.all
          have HPl8 := dhid (HPl7.out.on hN8.below)
          have HM8 := dhid (HM7.out.below hN8.below)
          have HB8 := dhid (below_on HB7.out hN8.below HB7.out.size)
          clear hN8 he8 HOF HPl7 HM7 HB7
          obtain ⟨L8, HL8⟩ : ∃ m, Hid (N8.length = m) := ⟨_, rfl⟩
          rw [HL8.out] at hl8 HPL8 ⊢
          go_wp2_with fail
          refine HPL8.out.mono ?_
          rintro e W9 ⟨v9, rfl, hp9⟩
          have HP9 := dhid hp9
          have HPl9 := dhid (HPl8.out.on hp9.below)
          have HM9 := dhid (HM8.out.below hp9.below)
          have HB9 := dhid (below_on HB8.out hp9.below HB8.out.size)
          have HA9 := dhid (HA8.out.below hp9.below)
          have HS9 : Hid (SlC W9 a3 l) := by have h := (HPl8.out.on hp9.below).own; rw [HL.out] at h; exact (owns_slc h).2.1
          have HR9 := dhid (rof_walk (c := c3) (tb := tb) (kd := kd) HS9.out HM9.out HL.out (by omega))
          obtain ⟨a9, c9, e9⟩ := owns_slice hp9.own
          rw [HL8.out] at e9
          subst e9
          clear hp9 HPL8 HPl8 HM8 HB8 HA8
          go_wp2_with fail
          refine HR9.out.mono ?_
          rintro e W10 ⟨v10, rfl, N10, hp10, hm10, he10⟩
          have he810 : N8.map (·.2) = N10.map (·.2) := HE8.out.trans he10.symm
          have hl10 : N10.length = L8 := by rw [← HL8.out]; have := congrArg List.length he810; simpa using this.symm
          obtain ⟨a10, c10, e10⟩ := owns_slice hp10.own
          rw [hl10] at e10
          subst e10
          have hs1 : SlC W10 a9 N8 := by have h := (HP9.out.on hp10.below).own; rw [HL8.out] at h; exact (owns_slc h).2.1
          have hs2 : SlC W10 a10 N10 := by have h := hp10.own; rw [hl10] at h; exact (owns_slc h).2.1
          have HSM := dhid (csame_walk (c := c9) (d := c10) hs1 hs2 (HA9.out.below hp10.below) (hm10.below hp10.below) he810 HL8.out (by omega))
          have HB10 := dhid (below_on HB9.out hp10.below HB9.out.size)
          clear hs1 hs2 hp10 hm10 he10 he810 HR9 HP9 HA9 HS9 HPl9 HM9 HB9 HE8
          go_wp2_with fail
          refine HSM.out.mono ?_
          rintro e W11 ⟨rfl, q, rfl⟩
          go_wp2
          go_ret
          exact ⟨rfl, below_drewN HB10.out q⟩
    · have h200' : (200 : Int) < (tb.size : Int) := by omega
      go_wp2
      go_ret
      exact ⟨rfl, HB2.out⟩
  · go_wp2
    go_ret
    exact ⟨rfl, HB2.out⟩
end Go.Proofs.Ytbeilgikmikonaa
