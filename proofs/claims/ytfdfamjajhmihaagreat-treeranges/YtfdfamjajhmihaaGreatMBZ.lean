/-
  The tree's laws: step: Insert, and Delete of the N-th entry.
-/
import Derived.Test.YtfdfamjajhmihaaGreatMBU
import Derived.Test.YtfdfamjajhmihaaGreatMBY
import Derived.Test.YtfdfamjajhmihaaGreatMAY
import Derived.Test.YtfdfamjajhmihaaGreatMBL
import Derived.Test.YtfdfamjajhmihaaGreatMBQ
import Derived.Deep.RegionHeld
namespace Go.Proofs.YtfdfamjajhmihaaGreat
open Go.RowKit
open L4 (Ar ArP Abs arV nv)
open L5 (ltP ltB leB)

theorem pick_inT (x : Int) {n : Nat} (h : 0 < n) : ∃ k : Nat, k < n ∧ ((x.tmod (n : Int)) + (n : Int)).tmod (n : Int) = (k : Int) ∧ -(n : Int) < x.tmod (n : Int) ∧ x.tmod (n : Int) < (n : Int) := by
  have h1 : x.tmod (n : Int) < (n : Int) := Int.tmod_lt_of_pos x (by omega)
  have h2 : -(n : Int) < x.tmod (n : Int) := by
    have := Int.tmod_lt_of_pos (-x) (show (0 : Int) < n by omega)
    rw [Int.neg_tmod] at this
    omega
  have h3 : (0 : Int) ≤ ((x.tmod (n : Int)) + (n : Int)).tmod (n : Int) := Int.tmod_nonneg _ (by omega)
  have h4 : ((x.tmod (n : Int)) + (n : Int)).tmod (n : Int) < (n : Int) := Int.tmod_lt_of_pos _ (by omega)
  exact ⟨(((x.tmod (n : Int)) + (n : Int)).tmod (n : Int)).toNat, by omega, by omega, h2, h1⟩

set_option maxRecDepth 100000 in
set_option maxHeartbeats 1000000 in
theorem step_nth {w0 : World} {s : Ar} {t p r h : Nat} {es : List ByteArray} {ps : List Nat} {w : World} {o : TOp} (k : Both w0 s t p r h es ps es w) (hl : es.length ≤ 900) (hs : o.s.size ≤ 420) (hk : o.k = 2) :
    Calls Tryz.prog 13 #[arV s.p, .pointer (some ⟨t, 0, none⟩), .pointer (some ⟨p, 0, none⟩), oV o] w fun e W => e = .returned (.bool true) ∧ StepQ w0 s t p es w W := by
  obtain ⟨ok, on, os⟩ := o
  simp only at hs
  obtain rfl := (hk : ok = 2)
  have HTX := thid (fun (W : World) => text_walk (o := ⟨2, on, os⟩) (w := W) hs)
  unfold oV at HTX
  have HK := thid k
  clear k
  unfold arV
  show Calls Tryz.prog 13 #[.pointer (some ⟨s.p, 0, none⟩), .pointer (some ⟨t, 0, none⟩), .pointer (some ⟨p, 0, none⟩), .agg #[.int .i64 2, .int .i64 on, .string os]] w _
  obtain ⟨x, hx⟩ : ∃ x, textO ⟨2, on, os⟩ = x := ⟨_, rfl⟩
  rw [hx] at HTX
  have HB1 := thid (tbelow w (.cells #[.int .i64 2, .int .i64 on, .string os] 37))
  have a1 := heap_alloc_new w (.cells #[.int .i64 2, .int .i64 on, .string os] 37)
  obtain ⟨bb, hb⟩ : ∃ bb, textB ⟨2, on, os⟩ = bb := ⟨_, rfl⟩
  rw [hb] at HTX
  by_cases hz : es.length = 0
  · have hz' : ((es.length : Int) == 0) = true := by rw [hz]; rfl
    go_enter Tryz.func13, Tryz.ntmps13
    go_wp2_with fail
    refine (HTX.out _).mono ?_
    rintro e w1 ⟨rfl, hb1⟩
    have HB := thid (tbelow_on HB1.out hb1)
    have HK1 := thid (HK.out.on HB.out)
    have HON : Hid (Only (fun q => s.own q ∨ q = t ∨ q = p) w w1) := Only.of_below HB.out
    have a2 := (hb1.block _ (Array.getElem?_eq_some_iff.1 a1).1).trans a1
    have o0 : w1.cell? ⟨w.heap.size, 0, none⟩ = some (.int .i64 2) := by rw [cell_of_row _ _ _ _ _ _ a2]; rfl
    have o1 : w1.cell? ⟨w.heap.size, 1, none⟩ = some (.int .i64 on) := by rw [cell_of_row _ _ _ _ _ _ a2]; rfl
    have ol := (Array.getElem?_eq_some_iff.1 a2).1
    clear hb1 HTX HK HB1 a1
    obtain ⟨a, c, q1, q2⟩ := HK1.out.st.row
    have c0 : w1.cell? ⟨p, 0, none⟩ = some (.slice a es.length c) := by rw [cell_of_row _ _ _ _ _ _ q1]; rfl
    have pl := (Array.getElem?_eq_some_iff.1 q1).1
    have HF : Hid (StepQ w0 s t p es w w1) := ⟨s, r, h, es, ps, HK1.out, by omega, rfl, HON.out⟩
    clear HK1 HB a2 q1 q2
    go_wp2
    go_ret
    exact ⟨rfl, HF.out⟩
  · have hz' : ((es.length : Int) == 0) = false := by rw [beq_eq_false_iff_ne]; omega
    go_enter Tryz.func13, Tryz.ntmps13
    go_wp2_with fail
    refine (HTX.out _).mono ?_
    rintro e w1 ⟨rfl, hb1⟩
    have HB := thid (tbelow_on HB1.out hb1)
    have HK1 := thid (HK.out.on HB.out)
    have HON : Hid (Only (fun q => s.own q ∨ q = t ∨ q = p) w w1) := Only.of_below HB.out
    have a2 := (hb1.block _ (Array.getElem?_eq_some_iff.1 a1).1).trans a1
    have o0 : w1.cell? ⟨w.heap.size, 0, none⟩ = some (.int .i64 2) := by rw [cell_of_row _ _ _ _ _ _ a2]; rfl
    have o1 : w1.cell? ⟨w.heap.size, 1, none⟩ = some (.int .i64 on) := by rw [cell_of_row _ _ _ _ _ _ a2]; rfl
    have ol := (Array.getElem?_eq_some_iff.1 a2).1
    clear hb1 HTX HK HB1 a1
    obtain ⟨a, c, q1, q2⟩ := HK1.out.st.row
    have c0 : w1.cell? ⟨p, 0, none⟩ = some (.slice a es.length c) := by rw [cell_of_row _ _ _ _ _ _ q1]; rfl
    have pl := (Array.getElem?_eq_some_iff.1 q1).1
    obtain ⟨kk, hkl, hke, hk1, hk2⟩ := pick_inT on (n := es.length) (by omega)
    have hnz : ¬ ((es.length : Int) = 0) := by omega
    obtain ⟨kb, ko, rfl, kbl, kc0⟩ := (L5.owns_rd_slice q2).2.2 kk (.string es[kk]) (by simp [L5.svs, hkl])
    obtain ⟨y, hy⟩ : ∃ y, es[kk] = y := ⟨_, rfl⟩
    rw [hy] at kc0
    have g1 : IntKind.i64.wrap (on.tmod (es.length : Int)) = on.tmod (es.length : Int) := by rw [IntKind.wrap_i64]; omega
    have g2 : IntKind.i64.wrap (on.tmod (es.length : Int) + (es.length : Int)) = on.tmod (es.length : Int) + (es.length : Int) := by rw [IntKind.wrap_i64]; omega
    have g3 : IntKind.i64.wrap ((on.tmod (es.length : Int) + (es.length : Int)).tmod (es.length : Int)) = (kk : Int) := by rw [hke, IntKind.wrap_i64]; omega
    have g4 : (kk : Int) < (es.length : Int) := by omega
    have g5 : (0 : Int) ≤ (kk : Int) ∧ (kk : Int) < (es.length : Int) := by omega
    clear HB a2 q1 q2 hy
    go_wp2_with fail
    go_quiet (rfl)
    have HK2 := thid (HK1.out.on (below_drewN (Below.refl _ _) nq))
    have HON1 := thid (only_on HON.out (below_drewN (Below.refl _ w1) nq))
    have hri := HK1.out.rise
    clear HK1 c0 pl kbl kc0 g1 g2 g3 g4 g5 hke hk1 hk2 hnz o0 o1 ol hkl
    generalize w1.drewN nq = w2 at *
    go_wp2_with fail
    refine (tdelete_tree HK2.out.tw HK2.out.ru (by omega)).mono ?_
    rintro e w3 ⟨cc, s', r', h', es', ps', rfl, hD, hT⟩
    have hd := del_same hD hri
    have HLE := thid (del_len hD)
    have HPP := thid hT.2.2.1
    have HON2 := thid (only_tree HON1.out hT.2.2.2.2.1)
    have HK3 := thid (HK2.out.tree hT)
    have HSD := thid (sdel_walk (x := y) HK3.out.st HK3.out.bel.size (by omega) hri)
    rw [hd] at HSD
    have hcc : (cc == cc) = true := by simp
    clear hd hD hT HK2 hri
    go_wp2_with fail
    refine HSD.out.mono ?_
    rintro e w4 ⟨rfl, q1, q2⟩
    have HF : Hid (StepQ w0 s t p es w w4) := ⟨s', r', h', es', ps', HK3.out.set q1 q2, HLE.out, HPP.out, only_set HON2.out q2⟩
    clear HSD HK3 q1 q2
    go_wp2
    go_ret
    exact ⟨rfl, HF.out⟩

set_option maxRecDepth 100000 in
set_option maxHeartbeats 1000000 in
theorem step_ins {w0 : World} {s : Ar} {t p r h : Nat} {es : List ByteArray} {ps : List Nat} {w : World} {o : TOp} (k : Both w0 s t p r h es ps es w) (hl : es.length ≤ 900) (hs : o.s.size ≤ 420) (hk : o.k = 0) :
    Calls Tryz.prog 13 #[arV s.p, .pointer (some ⟨t, 0, none⟩), .pointer (some ⟨p, 0, none⟩), oV o] w fun e W => e = .returned (.bool true) ∧ StepQ w0 s t p es w W := by
  obtain ⟨ok, on, os⟩ := o
  simp only at hs
  obtain rfl := (hk : ok = 0)
  have HTX := thid (fun (W : World) => text_walk (o := ⟨0, on, os⟩) (w := W) hs)
  unfold oV at HTX
  have HK := thid k
  clear k
  unfold arV
  show Calls Tryz.prog 13 #[.pointer (some ⟨s.p, 0, none⟩), .pointer (some ⟨t, 0, none⟩), .pointer (some ⟨p, 0, none⟩), .agg #[.int .i64 0, .int .i64 on, .string os]] w _
  obtain ⟨x, hx⟩ : ∃ x, textO ⟨0, on, os⟩ = x := ⟨_, rfl⟩
  rw [hx] at HTX
  have HB1 := thid (tbelow w (.cells #[.int .i64 0, .int .i64 on, .string os] 37))
  have a1 := heap_alloc_new w (.cells #[.int .i64 0, .int .i64 on, .string os] 37)
  cases hb : textB ⟨0, on, os⟩
  · rw [hb] at HTX
    go_enter Tryz.func13, Tryz.ntmps13
    go_wp2_with fail
    refine (HTX.out _).mono ?_
    rintro e w1 ⟨rfl, hb1⟩
    have HB := thid (tbelow_on HB1.out hb1)
    have HK1 := thid (HK.out.on HB.out)
    have HON : Hid (Only (fun q => s.own q ∨ q = t ∨ q = p) w w1) := Only.of_below HB.out
    have a2 := (hb1.block _ (Array.getElem?_eq_some_iff.1 a1).1).trans a1
    have o0 : w1.cell? ⟨w.heap.size, 0, none⟩ = some (.int .i64 0) := by rw [cell_of_row _ _ _ _ _ _ a2]; rfl
    have o1 : w1.cell? ⟨w.heap.size, 1, none⟩ = some (.int .i64 on) := by rw [cell_of_row _ _ _ _ _ _ a2]; rfl
    have ol := (Array.getElem?_eq_some_iff.1 a2).1
    clear hb1 HTX HK HB1 a1
    have HF : Hid (StepQ w0 s t p es w w1) := ⟨s, r, h, es, ps, HK1.out, by omega, rfl, HON.out⟩
    clear HK1 HB a2
    go_wp2
    go_ret
    exact ⟨rfl, HF.out⟩
  · rw [hb] at HTX
    go_enter Tryz.func13, Tryz.ntmps13
    go_wp2_with fail
    refine (HTX.out _).mono ?_
    rintro e w1 ⟨rfl, hb1⟩
    have HB := thid (tbelow_on HB1.out hb1)
    have HK1 := thid (HK.out.on HB.out)
    have HON : Hid (Only (fun q => s.own q ∨ q = t ∨ q = p) w w1) := Only.of_below HB.out
    have a2 := (hb1.block _ (Array.getElem?_eq_some_iff.1 a1).1).trans a1
    have o0 : w1.cell? ⟨w.heap.size, 0, none⟩ = some (.int .i64 0) := by rw [cell_of_row _ _ _ _ _ _ a2]; rfl
    have o1 : w1.cell? ⟨w.heap.size, 1, none⟩ = some (.int .i64 on) := by rw [cell_of_row _ _ _ _ _ _ a2]; rfl
    have ol := (Array.getElem?_eq_some_iff.1 a2).1
    clear hb1 HTX HK HB1 a1
    have hri := HK1.out.rise
    have hlf := L4.left_walk HK1.out.tw.ar HK1.out.tw.ok
    have HLF := thid hlf
    unfold arV nv at HLF
    clear HB a2 hlf
    go_wp2_with fail
    refine HLF.out.mono ?_
    rintro e w2 ⟨rfl, hb2⟩
    have HK2 := thid (HK1.out.on hb2)
    have HON1 := thid (only_on HON.out hb2)
    clear HLF HK1 hb2 o0 o1 ol
    go_wp2_with fail
    refine (height_ok HK2.out.tw.tr).mono ?_
    rintro e w3 ⟨rfl, hb3⟩
    have HK3 := thid (HK2.out.on hb3)
    have HON2 := thid (only_on HON1.out hb3)
    clear HK2 hb3
    go_wp2_with fail
    refine (tinsert_ruly HK3.out.tw HK3.out.ru (by omega)).mono ?_
    rintro e w4 ⟨cc, s', r', h', es', ps', rfl, hI, hT⟩
    have HLE := thid (ins_len hI)
    have HPP := thid hT.2.2.1
    have HON3 := thid (only_tree HON2.out hT.2.2.2.2.1)
    have HK4 := thid (HK3.out.tree hT)
    have HSA := thid (sat_walk (x := x) HK4.out.st (by omega))
    rw [first_count hri x] at HSA
    have hmem := isAt_mem hri x
    clear hT HK3
    by_cases h9 : cc = 9
    · have hfacts : s.abs.left < h + 1 ∧ x ∉ es ∧ 1 ≤ x.size ∧ x.size ≤ 400 ∧ es' = es := by
        rcases hI with ⟨_, e, _⟩ | ⟨⟨a1, a2⟩, ⟨_, e, _⟩ | ⟨a3, ⟨a4, _, e⟩ | ⟨_, e, _⟩⟩⟩
        · omega
        · omega
        · exact ⟨a4, a3, a1, a2, e⟩
        · omega
      obtain ⟨f1, f2, f3, f4, rfl⟩ := hfacts
      have hat : L5.isAt es' x (es'.countP (ltB x)) = false := by
        cases hz : L5.isAt es' x (es'.countP (ltB x)) with
        | false => rfl
        | true => exact absurd (hmem.1 hz) f2
      rw [hat] at HSA
      have f1' : decide (h < s.abs.left) = false := by rw [decide_eq_false_iff_not]; omega
      have f3' : (1 : Int) ≤ (x.size : Int) := by omega
      have f4' : (x.size : Int) ≤ 400 := by omega
      subst h9
      clear hI hmem hat
      go_wp2_with fail
      refine HSA.out.mono ?_
      rintro e w5 ⟨rfl, hb5⟩
      have HF : Hid (StepQ w0 s t p es' w w5) := ⟨s', r', h', es', ps', HK4.out.on hb5, HLE.out, HPP.out, only_on HON3.out hb5⟩
      clear HSA HK4 hb5
      go_wp2
      go_ret
      exact ⟨rfl, HF.out⟩
    · have hd := ins_same hI hri h9
      have hfacts : (h : Int) < (s.abs.left : Int) ∨ x ∈ es ∨ x.size < 1 ∨ 400 < x.size := by
        rcases hI with ⟨a1, _, _⟩ | ⟨_, ⟨a1, _, _⟩ | ⟨_, ⟨_, e, _⟩ | ⟨a1, _, _⟩⟩⟩
        · right; right; omega
        · exact Or.inr (Or.inl a1)
        · exact absurd e h9
        · left; omega
      obtain ⟨ia, hia⟩ : ∃ ia, L5.isAt es x (es.countP (ltB x)) = ia := ⟨_, rfl⟩
      rw [hia] at HSA hmem
      go_wp2_with fail
      refine HSA.out.mono ?_
      rintro e w5 ⟨rfl, hb5⟩
      have HK5 := thid (HK4.out.on hb5)
      have HON4 := thid (only_on HON3.out hb5)
      have HSD := thid (sins_walk (x := x) HK5.out.st HK5.out.bel.size (by omega) hri)
      rw [hd] at HSD
      have hcc : (cc == cc) = true := by simp
      have HFA := thid (And.intro hfacts hmem)
      clear HSA HK4 hb5 hd hI hia hmem hfacts
      by_cases hr : h < s.abs.left
      · have hr' : decide (h < s.abs.left) = true := by rw [decide_eq_true_eq]; exact hr
        clear hr
        go_wp2_with fail
        refine HSD.out.mono ?_
        rintro e w6 ⟨rfl, q1, q2⟩
        have HF : Hid (StepQ w0 s t p es w w6) := ⟨s', r', h', es', ps', HK5.out.set q1 q2, HLE.out, HPP.out, only_set HON4.out q2⟩
        clear HSD HK5 q1 q2 HFA
        go_wp2
        go_ret
        exact ⟨rfl, HF.out⟩
      · have hr' : decide (h < s.abs.left) = false := by rw [decide_eq_false_iff_not]; exact hr
        cases ia with
        | true =>
          clear hr
          go_wp2_with fail
          refine HSD.out.mono ?_
          rintro e w6 ⟨rfl, q1, q2⟩
          have HF : Hid (StepQ w0 s t p es w w6) := ⟨s', r', h', es', ps', HK5.out.set q1 q2, HLE.out, HPP.out, only_set HON4.out q2⟩
          clear HSD HK5 q1 q2 HFA
          go_wp2
          go_ret
          exact ⟨rfl, HF.out⟩
        | false =>
          have hsz : x.size < 1 ∨ 400 < x.size := by
            obtain ⟨u1, u2⟩ := HFA.out
            rcases u1 with u | u | u
            · omega
            · have := u2.2 u; cases this
            · exact u
          clear hr
          by_cases hs1 : x.size < 1
          · have hs1' : ¬ (1 : Int) ≤ (x.size : Int) := by omega
            clear hsz hs1
            go_wp2_with fail
            refine HSD.out.mono ?_
            rintro e w6 ⟨rfl, q1, q2⟩
            have HF : Hid (StepQ w0 s t p es w w6) := ⟨s', r', h', es', ps', HK5.out.set q1 q2, HLE.out, HPP.out, only_set HON4.out q2⟩
            clear HSD HK5 q1 q2 HFA
            go_wp2
            go_ret
            exact ⟨rfl, HF.out⟩
          · have hs1' : (1 : Int) ≤ (x.size : Int) := by omega
            have hs2' : ¬ (x.size : Int) ≤ 400 := by omega
            clear hsz hs1
            go_wp2_with fail
            refine HSD.out.mono ?_
            rintro e w6 ⟨rfl, q1, q2⟩
            have HF : Hid (StepQ w0 s t p es w w6) := ⟨s', r', h', es', ps', HK5.out.set q1 q2, HLE.out, HPP.out, only_set HON4.out q2⟩
            clear HSD HK5 q1 q2 HFA
            go_wp2
            go_ret
            exact ⟨rfl, HF.out⟩
end Go.Proofs.YtfdfamjajhmihaaGreat
/-
  The tree's laws: New where no page is left; step, whatever the call; a tree and a set at their beginning.
-/
namespace Go.Proofs.YtfdfamjajhmihaaGreat
open Go.RowKit
open L4 (Ar ArP Abs arV nv)
open L5 (ltP ltB leB)
open L1 (stopped)

theorem step_any {w0 : World} {s : Ar} {t p r h : Nat} {es : List ByteArray} {ps : List Nat} {w : World} {o : TOp} (k : Both w0 s t p r h es ps es w) (hl : es.length ≤ 900) (hs : o.s.size ≤ 420) :
    Calls Tryz.prog 13 #[arV s.p, .pointer (some ⟨t, 0, none⟩), .pointer (some ⟨p, 0, none⟩), oV o] w fun e W => e = .returned (.bool true) ∧ StepQ w0 s t p es w W := by
  by_cases h0 : o.k = 0
  · exact step_ins k hl hs h0
  by_cases h1 : o.k = 1
  · exact step_del k hl hs h1
  by_cases h2 : o.k = 2
  · exact step_nth k hl hs h2
  by_cases h3 : o.k = 3
  · exact step_limit k hl hs h3
  exact step_none_ k hl hs h0 h1 h2 h3

set_option maxRecDepth 100000 in
set_option maxHeartbeats 400000 in
theorem take_full {B : Nat} {s : Ar} {t x r h l xr xh xl : Nat} {tk ld gn : Value} {T : List Nat} {Ld : List Lay} {G : List Nat} {w : World} (k : Es B s t x r h l xr xh xl tk ld gn T Ld G w) (ho : s.abs.Ok) (hl : s.abs.left = 0) : Calls Tryz.prog 42 #[.pointer (some ⟨x, 0, none⟩)] w fun e w' => e = .panicked (stopped 9 0) ∧ Below w.heap.size w w' := by
  obtain ⟨d0, d1, d2, d3, d4, d5, d6, dl, df⟩ := k.ed.cells
  obtain ⟨t0, _, _, _, tl, _⟩ := k.tr.cells
  have HAF := thid (L4.alloc_full k.ar ho hl)
  unfold arV at HAF
  clear k
  go_enter Tryz.func42, Tryz.ntmps42
  go_wp2_with fail
  refine HAF.out.mono ?_
  rintro e w1 ⟨rfl, hb⟩
  have HB := thid hb
  clear hb HAF
  go_wp2_with fail
  refine (L1.check_no 9 (by decide) _).mono ?_
  rintro e w2 ⟨rfl, rfl⟩
  exact ⟨rfl, rfl, HB.out⟩

set_option maxRecDepth 100000 in
set_option maxHeartbeats 400000 in
theorem new1_full {N : Nat} {s : Ar} {t x : Nat} {w : World} (k : Es N s t x 0 0 0 0 0 0 (.slice none 0 0) (.slice none 0 0) (.slice none 0 0) [] [] [] w) (ho : s.abs.Ok) (hl : s.abs.left = 0) :
    Calls Tryz.prog 41 #[.pointer (some ⟨x, 0, none⟩)] w fun e w' => e = .panicked (stopped 9 0) ∧ Below w.heap.size w w' := by
  have HT := thid (take_full k ho hl)
  clear k
  go_enter Tryz.func41, Tryz.ntmps41
  go_wp2_with fail
  refine HT.out.mono ?_
  rintro e w2 ⟨rfl, B2⟩
  exact ⟨rfl, rfl, B2⟩

set_option maxRecDepth 100000 in
set_option maxHeartbeats 400000 in
theorem new_full {s : Ar} {w : World} (hA : ArP s w) (ho : s.abs.Ok) (hl : s.abs.left = 0) :
    Calls Tryz.prog 12 #[arV s.p] w fun e w' => e = .returned (.tuple #[.pointer none, .int .i64 9]) ∧ Below w.heap.size w w' := by
  have HB := thid (tbelow w (.cells #[.pointer (some ⟨s.p, 0, none⟩), .int .i64 0, .int .i64 0, .int .i64 0] 82))
  have HT : Hid (TrC (w.alloc (.cells #[.pointer (some ⟨s.p, 0, none⟩), .int .i64 0, .int .i64 0, .int .i64 0] 82)) w.heap.size s.p 0 0 0) := ⟨heap_alloc_new _ _⟩
  have HC := thid (change_stop (c := 9) (L4.arSt.below hA HB.out) HT.out 41 (fun _ _ => rfl) #[] (fun x W _ _ hE => by simpa using new1_full hE ho hl))
  have hmf : ∀ (fn : Fn) (first cap : Array Value) (w : World), (Instr.makeFunc fn first cap).run Tryz.prog w = .ok (.func fn first cap) w := fun _ _ _ _ => rfl
  clear hA
  unfold arV
  go_enter Tryz.func12, Tryz.ntmps12
  go_wp2_with fail
  refine HC.out.mono ?_
  rintro e w1 ⟨rfl, B1⟩
  have HF := thid (tbelow_on HB.out B1)
  clear HC HB HT hmf B1
  go_wp2
  refine bodyPost_ret (v := .tuple #[.pointer none, .int .i64 9]) (by simp [results, Tryz.results12, go_sem]) rfl ⟨rfl, HF.out⟩

theorem SetP.new {B : Nat} {w : World} (hB : B ≤ w.heap.size) : SetP B w.heap.size [] (w.alloc (.cells #[.slice none 0 0] 35)) := ⟨hB, none, 0, heap_alloc_new _ _, ⟨rfl, Or.inl ⟨rfl, rfl⟩⟩⟩

theorem ruly_one {s : Ar} {r : Nat} {w : World} {t : Nat} (k : TW s t r 1 [] [r] w) : Ruly s.abs r [r] := by
  refine ⟨Or.inl rfl, fun n hn => ?_⟩
  obtain ⟨m, ps', hm, _, hb⟩ := k.tp.sub
  rw [hn.uniq hm]
  rcases hb.2 with ⟨_, hl, _⟩ | ⟨e, _⟩
  · rw [shaped_leaf hm.shaped hl]; decide
  · exact absurd rfl e

/-- Behind New of both. -/
theorem Both.new {q : Nat} {w0 w1 w2 w3 : World} {s s' : Ar} {r : Nat} (h0 : Below w0.heap.size w0 w1) (hF : L4.Fresh q w1 s w2) (t1 : TW s' w2.heap.size r 1 [] [r] w3) (o1 : Only (fun k => s.own k ∨ k = w2.heap.size) w2 w3) (n1 : ∀ k, s'.own k → s.own k ∨ w2.heap.size ≤ k) : Both w0 s' w2.heap.size w3.heap.size r 1 [] [r] [] (w3.alloc (.cells #[.slice none 0 0] 35)) := by
  obtain ⟨f1, f2, f3, f4⟩ := hF
  have b2 := tbelow_on h0 f3
  have b3 : Below w0.heap.size w0 w3 := b2.trans (o1.below b2.size fun k hk e => by
    rcases e with e | e
    · have := f4 k e; have := h0.size; omega
    · have := b2.size; omega)
  refine ⟨t1.on (tbelow _ _), ruly_one t1, SetP.new b3.size, tbelow_on b3 (tbelow _ _), fun k hk => ?_, b2.size⟩
  rcases n1 k hk with e | e
  · exact Nat.le_trans h0.size (f4 k e)
  · exact Nat.le_trans b2.size e
end Go.Proofs.YtfdfamjajhmihaaGreat
/-
  TreePlays: the walk.
-/
namespace Go.Proofs.YtfdfamjajhmihaaGreat
open Go.RowKit
open L4 (Ar ArP Abs arV nv)
open L5 (ltP ltB leB)

set_option maxRecDepth 100000 in
set_option maxHeartbeats 2000000 in
theorem plays_walk {q : Int} {l : List TOp} {a : Option Addr} {c : Nat} {w : World} (hS : Rw.SlG oC 3 w a l) :
    Calls Tryz.prog 3 #[.int .i64 q, .slice a l.length c] w fun e w' => e = .returned (.bool true) ∧ Below w.heap.size w w' := by
  have HS := thid hS
  clear hS
  by_cases hq : 0 ≤ q ∧ q ≤ 4096
  · obtain ⟨m, rfl⟩ : ∃ m : Nat, q = (m : Int) := ⟨q.toNat, by omega⟩
    go_enter Tryz.func3, Tryz.ntmps3
    go_wp2_with fail
    refine (awake_walk _).mono ?_
    rintro e w1 ⟨rfl, b1⟩
    have HB1 := thid b1
    clear b1
    go_wp2_with fail
    refine (L4.new_ok m (by omega) _).mono ?_
    rintro e w2 ⟨s, rfl, hF⟩
    have HF := thid hF
    have hok0 : s.abs.Ok := by
      rw [hF.2.1]
      exact ⟨by simp, by simp, by simp, by simp, by simp, by simp; omega⟩
    have HB2 := thid (tbelow_on HB1.out hF.2.2.1)
    clear hF
    unfold arV
    cases hg : greatB l 200
    · obtain ⟨hn1, hn2⟩ := great_not hg
      have HGR := thid (great_walk (c := c) (m := 200) (HS.out.below HB2.out) (by omega))
      rw [hg] at HGR
      go_wp2_with fail
      refine HGR.out.mono ?_
      rintro e w3 ⟨rfl, b3⟩
      have HF3 : Hid (L4.Fresh m w1 s w3) := ⟨L4.arSt.below HF.out.1 b3, HF.out.2.1, tbelow_on HF.out.2.2.1 b3, HF.out.2.2.2⟩
      clear HGR HF HB2 b3
      by_cases hm0 : m = 0
      · subst hm0
        have HN := thid (new_full HF3.out.1 hok0 (by rw [HF3.out.2.1]; rfl))
        unfold arV at HN
        go_wp2_with fail
        refine HN.out.mono ?_
        rintro e w4 ⟨rfl, b4⟩
        have HE := thid (tbelow_on (tbelow_on HB1.out HF3.out.2.2.1) b4)
        clear HN HF3 b4
        go_wp2
        go_ret
        exact ⟨rfl, HE.out⟩
      · have hm1 : ((m : Int) == 0) = false := by rw [beq_eq_false_iff_ne]; omega
        have hl0 : 0 < s.abs.left := by
          rw [HF3.out.2.1]
          simp [L4.Abs.left, L4.Abs.used]
          omega
        have HN := thid (tnew HF3.out.1 hok0 hl0)
        unfold arV at HN
        clear hl0 hok0
        go_wp2_with fail
        refine HN.out.mono ?_
        rintro e w4 ⟨rfl, s4, r4, t1, p1, g1, o1, n1⟩
        have HBO := thid (Both.new HB1.out HF3.out t1 o1 n1)
        have HPP := thid p1
        clear HN HF3 HB1 t1 g1 o1 n1 p1
        generalize w3.heap.size = t at *
        go_wp2_with fail
        generalize w4.heap.size = p at *
        generalize w4.alloc (.cells #[.slice none 0 0] 35) = W4 at *
        go_loopw [52] (fun i wr => ∃ j : Nat, j ≤ l.length ∧ i = .int .i64 (j : Int) ∧ ∃ (s5 : Ar) (r5 h5 : Nat) (es : List ByteArray) (ps : List Nat), Hid (Both w s5 t p r5 h5 es ps es wr ∧ es.length ≤ j ∧ s5.p = s.p)) (fun i _ => l.length - (intOf i).toNat)
        case atStart => exact ⟨0, Nat.zero_le _, rfl, s4, r4, 1, [], [r4], HBO.out, by simp, HPP.out⟩
        case round =>
          clear HBO
          obtain ⟨j, hj, rfl, s5, r5, h5, es, ps, HI⟩ := hrel
          obtain ⟨hT, hle, hsp⟩ := HI.out
          by_cases hlt : j < l.length
          · have hlt' : (j : Int) < (l.length : Int) := by omega
            obtain ⟨b, o, k, rfl, hbl, hx, hc⟩ := (HS.out.below hT.bel).at hlt
            have hks := hn2 k (List.mem_of_getElem? hx)
            have c0 : wr.cell? ⟨b, o + j * 3, none⟩ = some (.int .i64 k.k) := hc 0 _ rfl
            have c1 : wr.cell? ⟨b, o + j * 3 + 1, none⟩ = some (.int .i64 k.n) := hc 1 _ rfl
            have c2 : wr.cell? ⟨b, o + j * 3 + 2, none⟩ = some (.string k.s) := hc 2 _ rfl
            have HT1 := thid (hT.on (tbelow wr (.cells #[.int .i64 k.k, .int .i64 k.n, .string k.s] 37)))
            have a1 := heap_alloc_new wr (.cells #[.int .i64 k.k, .int .i64 k.n, .string k.s] 37)
            clear hc hx hT HI
            have HSTP := thid (fun (W : World) (hb : Below _ _ W) => step_any (o := k) (HT1.out.on hb) (by omega) hks)
            rw [hsp] at HSTP
            unfold arV oV at HSTP
            go_wp2_with fail
            generalize wr.alloc (.cells #[.int .i64 k.k, .int .i64 k.n, .string k.s] 37) = W1 at *
            have d0 : W1.cell? ⟨wr.heap.size, 0, none⟩ = some (.int .i64 k.k) := by rw [cell_of_row _ _ _ _ _ _ a1]; rfl
            have d1 : W1.cell? ⟨wr.heap.size, 1, none⟩ = some (.int .i64 k.n) := by rw [cell_of_row _ _ _ _ _ _ a1]; rfl
            have d2 : W1.cell? ⟨wr.heap.size, 2, none⟩ = some (.string k.s) := by rw [cell_of_row _ _ _ _ _ _ a1]; rfl
            have dl := (Array.getElem?_eq_some_iff.1 a1).1
            clear c0 c1 c2 hbl
            refine wp_region_phasesC (fun w' => ∃ n, w' = World.drewN W1 n) 4 7 14 (by kernel_rfl) (by kernel_rfl) ⟨1, rfl⟩ ?_
            simp only [List.take_succ_cons, List.take_zero, List.drop_succ_cons, List.drop_zero]
            repeat (go_big_quiet_step (first | rfl | fail))
            refine wpQuiet_nil ?_
            rintro _ ⟨nq, rfl⟩ KK hKK0
            have HKK := thid hKK0
            clear hKK0
            go_wp2_with fail
            refine (HSTP.out _ (below_drewN (Below.refl _ _) nq)).mono ?_
            rintro e w6 ⟨rfl, s6, r6, h6, es6, ps6, hB6, hl6, hp6, hon⟩
            have a6 : w6.heap[wr.heap.size]? = some (.cells #[.int .i64 k.k, .int .i64 k.n, .string k.s] 37 (0, 0)) := by
              rw [hon.block _ dl (fun z => ?_)]
              · exact a1
              · have a1' : (W1.drewN nq).heap[wr.heap.size]? = some (.cells #[.int .i64 k.k, .int .i64 k.n, .string k.s] 37 (0, 0)) := a1
                have hTn := HT1.out.on (below_drewN (Below.refl W1.heap.size W1) nq)
                rcases z with z | z | z
                · exact not_own hTn.tw.ar a1' (by decide) (by decide) (by decide) z
                · exact tag_ne a1' hTn.tw.tr.blk (by decide) z
                · obtain ⟨_, _, q1, _⟩ := hTn.st.row
                  exact tag_ne a1' q1 (by decide) z
            have HB6 := thid hB6
            have hle6 : es6.length ≤ j + 1 := by omega
            have hsp6 : s6.p = s.p := hp6.trans hsp
            clear HSTP d0 d1 d2 dl a1 hB6 hl6 hp6 hon HT1
            go_wp2_with fail
            refine HKK.out _ _ (fun w' => ∃ q : L4.BelowW w6, w' = q.w) ⟨⟨w6, Below.refl _ _⟩, rfl⟩ ?_
            clear HKK
            have lq : ∀ q : L4.BelowW w6, Calls Tryz.prog 14 #[.pointer (some ⟨t, 0, none⟩)] q.w fun e w' => e = .returned (.int .i64 (es6.length : Int)) ∧ Below q.w.heap.size q.w w' := fun q => len_ok (HB6.out.on q.below).tw.tr
            obtain ⟨a7, c7, q1, q2⟩ := HB6.out.st.row
            have pq : ∀ q : L4.BelowW w6, q.w.cell? ⟨p, 0, none⟩ = some (.slice a7 es6.length c7) := fun q => by
              rw [cell_of_row _ _ _ _ _ _ ((q.below.block _ (Array.getElem?_eq_some_iff.1 q1).1).trans q1)]; rfl
            repeat (go_big_quiet_step (first | rfl | (go_at_call 14; exact L4.quiet_of_below (lq _))))
            refine wpQuiet_nil ?_
            rintro _ ⟨q, rfl⟩
            have HB7 := thid (HB6.out.on q.below)
            have a7 := (q.below.block _ (Array.getElem?_eq_some_iff.1 a6).1).trans a6
            clear lq pq q1 q2 HB6 a6
            generalize q.w = w7 at *
            clear q
            have d0 : w7.cell? ⟨wr.heap.size, 0, none⟩ = some (.int .i64 k.k) := by rw [cell_of_row _ _ _ _ _ _ a7]; rfl
            have d1 : w7.cell? ⟨wr.heap.size, 1, none⟩ = some (.int .i64 k.n) := by rw [cell_of_row _ _ _ _ _ _ a7]; rfl
            have d2 : w7.cell? ⟨wr.heap.size, 2, none⟩ = some (.string k.s) := by rw [cell_of_row _ _ _ _ _ _ a7]; rfl
            have dl := (Array.getElem?_eq_some_iff.1 a7).1
            have HTX := thid (text_walk (o := k) (w := w7) hks)
            unfold oV at HTX
            obtain ⟨x, hx⟩ : ∃ x, textO k = x := ⟨_, rfl⟩
            rw [hx] at HTX
            have heq : ((es6.length : Int) != (es6.length : Int)) = false := by simp
            cases hb : textB k
            · rw [hb] at HTX
              go_wp2_with fail
              refine HTX.out.mono ?_
              rintro e w8 ⟨rfl, b8⟩
              have HD : Hid (Both w s6 t p r6 h6 es6 ps6 es6 w8 ∧ es6.length ≤ j + 1 ∧ s6.p = s.p) := ⟨HB7.out.on b8, hle6, hsp6⟩
              clear HTX b8 HB7 d0 d1 d2 dl a7
              go_wp2
              go_roundw
              case rel => exact ⟨j + 1, hlt, by go_num, s6, r6, h6, es6, ps6, HD⟩
              case measure => simp [intOf]; omega
            · rw [hb] at HTX
              go_wp2_with fail
              refine HTX.out.mono ?_
              rintro e w8 ⟨rfl, b8⟩
              have HB8 := thid (HB7.out.on b8)
              clear HTX b8 HB7 d0 d1 d2 dl a7
              have HSA := thid (sat_walk (x := x) HB8.out.st (by omega))
              rw [first_count HB8.out.rise x] at HSA
              go_wp2_with fail
              refine HSA.out.mono ?_
              rintro e w9 ⟨rfl, b9⟩
              have HB9 := thid (HB8.out.on b9)
              have hmem := isAt_mem HB8.out.rise x
              clear HSA b9 HB8
              obtain ⟨ia, hia⟩ : ∃ ia, L5.isAt es6 x (es6.countP (ltB x)) = ia := ⟨_, rfl⟩
              rw [hia] at hmem
              go_wp2_with fail
              refine (has_any HB9.out.tw).mono ?_
              rintro e w10 ⟨v, rfl, hv, b10⟩
              have hvi : v = ia := by
                cases v <;> cases ia <;> simp_all
              subst hvi
              have hvv : (v != v) = false := by simp
              have HD : Hid (Both w s6 t p r6 h6 es6 ps6 es6 w10 ∧ es6.length ≤ j + 1 ∧ s6.p = s.p) := ⟨HB9.out.on b10, hle6, hsp6⟩
              clear HB9 b10 hv hmem hia
              go_wp2
              go_roundw
              case rel => exact ⟨j + 1, hlt, by go_num, s6, r6, h6, es6, ps6, HD⟩
              case measure => simp [intOf]; omega
          · have hlt' : ¬ (j : Int) < (l.length : Int) := by omega
            obtain ⟨a7, c7, q1, q2⟩ := hT.st.row
            have p0 : wr.cell? ⟨p, 0, none⟩ = some (.slice a7 es.length c7) := by rw [cell_of_row _ _ _ _ _ _ q1]; rfl
            have pl := (Array.getElem?_eq_some_iff.1 q1).1
            have KS : Hid (∀ W, Below wr.heap.size wr W → W.cell? ⟨p, 0, none⟩ = some (.slice a7 es.length c7)) := fun W hb => (hb.cell (p := ⟨p, 0, none⟩) pl).trans p0
            have HAL : Hid (∀ W, Below wr.heap.size wr W → Calls Tryz.prog 19 #[.pointer (some ⟨t, 0, none⟩)] W fun e w' => ∃ a c, e = .returned (.slice a es.length c) ∧ Hid (L5.Rd w' a c (L5.svs es) ∧ L5.Rd w' a7 c7 (L5.svs es)) ∧ Below wr.heap.size wr w') := fun W hb => (all_any (hT.on hb).tw (by omega)).mono (by
              rintro e w' ⟨a, c, rfl, ho, hb'⟩
              exact ⟨a, c, rfl, ⟨L5.owns_rd_slice ho, L5.owns_rd_slice (L5.owns_below q2 (tbelow_on hb hb'))⟩, tbelow_on hb hb'⟩)
            have HBL := thid hT.bel
            have hes : es.length ≤ 100000 := by omega
            have k0 : Below wr.heap.size wr wr := Below.refl _ _
            have k1 : Below wr.heap.size wr wr.drew := (Below.refl _ _).drew
            clear hT HI q1 q2 pl
            go_wp2_with fail
            go_region_held (fun W => W.cell? ⟨p, 0, none⟩ = some (.slice a7 es.length c7)) (exact KS.out _ (by with_reducible assumption)) (first
              | (go_at_call 19; refine (HAL.out _ k1).mono ?_; rintro e w8 ⟨a8, c8, rfl, HR8, k8⟩)
              | (go_at_call 18; refine (same_strs HR8.out.1 HR8.out.2 hes).mono ?_; rintro e w9 ⟨rfl, b9⟩; have k9 := tbelow_on k8 b9))
            all_goals
              have HE := thid (tbelow_on HBL.out k9)
              clear HBL k9 b9 k8 HR8 KS HAL k0 k1
              go_wp2
              go_ret
              exact ⟨rfl, HE.out⟩
    · have HGR := thid (great_walk (c := c) (m := 200) (HS.out.below HB2.out) (by omega))
      rw [hg] at HGR
      go_wp2_with fail
      refine HGR.out.mono ?_
      rintro e w3 ⟨rfl, b3⟩
      have HE := thid (tbelow_on HB2.out b3)
      clear HGR HF HB2 b3
      go_wp2
      go_ret
      exact ⟨rfl, HE.out⟩
  · have hmb : L4.mayB q = false := by unfold L4.mayB; simp; omega
    go_enter Tryz.func3, Tryz.ntmps3
    go_wp2_with fail
    refine (awake_walk _).mono ?_
    rintro e w1 ⟨rfl, b1⟩
    have HB1 := thid b1
    clear b1
    go_wp2_with fail
    refine (L4.new_no q hmb _).mono ?_
    rintro e w2 ⟨rfl, rfl⟩
    go_wp2
    go_ret
    exact ⟨rfl, HB1.out⟩
end Go.Proofs.YtfdfamjajhmihaaGreat
