/-
  Ast: RightExpr of package ast.
-/
import Derived.BigQuiet
import Derived.Deep.RegionWith
import Derived.Test.YtcgpcigablefhaaGreatDoorAsG
import Derived.Test.YtcgpcigablefhaaGreatDoorAsFl
namespace Go.Proofs.YtcgpcigablefhaaGreatDoor
open Go.RowKit

def nonB (s : ByteArray) : Bool := s.toList == [] || nameB s

set_option maxRecDepth 100000 in
theorem non_walk (s : ByteArray) (w : World) (hs : s.size ≤ maxLen) : Calls Tryz.prog 72 #[.string s] w fun e w' => e = .returned (.bool (nonB s)) ∧ w' = w := by
  have HN := Rw.dh (fun W => name_walk s W hs)
  clear hs
  obtain ⟨R, HR⟩ : ∃ R, Hid (nonB s = R) := ⟨_, rfl⟩
  rw [HR.out]
  cases hn : nameB s
  all_goals
    rw [hn] at HN
    go_enter Tryz.func72, Tryz.ntmps72
    go_wp2_with (go_at_call 26; refine (HN.out _).mono ?_; rintro e w1 ⟨rfl, rfl⟩)
    all_goals
      go_ret
      refine ⟨Rw.ret_bool ?_, rfl⟩
      rw [← HR.out]
      simp [nonB, *]

set_option maxRecDepth 100000 in
theorem rw1_walk {n : Nat} (IH : ∀ (x : XL) (w : World), In n w x → Calls Tryz.prog 46 #[xV x, .int .i64 n] w fun e W => e = .returned (.bool (rightX n x)) ∧ Below w.heap.size w W) {l : List XL} {q : Nat} {w : World} {N : Int} (hN1 : 1 ≤ N) (hN2 : N ≤ 1001) (hN3 : N - 1 = (n : Int)) (hq : w.cell? ⟨q, 0, none⟩ = some (.int .i64 N)) (hI : ∀ k ∈ l, In n w k) :
    AskX 73 #[.pointer (some ⟨q, 0, none⟩)] l (rightX n) w := by
  intro k hk W hb
  have HC := Rw.dh (fun W' (hb' : Below W.heap.size W W') => IH k W' ((hI k hk).on (dig_below_on hb hb')))
  have hql := World.block_lt_of_cell? _ _ hq
  have hq' : W.cell? ⟨q, 0, none⟩ = some (.int .i64 N) := by rw [hb.cell hql]; exact hq
  have hql' : q < W.heap.size := Nat.lt_of_lt_of_le hql hb.size
  clear IH hI hq
  show Calls Tryz.prog 73 #[.agg #[.string k.op, .int .i64 k.vk, .int .i64 k.vn, .string k.vs, .string k.var, .string k.col, .slice k.a k.kids.length k.c], .pointer (some ⟨q, 0, none⟩)] W _
  go_enter Tryz.func73, Tryz.ntmps73
  go_wp2_with fail
  refine (HC.out _ (Rw.below_alloc _ _)).mono ?_
  rintro e w1 ⟨rfl, hb1⟩
  have HB := Rw.dh (dig_below_on (Rw.below_alloc W _) hb1)
  clear hb1
  go_wp2
  go_ret
  exact ⟨rfl, HB.out⟩

theorem rightX_kids {n : Nat} {xo : ByteArray} {xk xn : Int} {xs xv xc : ByteArray} {xa : Option Addr} {xp : Nat} {l : List XL} (h : ((l.length : Int) == kidsI xo) = false) : rightX (n + 1) (.mk xo xk xn xs xv xc xa xp l) = false := by
  show (decide (((l.length : Nat) : Int) = kidsI xo) && _) = _
  rw [decide_eq_false (by simpa using h), Bool.false_and]

set_option maxRecDepth 100000 in
set_option maxHeartbeats 4000000 in
theorem rw_walk : ∀ (n : Nat), n ≤ 1000 → ∀ (x : XL) (w : World), In n w x → Calls Tryz.prog 46 #[xV x, .int .i64 n] w fun e W => e = .returned (.bool (rightX n x)) ∧ Below w.heap.size w W
  | 0, _, .mk xo xk xn xs xv xc xa xp l, w, _ => by
    show Calls Tryz.prog 46 #[.agg #[.string xo, .int .i64 xk, .int .i64 xn, .string xs, .string xv, .string xc, .slice xa l.length xp], .int .i64 0] w _
    obtain ⟨N, hz, hN⟩ : ∃ N : Int, (N == 0) = true ∧ (0 : Int) = N := ⟨_, rfl, rfl⟩
    rw [hN]
    clear hN
    have HKi := Rw.dh (fun W => kids_walk xo W)
    go_enter Tryz.func46, Tryz.ntmps46
    go_wp2_with fail
    go_quiet (first | (go_at_call 70; exact Calls.quiet_of_same (HKi.out _)))
    go_wp2
    go_ret
    exact ⟨rfl, below_drewN ((Rw.below_alloc _ _).alloc (by simp) _) _⟩
  | n + 1, hn, .mk xo xk xn xs xv xc xa xp l, w, hi => by
    have IH := Rw.dh (rw_walk n (by omega))
    have HI := Rw.dh hi
    have hkl : l.length ≤ 1353245080300 := hi.1.kids
    clear hi
    obtain ⟨N, hN1, hN2, hN3, hN⟩ : ∃ N : Int, 1 ≤ N ∧ N ≤ 1001 ∧ N - 1 = (n : Int) ∧ ((n + 1 : Nat) : Int) = N := ⟨_, by omega, by omega, by omega, rfl⟩
    have hz : (N == 0) = false := beq_eq_false_iff_ne.2 (by omega)
    show Calls Tryz.prog 46 #[.agg #[.string xo, .int .i64 xk, .int .i64 xn, .string xs, .string xv, .string xc, .slice xa l.length xp], .int .i64 (n + 1 : Nat)] w _
    rw [hN]
    clear hN
    obtain ⟨R, HR⟩ : ∃ R, Hid (rightX (n + 1) (.mk xo xk xn xs xv xc xa xp l) = R) := ⟨_, rfl⟩
    rw [HR.out]
    have HKi := Rw.dh (fun W => kids_walk xo W)
    obtain ⟨K, HKK⟩ : ∃ K, Hid (kidsI xo = K) := ⟨_, rfl⟩
    rw [HKK.out] at HKi
    go_enter Tryz.func46, Tryz.ntmps46
    go_wp2_with fail
    cases hk : ((l.length : Int) == K)
    · have HE : Hid (R = false) := by
        show _ = _
        rw [← HR.out, rightX_kids (by rw [HKK.out]; exact hk)]
      go_quiet (first | (go_at_call 70; exact Calls.quiet_of_same (HKi.out _)))
      go_wp2
      go_ret
      exact ⟨Rw.ret_bool HE.out.symm, below_drewN ((Rw.below_alloc _ _).alloc (by simp) _) _⟩
    · go_quiet (first | (go_at_call 70; exact Calls.quiet_of_same (HKi.out _)))
      have B2 : Hid (∀ o1 o2 m, Below w.heap.size w (((w.alloc o1).alloc o2).drewN m)) := fun o1 o2 m => below_drewN ((Rw.below_alloc _ _).alloc (by simp) _) m
      have hk' : (l.length : Int) = kidsI xo := by rw [HKK.out]; exact eq_of_beq hk
      cases h1 : (xo.toList == [118, 97, 108, 117, 101])
      · cases h2 : (xo.toList == [99, 111, 108, 117, 109, 110])
        · have HA : Hid (∀ W, Below w.heap.size w W → W.cell? ⟨w.heap.size + 1, 0, none⟩ = some (.int .i64 N) → Calls Tryz.prog 60 #[.slice xa l.length xp, .func (.func 73) #[] #[.pointer (some ⟨w.heap.size + 1, 0, none⟩)]] W fun e W' => e = .returned (.bool (l.all (rightX n))) ∧ Below W.heap.size W W') :=
            fun W hb hc => allX_rw (HI.out.2.1.below hb) hkl (rw1_walk IH.out hN1 hN2 hN3 hc fun k hk => (HI.out.2.2 k hk).on hb)
          have HE : Hid (R = (xk == 0 && xn == 0 && xs.toList == [] && xv.toList == [] && xc.toList == [] && l.all (rightX n))) := by
            show _ = _
            rw [← HR.out, rightX_other (m := l.length) h1 h2 hk'.symm]
            simp
          clear HI IH HR HKi HKK hk'
          generalize l.all (rightX n) = A at HA HE
          go_wp2_with (go_at_call 60; refine (HA.out _ (B2.out _ _ _) (by simp [go_sem])).mono ?_; rintro e w1 ⟨rfl, hb1⟩)
          all_goals
            go_ret
            refine ⟨Rw.ret_bool ?_, by first | exact B2.out _ _ _ | exact dig_below_on (B2.out _ _ _) hb1⟩
            rw [HE.out]
            simp [*]
        · have HE : Hid (R = (xk == 0 && xn == 0 && xs.toList == [] && nameB xc && nonB xv)) := by
            show _ = _
            rw [← HR.out, rightX_column h2]
            rw [kidsI_column h2] at hk'
            rw [decide_eq_true (by omega), Bool.true_and]
            rfl
          have HN1 := Rw.dh (fun W => name_walk xc W HI.out.1.col)
          have HN2 := Rw.dh (fun W => non_walk xv W HI.out.1.var)
          clear HI IH HR HKi HKK hk'
          generalize nonB xv = A at HN2 HE
          cases hn : nameB xc
          all_goals
            rw [hn] at HN1 HE
            go_wp2_with (first | (go_at_call 26; refine (HN1.out _).mono ?_; rintro e w1 ⟨rfl, rfl⟩) | (go_at_call 72; refine (HN2.out _).mono ?_; rintro e w1 ⟨rfl, rfl⟩))
            all_goals
              go_ret
              refine ⟨Rw.ret_bool ?_, B2.out _ _ _⟩
              rw [HE.out]
              simp [*]
      · have HE : Hid (R = (xv.toList == [] && xc.toList == [] && rightB xk xn xs && decide (0 ≤ xn))) := by
          show _ = _
          rw [← HR.out, rightX_value h1]
          rw [kidsI_value h1] at hk'
          rw [decide_eq_true (by omega), Bool.true_and]
        have HRi : Hid (∀ W, Calls Tryz.prog 71 #[.agg #[.int .i64 xk, .int .i64 xn, .string xs]] W fun e W' => e = .returned (.bool (rightB xk xn xs)) ∧ Below W.heap.size W W') := fun W => right_walk xk xn xs W
        clear HI IH HR HKi HKK hk'
        cases hr : rightB xk xn xs
        all_goals
          rw [hr] at HRi HE
          go_wp2_with (go_at_call 71; refine (HRi.out _).mono ?_; rintro e w1 ⟨rfl, hb1⟩; have d2 : w1.cell? ⟨w.heap.size, 2, none⟩ = some (.int .i64 xn) := (by rw [hb1.cell (by simp; omega)]; simp [go_sem]))
          all_goals
            go_ret
            refine ⟨Rw.ret_bool ?_, by first | exact B2.out _ _ _ | exact dig_below_on (B2.out _ _ _) hb1⟩
            rw [HE.out]
            simp [*]

set_option maxRecDepth 100000 in
theorem rx_walk (x : XL) (w : World) (h : In 20 w x) : Calls Tryz.prog 17 #[xV x] w fun e W => e = .returned (.bool (rightX 20 x)) ∧ Below w.heap.size w W := by
  have HC := Rw.dh (fun W (hb : Below w.heap.size w W) => rw_walk 20 (by omega) x W (h.on hb))
  clear h
  obtain ⟨xo, xk, xn, xs, xv, xc, xa, xp, l⟩ := x
  show Calls Tryz.prog 17 #[.agg #[.string xo, .int .i64 xk, .int .i64 xn, .string xs, .string xv, .string xc, .slice xa l.length xp]] w _
  go_enter Tryz.func17, Tryz.ntmps17
  go_wp2_with fail
  refine (HC.out _ (by first | exact Rw.below_alloc _ _ | exact Below.refl _ _)).mono ?_
  rintro e w1 ⟨rfl, hb1⟩
  have HB := Rw.dh hb1
  clear hb1
  go_wp2
  go_ret
  exact ⟨rfl, by first | exact HB.out | exact dig_below_on (Rw.below_alloc _ _) HB.out⟩
end Go.Proofs.YtcgpcigablefhaaGreatDoor
