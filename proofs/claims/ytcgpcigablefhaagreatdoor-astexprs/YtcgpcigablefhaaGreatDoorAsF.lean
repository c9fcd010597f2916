/-
  Ast: RightExpr of the document.
-/
import Derived.Test.YtcgpcigablefhaaGreatDoorAsF1
import Derived.Test.YtcgpcigablefhaaGreatDoorAsF2
import Derived.Test.YtcgpcigablefhaaGreatDoorAsF3
import Derived.Test.YtcgpcigablefhaaGreatDoorAsF4
import Derived.Test.YtcgpcigablefhaaGreatDoorAsF5
namespace Go.Proofs.YtcgpcigablefhaaGreatDoor
open Go.RowKit

set_option maxRecDepth 100000 in
set_option maxHeartbeats 8000000 in
theorem rrx_walk : ∀ (n : Nat), n ≤ 1000 → ∀ (x : XL) (w : World), In n w x → Calls Tryz.prog 16 #[xV x, .int .i64 n] w fun e W => e = .returned (.bool (rightX n x)) ∧ Below w.heap.size w W
  | 0, _, .mk xo xk xn xs xv xc xa xp l, w, _ => by
    show Calls Tryz.prog 16 #[.agg #[.string xo, .int .i64 xk, .int .i64 xn, .string xs, .string xv, .string xc, .slice xa l.length xp], .int .i64 0] w _
    go_enter Tryz.func16, Tryz.ntmps16
    go_wp2
    go_ret
    exact ⟨rfl, Rw.below_alloc _ _⟩
  | n + 1, hn, .mk xo xk xn xs xv xc xa xp l, w, hi => by
    have IH := Rw.dh (rrx_walk n (by omega))
    have HI := Rw.dh hi
    have hkl : l.length ≤ 1353245080300 := hi.1.kids
    clear hi
    obtain ⟨N, hN1, hN2, hN3, hN⟩ : ∃ N : Int, 1 ≤ N ∧ N ≤ 1001 ∧ N - 1 = (n : Int) ∧ ((n + 1 : Nat) : Int) = N := ⟨_, by omega, by omega, by omega, rfl⟩
    have hz : decide (N < 1) = false := by simp; omega
    show Calls Tryz.prog 16 #[.agg #[.string xo, .int .i64 xk, .int .i64 xn, .string xs, .string xv, .string xc, .slice xa l.length xp], .int .i64 (n + 1 : Nat)] w _
    rw [hN]
    clear hN
    have HRi : Hid (∀ W, Calls Tryz.prog 44 #[.agg #[.int .i64 xk, .int .i64 xn, .string xs]] W fun e W' => e = .returned (.bool (rightB xk xn xs)) ∧ Below W.heap.size W W') := fun W => rright_walk xk xn xs W
    have HN1 := Rw.dh (fun W => rname_walk xc W HI.out.1.col)
    have HN2 := Rw.dh (fun W => rname_walk xv W HI.out.1.var)
    have B2 : Hid (∀ o1 o2, Below w.heap.size w ((w.alloc o1).alloc o2)) := fun o1 o2 => (Rw.below_alloc _ _).alloc (by simp) _
    obtain ⟨R, HR⟩ : ∃ R, Hid (rightX (n + 1) (.mk xo xk xn xs xv xc xa xp l) = R) := ⟨_, rfl⟩
    rw [HR.out]
    cases h1 : (xo.toList == [118, 97, 108, 117, 101])
    · cases h2 : (xo.toList == [99, 111, 108, 117, 109, 110])
      · clear HRi HN1 HN2 B2
        cases h3 : (xo.toList == [110, 101, 103])
        · cases h4 : (xo.toList == [110, 111, 116])
          · cases h5 : (xo.toList == [110, 117, 108, 108])
            · cases hTT : isTwo xo
              · exact rrx_none IH HI hkl hN1 hN2 hN3 hz HR h1 h2 h3 h4 h5 hTT
              · exact rrx_two IH HI hkl hN1 hN2 hN3 hz HR h1 h2 h3 h4 h5 hTT
            · exact rrx_null IH HI hkl hN1 hN2 hN3 hz HR h1 h2 h3 h4 h5
          · exact rrx_not IH HI hkl hN1 hN2 hN3 hz HR h1 h2 h3 h4
        · exact rrx_neg IH HI hkl hN1 hN2 hN3 hz HR h1 h2 h3
      · have HE : Hid (R = (decide (l.length = 0) && (xk == 0 && xn == 0 && xs.toList == [] && nameB xc && (xv.toList == [] || nameB xv)))) := HR.out.symm.trans (rightX_column h2)
        have HNc := HN1.out
        have HNv := HN2.out
        clear HN1 HN2
        cases hn1 : nameB xc <;> cases hn2 : nameB xv
        all_goals
          rw [hn1] at HNc HE
          rw [hn2] at HNv HE
          go_enter Tryz.func16, Tryz.ntmps16
          go_wp2_with (go_at_call 34; first | (with_reducible refine (HNc _).mono ?_; rintro e w1 ⟨rfl, rfl⟩; clear HNc) | (with_reducible refine (HNv _).mono ?_; rintro e w1 ⟨rfl, rfl⟩))
          all_goals
            go_ret
            refine ⟨Rw.ret_bool ?_, B2.out _ _⟩
            rw [HE.out]
            simp [*]
    · have HE : Hid (R = (decide (l.length = 0) && (xv.toList == [] && xc.toList == [] && rightB xk xn xs && decide (0 ≤ xn)))) := HR.out.symm.trans (rightX_value h1)
      have HRn := Rw.dh (right_neg (k := xk) (n := xn) (s := xs))
      have HRi2 := HRi.out
      cases hr : rightB xk xn xs
      all_goals
        rw [hr] at HRi2 HE HRn
        go_enter Tryz.func16, Tryz.ntmps16
        go_wp2_with (go_at_call 44; refine (HRi2 _).mono ?_; rintro e w1 ⟨rfl, hb1⟩; have d1 : w1.cell? ⟨w.heap.size, 1, none⟩ = some (.int .i64 xk) := (by rw [hb1.cell (by simp; omega)]; simp [go_sem]); have d2 : w1.cell? ⟨w.heap.size, 2, none⟩ = some (.int .i64 xn) := (by rw [hb1.cell (by simp; omega)]; simp [go_sem]))
        all_goals try (
          go_ret
          refine ⟨Rw.ret_bool ?_, by first | exact B2.out _ _ | exact dig_below_on (B2.out _ _) hb1⟩
          rw [HE.out]
          first | (simp [*]; done) | (have hnn := HRn.out trivial (by assumption); simp [*]; done))
end Go.Proofs.YtcgpcigablefhaaGreatDoor
