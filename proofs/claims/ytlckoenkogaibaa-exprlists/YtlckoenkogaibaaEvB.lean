/-
  Expr: deep.
-/
import Derived.Test.YtlckoenkogaibaaEvA
namespace Go.Proofs.Ytlckoenkogaibaa
open Go.RowKit

theorem any_take_falseN {α : Type} {l : List α} {f : α → Bool} {j : Nat} {x : α} (hx : l[j]? = some x) (h : (l.take j).any f = false) (hf : f x = false) : (l.take (j + 1)).any f = false := by
  obtain ⟨hjl, rfl⟩ := List.getElem?_eq_some_iff.1 hx
  rw [List.take_succ_eq_append_getElem hjl, List.any_append, h]
  simp [hf]

set_option maxRecDepth 100000 in
set_option maxHeartbeats 400000 in
theorem ndeep_walk : ∀ (n : Nat), n ≤ 1000 → ∀ (x : NL) (w : World), InN n w x → Calls Try.prog 17 #[nV x, .int .i64 n] w fun e w' => e = .returned (.bool (deepN n x)) ∧ Below w.heap.size w w'
  | 0, _, x, w, _ => by
    unfold nV
    go_enter Try.func17, Try.ntmps17
    go_wp2
    go_ret
    exact ⟨rfl, by first | exact Rw.below_alloc _ _ | exact Below.refl _ _⟩
  | n + 1, hn, .mk xo xk xn xs xv xc xa xp l, w, hi => by
    have IH := Rw.dh (ndeep_walk n (by omega))
    have HS : Hid (Rw.SlG nC 7 w xa l) := hi.2.1
    have HK : Hid (∀ k ∈ l, InN n w k) := hi.2.2
    have hkl : l.length ≤ 1599289640401 := hi.1.kids
    have HD : Hid (deepN (n + 1) (.mk xo xk xn xs xv xc xa xp l) = l.any (deepN n)) := rfl
    clear hi
    obtain ⟨N, hN1, hN2, hN3, hN⟩ : ∃ N : Int, 1 ≤ N ∧ N ≤ 1001 ∧ N - 1 = (n : Int) ∧ ((n + 1 : Nat) : Int) = N := ⟨_, by omega, by omega, by omega, rfl⟩
    have hz : (N == 0) = false := beq_eq_false_iff_ne.2 (by omega)
    show Calls Try.prog 17 #[.agg #[.string xo, .int .i64 xk, .int .i64 xn, .string xs, .int .i64 xv, .int .i64 xc, .slice xa l.length xp], .int .i64 (n + 1 : Nat)] w _
    rw [hN]
    clear hN
    go_enter Try.func17, Try.ntmps17
    go_wp2_with fail
    go_loopw [12] (fun i wr => ∃ j : Nat, j ≤ l.length ∧ i = .int .i64 (j : Int) ∧ Hid (Below w.heap.size w wr ∧ (l.take j).any (deepN n) = false)) (fun i _ => l.length - (intOf i).toNat)
    case atStart => exact ⟨0, Nat.zero_le _, rfl, Rw.below_alloc _ _, rfl⟩
    case round =>
      obtain ⟨j, hj, rfl, HR⟩ := hrel
      by_cases hlt : j < l.length
      · obtain ⟨b, o, k, rfl, hb, hx, hc⟩ := (HS.out.below HR.out.1).at hlt
        have HX := Rw.dh hx
        have HKk := Rw.dh ((HK.out k (List.mem_of_getElem? hx)).on HR.out.1)
        have c0 : wr.cell? ⟨b, o + j * 7, none⟩ = some (.string k.op) := hc 0 _ rfl
        have c1 : wr.cell? ⟨b, o + j * 7 + 1, none⟩ = some (.int .i64 k.vk) := hc 1 _ rfl
        have c2 : wr.cell? ⟨b, o + j * 7 + 2, none⟩ = some (.int .i64 k.vn) := hc 2 _ rfl
        have c3 : wr.cell? ⟨b, o + j * 7 + 3, none⟩ = some (.string k.vs) := hc 3 _ rfl
        have c4 : wr.cell? ⟨b, o + j * 7 + 4, none⟩ = some (.int .i64 k.var) := hc 4 _ rfl
        have c5 : wr.cell? ⟨b, o + j * 7 + 5, none⟩ = some (.int .i64 k.col) := hc 5 _ rfl
        have c6 : wr.cell? ⟨b, o + j * 7 + 6, none⟩ = some (.slice k.a k.kids.length k.c) := hc 6 _ rfl
        clear hc hx
        go_wp2_with fail
        refine (IH.out k _ (HKk.out.on (Rw.below_alloc _ _))).mono ?_
        rintro e w1 ⟨rfl, hb1⟩
        have HB1 := Rw.dh (below_on HR.out.1 (below_on (Rw.below_alloc wr _) hb1))
        clear hb1
        cases hd : deepN n k
        · go_wp2
          go_roundw
          case rel => exact ⟨j + 1, hlt, by go_num, HB1.out, any_take_falseN HX.out HR.out.2 hd⟩
          case measure => simp [intOf]; omega
        · go_wp2
          go_ret
          refine ⟨Rw.ret_bool ?_, HB1.out⟩
          symm
          rw [HD.out, List.any_eq_true]
          exact ⟨k, List.mem_of_getElem? HX.out, hd⟩
      · have hjs : j = l.length := by omega
        subst hjs
        go_wp2
        go_ret
        refine ⟨Rw.ret_bool ?_, HR.out.1⟩
        have := HR.out.2
        rw [List.take_length] at this
        rw [HD.out, this]
end Go.Proofs.Ytlckoenkogaibaa
