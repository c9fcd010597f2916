/-
  Lex: the document's Same of tokens, where they are the same.
-/
import Derived.Test.YtfokllgfejcehaaDoorLxM
import Derived.Test.YtfokllgfejcehaaDoorSmR
namespace Go.Proofs.YtfokllgfejcehaaDoor
open Go.RowKit Rw

set_option maxRecDepth 100000 in
set_option maxHeartbeats 2000000 in
theorem same_true {l m : List Tk} {a b : Option Addr} {n c d : Nat} {w : World} (at_ : Bool) (h1 : SlG tkC 4 w a l) (h2 : SlG tkC 4 w b m) (he : ∀ (j : Nat) (x y : Tk), l[j]? = some x → m[j]? = some y → x.kind = y.kind ∧ x.n = y.n ∧ x.s = y.s ∧ (at_ = true → x.pl = y.pl)) (hl : l.length = n) (hm : m.length = n) (hn : n ≤ 200000) :
    Calls Tryd.prog 10 #[.slice a n c, .slice b n d, .bool at_] w fun e w' => e = .returned (.bool true) ∧ Below w.heap.size w w' := by
  have H1 := thid h1
  have H2 := thid h2
  have HL := thid hl
  have HM := thid hm
  have HE := thid he
  clear h1 h2 hl hm he
  have hnn : ((n : Int) == (n : Int)) = true := beq_self_eq_true _
  go_enter Tryd.func10, Tryd.ntmps10
  go_wp2
  go_loopw [7] (fun i wr => ∃ j : Nat, j ≤ n ∧ i = .int .i64 j ∧ Hid (Below w.heap.size w wr)) (fun i _ => n - (intOf i).toNat)
  case atStart => exact ⟨0, Nat.zero_le _, rfl, Below.refl _ _⟩
  case round =>
    obtain ⟨j, hj, rfl, HB⟩ := hrel
    by_cases hlt : j < n
    · obtain ⟨b1, o1, x, rfl, hb1, hx, hc⟩ := (H1.out.below HB.out).at (j := j) (by rw [HL.out]; exact hlt)
      obtain ⟨b2, o2, y, rfl, hb2, hy, hd⟩ := (H2.out.below HB.out).at (j := j) (by rw [HM.out]; exact hlt)
      obtain ⟨ek, en, es, ep⟩ := HE.out j x y hx hy
      have HC := thid hc
      have HD := thid hd
      clear hc hd hx hy HE
      go_wp2_with fail
      refine sm_region (x := x) (y := y) (j := j) ⟨⟨_, rfl, rfl, rfl, rfl⟩, ⟨_, rfl, rfl, rfl, rfl⟩, ⟨_, rfl, rfl, rfl, rfl, sdep_of (by kernel_rfl), sdep_of (by kernel_rfl)⟩, ⟨_, rfl, rfl, rfl, rfl, sdep_of (by kernel_rfl)⟩, ⟨_, rfl, rfl, rfl, rfl⟩, ⟨_, rfl, rfl, rfl, rfl⟩, ⟨_, rfl, rfl, rfl, rfl, sdep_of (by kernel_rfl), sdep_of (by kernel_rfl)⟩, ⟨_, rfl, rfl, rfl, rfl, sdep_of (by kernel_rfl)⟩, ⟨_, rfl, rfl, rfl, rfl⟩, ⟨_, rfl, rfl, rfl, rfl⟩, ⟨_, rfl, rfl, rfl, rfl, sdep_of (by kernel_rfl), sdep_of (by kernel_rfl)⟩, ⟨_, rfl, rfl, rfl, rfl, sdep_of (by kernel_rfl), sdep_of (by kernel_rfl)⟩, rfl, slow_of (by kernel_rfl)⟩
        (by simp) rfl rfl rfl hlt hb1 hb2 HC.out HD.out ?_
      intro v21 v22 v23 v24 v25 v26 v27 v28 p q W hpq hbw hp hq gp gq
      simp only [Act.put, List.setIfInBounds_toArray, List.set_cons_succ, List.set_cons_zero]
      obtain ⟨xk, xn, xp, xs⟩ := x
      obtain ⟨yk, yn, yp, ys⟩ := y
      dsimp only at ek en es ep
      subst ek en es
      unfold tkA at gp gq
      dsimp only at gp gq
      have p0 : W.cell? ⟨p, 0, none⟩ = some (.int .i64 xk) := cell_of_row _ _ _ _ _ _ gp
      have p1 : W.cell? ⟨p, 1, none⟩ = some (.int .i64 xn) := cell_of_row _ _ _ _ _ _ gp
      have p2 : W.cell? ⟨p, 2, none⟩ = some (.int .i64 xp) := cell_of_row _ _ _ _ _ _ gp
      have p3 : W.cell? ⟨p, 3, none⟩ = some (.string xs) := cell_of_row _ _ _ _ _ _ gp
      have q0 : W.cell? ⟨q, 0, none⟩ = some (.int .i64 xk) := cell_of_row _ _ _ _ _ _ gq
      have q1 : W.cell? ⟨q, 1, none⟩ = some (.int .i64 xn) := cell_of_row _ _ _ _ _ _ gq
      have q2 : W.cell? ⟨q, 2, none⟩ = some (.int .i64 yp) := cell_of_row _ _ _ _ _ _ gq
      have q3 : W.cell? ⟨q, 3, none⟩ = some (.string xs) := cell_of_row _ _ _ _ _ _ gq
      have fp : W.frozen? ⟨p, 2, none⟩ = false := frozen_of_row _ _ _ _ _ gp
      have fq : W.frozen? ⟨q, 2, none⟩ = false := frozen_of_row _ _ _ _ _ gq
      have HBW := thid (below_on HB.out hbw HB.out.size)
      have kk : (xk == xk) = true := beq_self_eq_true _
      have nn : (xn == xn) = true := beq_self_eq_true _
      have ss : (xs.toList == xs.toList) = true := beq_self_eq_true _
      have hwp : w.heap.size ≤ p := Nat.le_trans HB.out.size hp
      have hwq : w.heap.size ≤ q := Nat.le_trans HB.out.size hq
      cases at_
      · clear hbw gp gq hp hq HC HD HB
        go_wp2_with fail
        exact ⟨⟨j + 1, by omega, by go_num, (HBW.out.setCell hwp _).setCell hwq _⟩, by simp [intOf]; omega⟩
      · have e := ep rfl
        subst e
        have pp : (xp == xp) = true := beq_self_eq_true _
        clear hbw gp gq hp hq HC HD HB
        go_wp2_with fail
        exact ⟨⟨j + 1, by omega, by go_num, HBW.out⟩, by simp [intOf]; omega⟩
    · have hjn : j = n := by omega
      subst hjn
      go_wp2
      go_ret
      exact ⟨rfl, HB.out⟩
end Go.Proofs.YtfokllgfejcehaaDoor
