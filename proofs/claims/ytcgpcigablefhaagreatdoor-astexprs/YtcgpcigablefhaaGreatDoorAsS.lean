/-
  AstExprs: the walk.
-/
import Derived.Test.YtcgpcigablefhaaGreatDoorAsC
import Derived.Test.YtcgpcigablefhaaGreatDoorAsD
import Derived.Test.YtcgpcigablefhaaGreatDoorAsF
import Derived.Test.YtcgpcigablefhaaGreatDoorAsM
import Derived.Test.YtcgpcigablefhaaGreatDoorAsN
import Derived.Test.YtcgpcigablefhaaGreatDoorBelR
namespace Go.Proofs.YtcgpcigablefhaaGreatDoor
open Go.RowKit

theorem Like.show : ∀ {n : Nat} {x y : XL}, Like n x y → showX n x = showX n y
  | 0, _, _, _ => rfl
  | n + 1, .mk xo xk xn xs xv xc xa xp l, .mk yo yk yn ys yv yc ya yp m, h => by
    obtain ⟨h1, h2, h3, h4, h5, h6, h7, h8⟩ := h
    simp only [XL.op, XL.vk, XL.vn, XL.vs, XL.var, XL.col, XL.kids] at h1 h2 h3 h4 h5 h6 h7 h8
    subst h1 h2 h3 h4 h5 h6
    have hk : showX n (l.headD zXL) = showX n (m.headD zXL) := by
      match l, m, h7, h8 with
      | [], [], _, _ => rfl
      | k :: _, k' :: _, _, h8 => exact Like.show (h8 0 k k' rfl rfl)
    have ht : showX n (l.tail.headD zXL) = showX n (m.tail.headD zXL) := by
      match l, m, h7, h8 with
      | [], [], _, _ => rfl
      | [_], [_], _, _ => rfl
      | _ :: k :: _, _ :: k' :: _, _, h8 => exact Like.show (h8 1 k k' rfl rfl)
    show showN xo.toList _ _ (showX n (l.headD zXL)) (showX n (l.tail.headD zXL)) = showN xo.toList _ _ (showX n (m.headD zXL)) (showX n (m.tail.headD zXL))
    rw [hk, ht]
    rfl

theorem any_not_allL (l : List XL) (f : XL → Bool) : l.any f = !l.all (fun x => !f x) := by
  induction l with
  | nil => rfl
  | cons x l ih => rw [List.any_cons, List.all_cons, ih, Bool.not_and, Bool.not_not]

theorem Like.deep : ∀ {n : Nat} {x y : XL}, Like n x y → deepB n x = deepB n y
  | 0, _, _, _ => rfl
  | n + 1, x, y, h => by
    obtain ⟨_, _, _, _, _, _, h7, h8⟩ := h
    have := any_at (f := fun k => !deepB n k) (g := fun k => !deepB n k) h7 fun j k k' a b => by rw [Like.deep (h8 j k k' a b)]
    simp only [deepB]
    have e1 := any_not_allL x.kids (deepB n)
    have e2 := any_not_allL y.kids (deepB n)
    rw [e1, e2, this]

/-- The cells of a variable that holds an expression. -/
theorem x_cells {W : World} {p : Nat} {xo xs xv xc : ByteArray} {xk xn : Int} {va : Value} {T : TypeId} (h : W.heap[p]? = some (.cells #[.string xo, .int .i64 xk, .int .i64 xn, .string xs, .string xv, .string xc, va] T (0, 0))) :
    W.cell? ⟨p, 0, none⟩ = some (.string xo) ∧ W.cell? ⟨p, 1, none⟩ = some (.int .i64 xk) ∧ W.cell? ⟨p, 2, none⟩ = some (.int .i64 xn) ∧ W.cell? ⟨p, 3, none⟩ = some (.string xs) ∧ W.cell? ⟨p, 4, none⟩ = some (.string xv) ∧ W.cell? ⟨p, 5, none⟩ = some (.string xc) ∧ W.cell? ⟨p, 6, none⟩ = some va := by
  refine ⟨?_, ?_, ?_, ?_, ?_, ?_, ?_⟩ <;> (rw [cell_of_row _ _ _ _ _ _ h]; rfl)

set_option maxRecDepth 100000 in
set_option maxHeartbeats 2000000 in
theorem astExprs_walk (x : XL) (w : World) (hI : ∀ n, In n w x) (hV : LibV w) (hA0 : ∀ W, LibV W → Calls Tryz.prog 6 #[] W fun e W' => e = .returned (.bool true) ∧ Below W.heap.size W W') :
    Calls Tryz.prog 4 #[xV x] w fun e W => e = .returned (.bool true) ∧ Below w.heap.size w W := by
  have HA := Rw.dh (fun W (hb : Below w.heap.size w W) => hA0 W (hV.on hb))
  have HD : Hid (∀ W, Below w.heap.size w W → Calls Tryz.prog 13 #[xV x, .int .i64 60] W fun e W' => e = .returned (.bool (deepB 60 x)) ∧ Below W.heap.size W W') := fun W hb => deep_walk 60 (by decide) x W ((hI 60).on hb)
  have HR : Hid (∀ W, Below w.heap.size w W → Calls Tryz.prog 17 #[xV x] W fun e W' => e = .returned (.bool (rightX 20 x)) ∧ Below W.heap.size W W') := fun W hb => rx_walk x W ((hI 20).on hb)
  have HSx : Hid (∀ W, Below w.heap.size w W → Calls Tryz.prog 18 #[xV x] W fun e W' => e = .returned (.string (shB (sxT x))) ∧ Below W.heap.size W W') := fun W hb => sx_walk x W ((hI 20).on hb) (hV.on hb)
  cases hd : deepB 60 x
  · rw [hd] at HD
    have HP : Hid (∀ W, Below w.heap.size w W → Calls Tryz.prog 15 #[xV x] W (PlainP 60 x W)) := fun W hb => plain_walk 60 x W ((hI 60).on hb) hd
    clear hI hV hA0
    obtain ⟨xo, xk, xn, xs, xv, xc, xa, xp, l⟩ := x
    show Calls Tryz.prog 4 #[.agg #[.string xo, .int .i64 xk, .int .i64 xn, .string xs, .string xv, .string xc, .slice xa l.length xp]] w _
    go_enter Tryz.func4, Tryz.ntmps4
    go_wp2_with fail
    refine (HA.out _ (Rw.below_alloc _ _)).mono ?_
    rintro e w1 ⟨rfl, hb1⟩
    have p1 : w1.heap[w.heap.size]? = some (.cells #[.string xo, .int .i64 xk, .int .i64 xn, .string xs, .string xv, .string xc, .slice xa l.length xp] 44 (0, 0)) := (hb1.block _ (by simp)).trans (Rw.heap_new _ _)
    have HB1 := Rw.dh (dig_below_on (Rw.below_alloc w _) hb1)
    clear hb1
    have hlt1 : w.heap.size < w1.heap.size := (Array.getElem?_eq_some_iff.1 p1).1
    obtain ⟨d0, d1, d2, d3, d4, d5, d6⟩ := x_cells p1
    go_wp2_with fail
    refine (HD.out _ HB1.out).mono ?_
    rintro e w2 ⟨rfl, hb2⟩
    have p2 : w2.heap[w.heap.size]? = some (.cells #[.string xo, .int .i64 xk, .int .i64 xn, .string xs, .string xv, .string xc, .slice xa l.length xp] 44 (0, 0)) := (hb2.block _ hlt1).trans p1
    have HB2 := Rw.dh (dig_below_on HB1.out hb2)
    have hlt2 : w.heap.size < w2.heap.size := (Array.getElem?_eq_some_iff.1 p2).1
    clear d0 d1 d2 d3 d4 d5 d6
    obtain ⟨d0, d1, d2, d3, d4, d5, d6⟩ := x_cells p2
    clear hb2
    go_wp2_with fail
    refine (HP.out _ HB2.out).mono ?_
    rintro e w3 ⟨y, rfl, hL, hIy, hb3⟩
    have HSz : Hid (Calls Tryz.prog 14 #[xV y, .int .i64 400] w3 (SizeP 400 w3)) := size_walk 60 y w3 400 (hIy 60).1 ((hL.deep).symm.trans hd) (by decide) (by decide)
    have p3 : w3.heap[w.heap.size]? = some (.cells #[.string xo, .int .i64 xk, .int .i64 xn, .string xs, .string xv, .string xc, .slice xa l.length xp] 44 (0, 0)) := (hb3.block _ hlt2).trans p2
    have HB3 := Rw.dh (dig_below_on HB2.out hb3)
    have hlt3 : w.heap.size < w3.heap.size := (Array.getElem?_eq_some_iff.1 p3).1
    clear d0 d1 d2 d3 d4 d5 d6
    obtain ⟨d0, d1, d2, d3, d4, d5, d6⟩ := x_cells p3
    clear hb3 hL hIy
    go_wp2_with fail
    refine HSz.out.mono ?_
    rintro e w4 ⟨v, rfl, hv1, hv2, hb4⟩
    have p4 : w4.heap[w.heap.size]? = some (.cells #[.string xo, .int .i64 xk, .int .i64 xn, .string xs, .string xv, .string xc, .slice xa l.length xp] 44 (0, 0)) := (hb4.block _ hlt3).trans p3
    have HB4 := Rw.dh (dig_below_on HB3.out hb4)
    have hlt4 : w.heap.size < w4.heap.size := (Array.getElem?_eq_some_iff.1 p4).1
    clear d0 d1 d2 d3 d4 d5 d6
    obtain ⟨d0, d1, d2, d3, d4, d5, d6⟩ := x_cells p4
    clear hb4 HSz
    by_cases hv : 400 < v
    · go_wp2
      go_ret
      exact ⟨rfl, HB4.out⟩
    · go_wp2_with fail
      refine (HP.out _ HB4.out).mono ?_
      rintro e w5 ⟨y2, rfl, hL2, hIy2, hb5⟩
      have HRy : Hid (∀ W, Below w5.heap.size w5 W → Calls Tryz.prog 16 #[xV y2, .int .i64 20] W fun e W' => e = .returned (.bool (rightX 20 y2)) ∧ Below W.heap.size W W') := fun W hb => rrx_walk 20 (by decide) y2 W ((hIy2 20).1.on hb)
      have HSy : Hid (∀ W, Below w5.heap.size w5 W → rightX 20 y2 = true → Calls Tryz.prog 19 #[xV y2] W fun e W' => e = .returned (.string (shB (showX 20 y2))) ∧ Below W.heap.size W W') := fun W hb hr => doc_walk 20 (by rw [lenB_20]; decide) y2 W ((hIy2 20).1.on hb) hr
      have hE1 := (hL2.le (by decide : 20 ≤ 60)).right
      have hE2 := (hL2.le (by decide : 20 ≤ 60)).show
      rw [← hE1, ← hE2] at HSy
      rw [← hE1] at HRy
      have p5 : w5.heap[w.heap.size]? = some (.cells #[.string xo, .int .i64 xk, .int .i64 xn, .string xs, .string xv, .string xc, .slice xa l.length xp] 44 (0, 0)) := (hb5.block _ hlt4).trans p4
      have HB5 := Rw.dh (dig_below_on HB4.out hb5)
      have hlt5 : w.heap.size < w5.heap.size := (Array.getElem?_eq_some_iff.1 p5).1
      clear d0 d1 d2 d3 d4 d5 d6
      obtain ⟨d0, d1, d2, d3, d4, d5, d6⟩ := x_cells p5
      clear hb5 hL2 hIy2 hE1 hE2 HP HD HA
      obtain ⟨T, HT⟩ : ∃ T, Hid (showX 20 (.mk xo xk xn xs xv xc xa xp l) = T) := ⟨_, rfl⟩
      cases hr : rightX 20 (.mk xo xk xn xs xv xc xa xp l)
      · have hsx : sxT (.mk xo xk xn xs xv xc xa xp l) = [] := by unfold sxT; rw [hr]; rfl
        rw [hr] at HR HRy
        rw [hsx] at HSx
        clear hsx HSy HT hd hr
        obtain ⟨yo, yk, yn, ys, yv, yc, ya, yp, m⟩ := y2
        unfold xV
        go_wp2_with fail
        refine (HRy.out _ (by first | exact Below.refl _ _ | exact Rw.below_alloc _ _)).mono ?_
        rintro e w6 ⟨rfl, hb6⟩
        have q6 := (hb6.block w5.heap.size (by simp)).trans (Rw.heap_new w5 _)
        replace hb6 := dig_below_on (Rw.below_alloc w5 _) hb6
        have p6 : w6.heap[w.heap.size]? = some (.cells #[.string xo, .int .i64 xk, .int .i64 xn, .string xs, .string xv, .string xc, .slice xa l.length xp] 44 (0, 0)) := (hb6.block _ hlt5).trans p5
        have HB6 := Rw.dh (dig_below_on HB5.out hb6)
        have hlt6 : w.heap.size < w6.heap.size := (Array.getElem?_eq_some_iff.1 p6).1
        clear d0 d1 d2 d3 d4 d5 d6
        obtain ⟨d0, d1, d2, d3, d4, d5, d6⟩ := x_cells p6
        have HB6y := Rw.dh hb6
        clear hb6
        go_wp2_with fail
        refine (HR.out _ HB6.out).mono ?_
        rintro e w7 ⟨rfl, hb7⟩
        have p7 : w7.heap[w.heap.size]? = some (.cells #[.string xo, .int .i64 xk, .int .i64 xn, .string xs, .string xv, .string xc, .slice xa l.length xp] 44 (0, 0)) := (hb7.block _ hlt6).trans p6
        have HB7 := Rw.dh (dig_below_on HB6.out hb7)
        have hlt7 : w.heap.size < w7.heap.size := (Array.getElem?_eq_some_iff.1 p7).1
        clear d0 d1 d2 d3 d4 d5 d6
        obtain ⟨d0, d1, d2, d3, d4, d5, d6⟩ := x_cells p7
        have q7 := (hb7.block w5.heap.size (Array.getElem?_eq_some_iff.1 q6).1).trans q6
        have HB7y := Rw.dh (dig_below_on HB6y.out hb7)
        clear hb7 q6
        obtain ⟨g0, g1, g2, g3, g4, g5, g6⟩ := x_cells q7
        have KD := Rw.dh (fun q : BelowW w7 => (q.below.block w.heap.size hlt7).trans p7)
        have KG := Rw.dh (fun q : BelowW w7 => (q.below.block w5.heap.size (Array.getElem?_eq_some_iff.1 q7).1).trans q7)
        have e0 : ∀ q : BelowW w7, q.w.cell? ⟨w.heap.size, 0, none⟩ = some (.string xo) := fun q => (x_cells (KD.out q)).1
        have e1 : ∀ q : BelowW w7, q.w.cell? ⟨w.heap.size, 1, none⟩ = some (.int .i64 xk) := fun q => (x_cells (KD.out q)).2.1
        have e2 : ∀ q : BelowW w7, q.w.cell? ⟨w.heap.size, 2, none⟩ = some (.int .i64 xn) := fun q => (x_cells (KD.out q)).2.2.1
        have e3 : ∀ q : BelowW w7, q.w.cell? ⟨w.heap.size, 3, none⟩ = some (.string xs) := fun q => (x_cells (KD.out q)).2.2.2.1
        have e4 : ∀ q : BelowW w7, q.w.cell? ⟨w.heap.size, 4, none⟩ = some (.string xv) := fun q => (x_cells (KD.out q)).2.2.2.2.1
        have e5 : ∀ q : BelowW w7, q.w.cell? ⟨w.heap.size, 5, none⟩ = some (.string xc) := fun q => (x_cells (KD.out q)).2.2.2.2.2.1
        have e6 : ∀ q : BelowW w7, q.w.cell? ⟨w.heap.size, 6, none⟩ = some (.slice xa l.length xp) := fun q => (x_cells (KD.out q)).2.2.2.2.2.2
        have k0 : ∀ q : BelowW w7, q.w.cell? ⟨w5.heap.size, 0, none⟩ = some (.string yo) := fun q => (x_cells (KG.out q)).1
        have k1 : ∀ q : BelowW w7, q.w.cell? ⟨w5.heap.size, 1, none⟩ = some (.int .i64 yk) := fun q => (x_cells (KG.out q)).2.1
        have k2 : ∀ q : BelowW w7, q.w.cell? ⟨w5.heap.size, 2, none⟩ = some (.int .i64 yn) := fun q => (x_cells (KG.out q)).2.2.1
        have k3 : ∀ q : BelowW w7, q.w.cell? ⟨w5.heap.size, 3, none⟩ = some (.string ys) := fun q => (x_cells (KG.out q)).2.2.2.1
        have k4 : ∀ q : BelowW w7, q.w.cell? ⟨w5.heap.size, 4, none⟩ = some (.string yv) := fun q => (x_cells (KG.out q)).2.2.2.2.1
        have k5 : ∀ q : BelowW w7, q.w.cell? ⟨w5.heap.size, 5, none⟩ = some (.string yc) := fun q => (x_cells (KG.out q)).2.2.2.2.2.1
        have k6 : ∀ q : BelowW w7, q.w.cell? ⟨w5.heap.size, 6, none⟩ = some (.slice ya m.length yp) := fun q => (x_cells (KG.out q)).2.2.2.2.2.2
        have HSx7 : Hid (∀ q : BelowW w7, Calls Tryz.prog 18 #[.agg #[.string xo, .int .i64 xk, .int .i64 xn, .string xs, .string xv, .string xc, .slice xa l.length xp]] q.w fun e W' => e = .returned (.string (shB [])) ∧ Below q.w.heap.size q.w W') := fun q => HSx.out _ (dig_below_on HB7.out q.below)
        have hTT : ((shB []).toList == []) = true := by simp [shB]
        generalize shB [] = TT at *
        clear HSx HR HRy KD KG
        go_wp2_with fail
        refine wp_region_below (by kernel_rfl) (by kernel_rfl) (fun _ => ?_)
        repeat (go_big_quiet_step (first | rfl | (go_at_call 18; exact quiet_of_below (HSx7.out _))))
        refine wpQuiet_nil ?_
        rintro _ ⟨q, rfl⟩
        go_wp2
        go_ret
        exact ⟨rfl, dig_below_on HB7.out q.below⟩
      · have hsx : sxT (.mk xo xk xn xs xv xc xa xp l) = T := by unfold sxT; rw [hr]; exact HT.out
        have HSy2 := Rw.dh (fun W hb => HSy.out W hb hr)
        rw [hr] at HR HRy
        rw [hsx] at HSx
        rw [HT.out] at HSy2
        clear hsx HSy HT hd hr
        obtain ⟨yo, yk, yn, ys, yv, yc, ya, yp, m⟩ := y2
        unfold xV
        go_wp2_with fail
        refine (HRy.out _ (by first | exact Below.refl _ _ | exact Rw.below_alloc _ _)).mono ?_
        rintro e w6 ⟨rfl, hb6⟩
        have q6 := (hb6.block w5.heap.size (by simp)).trans (Rw.heap_new w5 _)
        replace hb6 := dig_below_on (Rw.below_alloc w5 _) hb6
        have p6 : w6.heap[w.heap.size]? = some (.cells #[.string xo, .int .i64 xk, .int .i64 xn, .string xs, .string xv, .string xc, .slice xa l.length xp] 44 (0, 0)) := (hb6.block _ hlt5).trans p5
        have HB6 := Rw.dh (dig_below_on HB5.out hb6)
        have hlt6 : w.heap.size < w6.heap.size := (Array.getElem?_eq_some_iff.1 p6).1
        clear d0 d1 d2 d3 d4 d5 d6
        obtain ⟨d0, d1, d2, d3, d4, d5, d6⟩ := x_cells p6
        have HB6y := Rw.dh hb6
        clear hb6
        go_wp2_with fail
        refine (HR.out _ HB6.out).mono ?_
        rintro e w7 ⟨rfl, hb7⟩
        have p7 : w7.heap[w.heap.size]? = some (.cells #[.string xo, .int .i64 xk, .int .i64 xn, .string xs, .string xv, .string xc, .slice xa l.length xp] 44 (0, 0)) := (hb7.block _ hlt6).trans p6
        have HB7 := Rw.dh (dig_below_on HB6.out hb7)
        have hlt7 : w.heap.size < w7.heap.size := (Array.getElem?_eq_some_iff.1 p7).1
        clear d0 d1 d2 d3 d4 d5 d6
        obtain ⟨d0, d1, d2, d3, d4, d5, d6⟩ := x_cells p7
        have q7 := (hb7.block w5.heap.size (Array.getElem?_eq_some_iff.1 q6).1).trans q6
        have HB7y := Rw.dh (dig_below_on HB6y.out hb7)
        clear hb7 q6
        obtain ⟨g0, g1, g2, g3, g4, g5, g6⟩ := x_cells q7
        have KD := Rw.dh (fun q : BelowW w7 => (q.below.block w.heap.size hlt7).trans p7)
        have KG := Rw.dh (fun q : BelowW w7 => (q.below.block w5.heap.size (Array.getElem?_eq_some_iff.1 q7).1).trans q7)
        have e0 : ∀ q : BelowW w7, q.w.cell? ⟨w.heap.size, 0, none⟩ = some (.string xo) := fun q => (x_cells (KD.out q)).1
        have e1 : ∀ q : BelowW w7, q.w.cell? ⟨w.heap.size, 1, none⟩ = some (.int .i64 xk) := fun q => (x_cells (KD.out q)).2.1
        have e2 : ∀ q : BelowW w7, q.w.cell? ⟨w.heap.size, 2, none⟩ = some (.int .i64 xn) := fun q => (x_cells (KD.out q)).2.2.1
        have e3 : ∀ q : BelowW w7, q.w.cell? ⟨w.heap.size, 3, none⟩ = some (.string xs) := fun q => (x_cells (KD.out q)).2.2.2.1
        have e4 : ∀ q : BelowW w7, q.w.cell? ⟨w.heap.size, 4, none⟩ = some (.string xv) := fun q => (x_cells (KD.out q)).2.2.2.2.1
        have e5 : ∀ q : BelowW w7, q.w.cell? ⟨w.heap.size, 5, none⟩ = some (.string xc) := fun q => (x_cells (KD.out q)).2.2.2.2.2.1
        have e6 : ∀ q : BelowW w7, q.w.cell? ⟨w.heap.size, 6, none⟩ = some (.slice xa l.length xp) := fun q => (x_cells (KD.out q)).2.2.2.2.2.2
        have k0 : ∀ q : BelowW w7, q.w.cell? ⟨w5.heap.size, 0, none⟩ = some (.string yo) := fun q => (x_cells (KG.out q)).1
        have k1 : ∀ q : BelowW w7, q.w.cell? ⟨w5.heap.size, 1, none⟩ = some (.int .i64 yk) := fun q => (x_cells (KG.out q)).2.1
        have k2 : ∀ q : BelowW w7, q.w.cell? ⟨w5.heap.size, 2, none⟩ = some (.int .i64 yn) := fun q => (x_cells (KG.out q)).2.2.1
        have k3 : ∀ q : BelowW w7, q.w.cell? ⟨w5.heap.size, 3, none⟩ = some (.string ys) := fun q => (x_cells (KG.out q)).2.2.2.1
        have k4 : ∀ q : BelowW w7, q.w.cell? ⟨w5.heap.size, 4, none⟩ = some (.string yv) := fun q => (x_cells (KG.out q)).2.2.2.2.1
        have k5 : ∀ q : BelowW w7, q.w.cell? ⟨w5.heap.size, 5, none⟩ = some (.string yc) := fun q => (x_cells (KG.out q)).2.2.2.2.2.1
        have k6 : ∀ q : BelowW w7, q.w.cell? ⟨w5.heap.size, 6, none⟩ = some (.slice ya m.length yp) := fun q => (x_cells (KG.out q)).2.2.2.2.2.2
        have HSx7 : Hid (∀ q : BelowW w7, Calls Tryz.prog 18 #[.agg #[.string xo, .int .i64 xk, .int .i64 xn, .string xs, .string xv, .string xc, .slice xa l.length xp]] q.w fun e W' => e = .returned (.string (shB T)) ∧ Below q.w.heap.size q.w W') := fun q => HSx.out _ (dig_below_on HB7.out q.below)
        have HSy7 : Hid (∀ q : BelowW w7, Calls Tryz.prog 19 #[.agg #[.string yo, .int .i64 yk, .int .i64 yn, .string ys, .string yv, .string yc, .slice ya m.length yp]] q.w fun e W' => e = .returned (.string (shB T)) ∧ Below q.w.heap.size q.w W') := fun q => HSy2.out _ (dig_below_on HB7y.out q.below)
        have hTT : ((shB T).toList == (shB T).toList) = true := by simp
        generalize shB T = TT at *
        clear HSx HSy2 HR HRy KD KG
        go_wp2_with fail
        refine wp_region_below (by kernel_rfl) (by kernel_rfl) (fun _ => ?_)
        repeat (go_big_quiet_step (first | rfl | (go_at_call 18; exact quiet_of_below (HSx7.out _)) | (go_at_call 19; exact quiet_of_below (HSy7.out _))))
        refine wpQuiet_nil ?_
        rintro _ ⟨q, rfl⟩
        go_wp2
        go_ret
        exact ⟨rfl, dig_below_on HB7.out q.below⟩
  · rw [hd] at HD
    clear hI hV hA0 HR HSx
    obtain ⟨xo, xk, xn, xs, xv, xc, xa, xp, l⟩ := x
    show Calls Tryz.prog 4 #[.agg #[.string xo, .int .i64 xk, .int .i64 xn, .string xs, .string xv, .string xc, .slice xa l.length xp]] w _
    go_enter Tryz.func4, Tryz.ntmps4
    go_wp2_with fail
    refine (HA.out _ (Rw.below_alloc _ _)).mono ?_
    rintro e w1 ⟨rfl, hb1⟩
    have p1 : w1.heap[w.heap.size]? = some (.cells #[.string xo, .int .i64 xk, .int .i64 xn, .string xs, .string xv, .string xc, .slice xa l.length xp] 44 (0, 0)) := (hb1.block _ (by simp)).trans (Rw.heap_new _ _)
    have HB1 := Rw.dh (dig_below_on (Rw.below_alloc w _) hb1)
    clear hb1
    obtain ⟨d0, d1, d2, d3, d4, d5, d6⟩ := x_cells p1
    go_wp2_with fail
    refine (HD.out _ HB1.out).mono ?_
    rintro e w2 ⟨rfl, hb2⟩
    have HB2 := Rw.dh (dig_below_on HB1.out hb2)
    clear hb2
    go_wp2
    go_ret
    exact ⟨rfl, HB2.out⟩
end Go.Proofs.YtcgpcigablefhaaGreatDoor
