/-
  Ast: writeExpr at Ops of two; exprText, ShowExpr.
-/
import Derived.Deep.RegionHeld
import Derived.Test.YtcgpcigablefhaaGreatDoorAsL
import Derived.Test.YtcgpcigablefhaaGreatDoorAsK1
import Derived.Test.YtcgpcigablefhaaGreatDoorAsH
namespace Go.Proofs.YtcgpcigablefhaaGreatDoor
open Go.RowKit

set_option maxRecDepth 100000 in
set_option maxHeartbeats 1000000 in
theorem wx_two {n : Nat} (IH : WrX n) {w0 w : World} {b : Nat} {acc : List UInt8} {xo xs xv xc : ByteArray} {xk xn : Int} {xa : Option Addr} {xp : Nat} {k k' : XL} (h : Bl w0 b acc w) (hV : LibV w0) (hS : Rw.SlG xC 7 w0 xa [k, k']) (hI : In n w0 k) (hr : rightX n k = true) (hI' : In n w0 k') (hr' : rightX n k' = true) (hT : isTwo xo = true) (h1 : (xo.toList == [118, 97, 108, 117, 101]) = false) (h2 : (xo.toList == [99, 111, 108, 117, 109, 110]) = false) (h3 : (xo.toList == [110, 101, 103]) = false) (h4 : (xo.toList == [110, 111, 116]) = false) (h5 : (xo.toList == [110, 117, 108, 108]) = false) (hl : acc.length + lenB (n + 1) ≤ 140737488355328) :
    Calls Tryz.prog 74 #[.pointer (some ⟨b, 0, none⟩), .agg #[.string xo, .int .i64 xk, .int .i64 xn, .string xs, .string xv, .string xc, .slice xa 2 xp]] w fun e W => e = .returned (.tuple #[]) ∧ Bl w0 b (acc ++ showX (n + 1) (.mk xo xk xn xs xv xc xa xp [k, k'])) W ∧ Kp b w W := by
  have hE : showX (n + 1) (.mk xo xk xn xs xv xc xa xp [k, k']) = [40] ++ showX n k ++ ([32] ++ opT xo.toList ++ [32]) ++ showX n k' ++ [41] := show_two h1 h2 h3 h4 h5
  rw [hE]
  have HB := Rw.dh h
  have h100 := lenB_ge n
  have hlk := showX_len n k w0 hI hr
  have hot := opT_len xo.toList
  have htl := two_len hT
  have hl3 : acc.length + 3 * lenB n ≤ 140737488355328 := by have e : lenB (n + 1) = 3 * lenB n := rfl; omega
  obtain ⟨U, HU1, HU2⟩ : ∃ U : ByteArray, Hid (U = ⟨(Lib.toUpperA xo.data.toList).toArray⟩) ∧ Hid (U.toList = opT xo.toList) := ⟨_, rfl, by
    show _ = _
    rw [bl_list, ← two_upper hT, ByteArray.toList_eq]⟩
  have hUs : U.size ≤ 3 := by rw [← bal, HU2.out]; omega
  have HTo : Hid (∀ W, Calls Tryz.prog 94 #[.string xo] W fun e W' => e = .returned (.string U) ∧ Below W.heap.size W W') := fun W => by
    rw [HU1.out]
    refine Tryz.strings_ToUpper_ascii xo W (by rw [bal] at htl; omega) fun j c hc => ?_
    exact two_ascii hT c (by rw [ByteArray.toList_eq]; exact List.mem_of_getElem? hc)
  obtain ⟨S2, HS2, hS2, HS3⟩ : ∃ S2 : ByteArray, Hid ((⟨#[32]⟩ : ByteArray) ++ U ++ (⟨#[32]⟩ : ByteArray) = S2) ∧ S2.size ≤ 20 ∧ Hid (S2.toList = [32] ++ opT xo.toList ++ [32]) := by
    refine ⟨_, Rw.dh rfl, ?_, ?_⟩
    · rw [ByteArray.size_append, ByteArray.size_append]
      show 1 + U.size + 1 ≤ 20
      omega
    · show _ = _
      rw [← HU2.out]
      simp only [ByteArray.toList_eq, ByteArray.data_append, Array.toList_append]
  have e1 : (⟨#[40]⟩ : ByteArray).toList = [40] := bl_list [40]
  have HW1 : Hid (∀ W, Bl w0 b acc W → Calls Tryz.prog 93 #[.pointer (some ⟨b, 0, none⟩), .string ⟨#[40]⟩, xV k, .string S2] W fun e W' => e = .returned (.tuple #[]) ∧ Bl w0 b (acc ++ ([40] ++ showX n k ++ ([32] ++ opT xo.toList ++ [32]))) W' ∧ Kp b W W') := by
    intro W hb
    refine (wk_walk IH (showX_len n) hb hI hV hr ⟨#[40]⟩ S2 (by decide) hS2 (by omega)).mono ?_
    rintro e W' ⟨rfl, g1, g2⟩
    rw [e1, HS3.out] at g1
    exact ⟨rfl, by simpa using g1, g2⟩
  have HW2 : Hid (∀ W, Bl w0 b (acc ++ ([40] ++ showX n k ++ ([32] ++ opT xo.toList ++ [32]))) W → Calls Tryz.prog 93 #[.pointer (some ⟨b, 0, none⟩), .string ⟨#[]⟩, xV k', .string ⟨#[41]⟩] W fun e W' => e = .returned (.tuple #[]) ∧ Bl w0 b (acc ++ ([40] ++ showX n k ++ ([32] ++ opT xo.toList ++ [32]) ++ showX n k' ++ [41])) W' ∧ Kp b W W') := fun W hb => (wk_walk IH (showX_len n) hb hI' hV hr' ⟨#[]⟩ ⟨#[41]⟩ (by decide) (by decide) (by simp; omega)).mono (by
    rintro e W' ⟨rfl, g1, g2⟩
    have e1 : (⟨#[]⟩ : ByteArray).toList = [] := bl_list []
    have e2 : (⟨#[41]⟩ : ByteArray).toList = [41] := bl_list [41]
    rw [e1, e2] at g1
    exact ⟨rfl, by simpa using g1, g2⟩)
  obtain ⟨kb, ko, rfl, hkb, hc⟩ := kid0 hS
  have HC0 := Rw.dh hc
  have HC1 := Rw.dh (kid1 hS)
  clear h hV hS hI hr hI' hr' hE IH hc hT htl hot hlk HU1 HU2 hl
  generalize acc ++ ([40] ++ showX n k ++ ([32] ++ opT xo.toList ++ [32]) ++ showX n k' ++ [41]) = R at *
  generalize acc ++ ([40] ++ showX n k ++ ([32] ++ opT xo.toList ++ [32])) = R1 at *
  go_enter Tryz.func74, Tryz.ntmps74
  go_wp2_with fail
  refine Rw.to_letter (F := fun W => Bl w0 b acc W ∧ Kp b w W ∧ W.heap[w.heap.size]? = some (.cells #[.string xo, .int .i64 xk, .int .i64 xn, .string xs, .string xv, .string xc, .slice (some ⟨kb, ko, none⟩) 2 xp] 44 (0, 0))) ⟨HB.out.on (Rw.below_alloc _ _), kp_alloc _ _ _, Rw.heap_new _ _⟩ ?_
  rintro W0 ⟨B0, K0, P0⟩
  have HP := Rw.dh P0
  have HK0 := Rw.dh K0
  have HB0 := Rw.dh B0
  have KS : Hid (∀ W, Below w0.heap.size w0 W ∧ Kp b W0 W → W.cell? ⟨w.heap.size, 0, none⟩ = some (.string xo) ∧ W.cell? ⟨w.heap.size, 6, none⟩ = some (.slice (some ⟨kb, ko, none⟩) 2 xp) ∧ W.cell? ⟨kb, ko, none⟩ = some (.string k.op) ∧ W.cell? ⟨kb, ko + 1, none⟩ = some (.int .i64 k.vk) ∧ W.cell? ⟨kb, ko + 2, none⟩ = some (.int .i64 k.vn) ∧ W.cell? ⟨kb, ko + 3, none⟩ = some (.string k.vs) ∧ W.cell? ⟨kb, ko + 4, none⟩ = some (.string k.var) ∧ W.cell? ⟨kb, ko + 5, none⟩ = some (.string k.col) ∧ W.cell? ⟨kb, ko + 6, none⟩ = some (.slice k.a k.kids.length k.c)) := fun W ⟨hb, hk⟩ => by
    have p1 := kp_at (by decide) HP.out (Nat.ne_of_gt HB.out.lt) hk
    obtain ⟨c0, c1, c2, c3, c4, c5, c6⟩ := HC0.out
    refine ⟨by rw [cell_of_row _ _ _ _ _ _ p1]; rfl, by rw [cell_of_row _ _ _ _ _ _ p1]; rfl, ?_, ?_, ?_, ?_, ?_, ?_, ?_⟩ <;> rw [hb.cell hkb] <;> assumption
  have k0 : Below w0.heap.size w0 W0 ∧ Kp b W0 W0 := ⟨B0.bel, Kp.refl _ _⟩
  have k1 : Below w0.heap.size w0 W0.drew ∧ Kp b W0 W0.drew := ⟨B0.bel.drew, (Kp.refl _ _).drew⟩
  have HT1 : Hid (Calls Tryz.prog 94 #[.string xo] W0.drew fun e w1 => e = .returned (.string U) ∧ Hid (Bl w0 b acc w1 ∧ Kp b W0 w1) ∧ (Below w0.heap.size w0 w1 ∧ Kp b W0 w1)) := (HTo.out W0.drew).mono (by
    rintro e w1 ⟨rfl, hb⟩
    have g1 : Bl w0 b acc w1 := (HB0.out.on (Below.refl _ W0).drew).on hb
    have g2 : Kp b W0 w1 := Kp.below (Kp.refl _ _) ((Below.refl _ W0).drew.trans (hb.mono (Nat.le_refl _)))
    exact ⟨rfl, ⟨g1, g2⟩, g1.bel, g2⟩)
  have HW1' : Hid (∀ w1, Hid (Bl w0 b acc w1 ∧ Kp b W0 w1) → Calls Tryz.prog 93 #[.pointer (some ⟨b, 0, none⟩), .string ⟨#[40]⟩, .agg #[.string k.op, .int .i64 k.vk, .int .i64 k.vn, .string k.vs, .string k.var, .string k.col, .slice k.a k.kids.length k.c], .string ((⟨#[32]⟩ : ByteArray) ++ U ++ (⟨#[32]⟩ : ByteArray))] w1 fun e w2 => e = .returned (.tuple #[]) ∧ Hid (Bl w0 b R1 w2 ∧ Kp b W0 w2) ∧ (Below w0.heap.size w0 w2 ∧ Kp b W0 w2)) := fun w1 h => by
    rw [HS2.out]
    exact (HW1.out w1 h.out.1).mono (by
    rintro e w2 ⟨rfl, g1, g2⟩
    exact ⟨rfl, ⟨g1, h.out.2.trans g2⟩, g1.bel, h.out.2.trans g2⟩)
  clear B0 K0 P0 HTo HW1
  go_region_held (fun W => W.cell? ⟨w.heap.size, 0, none⟩ = some (.string xo) ∧ W.cell? ⟨w.heap.size, 6, none⟩ = some (.slice (some ⟨kb, ko, none⟩) 2 xp) ∧ W.cell? ⟨kb, ko, none⟩ = some (.string k.op) ∧ W.cell? ⟨kb, ko + 1, none⟩ = some (.int .i64 k.vk) ∧ W.cell? ⟨kb, ko + 2, none⟩ = some (.int .i64 k.vn) ∧ W.cell? ⟨kb, ko + 3, none⟩ = some (.string k.vs) ∧ W.cell? ⟨kb, ko + 4, none⟩ = some (.string k.var) ∧ W.cell? ⟨kb, ko + 5, none⟩ = some (.string k.col) ∧ W.cell? ⟨kb, ko + 6, none⟩ = some (.slice k.a k.kids.length k.c)) (exact KS.out _ (by with_reducible assumption)) (first
    | (go_at_call 94; refine HT1.out.mono ?_; rintro e w1 ⟨rfl, HX1, k2⟩)
    | (go_at_call 93; refine (HW1'.out _ HX1).mono ?_; rintro e w2 ⟨rfl, HX2, k3⟩))
  obtain ⟨q0, q6, _⟩ := KS.out w2 k3
  obtain ⟨y0, y1, y2, y3, y4, y5, y6⟩ := HC1.out
  rw [← k3.1.cell hkb] at y0 y1 y2 y3 y4 y5 y6
  clear k0 k1 k2 k3 KS HT1 HW1' HC0 HC1 HP HX1 HS2 HS3
  go_wp2_with fail
  refine (HW2.out w2 HX2.out.1).mono ?_
  rintro e w3 ⟨rfl, g1, g2⟩
  have HZ := Rw.dh (And.intro g1 ((HK0.out.trans HX2.out.2).trans g2))
  clear g1 g2
  go_wp2
  go_end0
  exact ⟨rfl, HZ.out⟩

theorem wr_walk : ∀ n, WrX n
  | 0 => fun _ _ _ _ _ _ _ _ h _ => by cases h
  | n + 1 => fun x w0 w b acc hB hI hV hr hl => by
    have IH := wr_walk n
    obtain ⟨xo, xk, xn, xs, xv, xc, xa, xp, l⟩ := x
    cases h1 : (xo.toList == [118, 97, 108, 117, 101])
    · cases h2 : (xo.toList == [99, 111, 108, 117, 109, 110])
      · rcases right_other h1 h2 hr with ⟨k, rfl, hk, ho⟩ | ⟨k, k', rfl, hk, hk', hT, h3, h4, h5⟩
        · have hIk : In n w0 k := hI.2.2 k List.mem_cons_self
          rcases ho with e | e | e
          · exact wx_neg IH hB hV hI.2.1 hIk hk h1 h2 (by show (xo.toList == _) = _; rw [e]; rfl) hl
          · exact wx_not IH hB hV hI.2.1 hIk hk h1 h2 (by show (xo.toList == _) = _; rw [e]; rfl) (by show (xo.toList == _) = _; rw [e]; rfl) hl
          · exact wx_null IH hB hV hI.2.1 hIk hk h1 h2 (by show (xo.toList == _) = _; rw [e]; rfl) (by show (xo.toList == _) = _; rw [e]; rfl) (by show (xo.toList == _) = _; rw [e]; rfl) hl
        · exact wx_two IH hB hV hI.2.1 (hI.2.2 k List.mem_cons_self) hk (hI.2.2 k' (by show k' ∈ [k, k']; simp)) hk' hT h1 h2 h3 h4 h5 hl
      · have hr' := hr
        rw [rightX_column h2] at hr'
        simp only [Bool.and_eq_true, Bool.or_eq_true, beq_iff_eq, decide_eq_true_eq] at hr'
        refine wx_column hB h1 h2 ?_ (nameB_size hr'.2.1.2) hl
        rcases hr'.2.2 with e | e
        · show xv.size ≤ 16
          rw [emp_size e]; omega
        · exact nameB_size e
    · have hr' := hr
      rw [rightX_value h1] at hr'
      simp only [Bool.and_eq_true] at hr'
      exact wx_value hB hV h1 hr'.2.1.2 hI.1.n hl

theorem lenB_20 : lenB 20 = 348678440100 := by decide

set_option maxRecDepth 100000 in
set_option maxHeartbeats 400000 in
theorem et_walk (x : XL) (w : World) (hI : In 20 w x) (hV : LibV w) (hr : rightX 20 x = true) : Calls Tryz.prog 47 #[xV x] w fun e W => e = .returned (.string (shB (showX 20 x))) ∧ Below w.heap.size w W := by
  have HC := Rw.dh (fun (w0 W : World) b acc (h0 : Below w.heap.size w w0) (hb : Bl w0 b acc W) hl => wr_walk 20 x w0 W b acc hb (hI.on h0) (hV.on h0) hr hl)
  clear hI hV hr
  generalize showX 20 x = T at *
  obtain ⟨xo, xk, xn, xs, xv, xc, xa, xp, l⟩ := x
  show Calls Tryz.prog 47 #[.agg #[.string xo, .int .i64 xk, .int .i64 xn, .string xs, .string xv, .string xc, .slice xa l.length xp]] w _
  go_enter Tryz.func47, Tryz.ntmps47
  go_wp2_with fail
  have hz : (w.alloc (.cells #[.string xo, .int .i64 xk, .int .i64 xn, .string xs, .string xv, .string xc, .slice xa l.length xp] 44)).heap.size = w.heap.size + 1 := by simp
  have hBl : Bl (w.alloc (.cells #[.string xo, .int .i64 xk, .int .i64 xn, .string xs, .string xv, .string xc, .slice xa l.length xp] 44)) (w.heap.size + 1) [] ((w.alloc (.cells #[.string xo, .int .i64 xk, .int .i64 xn, .string xs, .string xv, .string xc, .slice xa l.length xp] 44)).alloc (.cells #[.pointer none, .slice none 0 0] 106)) := by
    have := Lib.IsBuilderF.of (Lib.fresh_isBuilder 106 5 (w.alloc (.cells #[.string xo, .int .i64 xk, .int .i64 xn, .string xs, .string xv, .string xc, .slice xa l.length xp] 44)))
    exact ⟨by rw [← hz]; exact this, Rw.below_alloc _ _, by simp⟩
  refine (HC.out _ _ _ _ (Rw.below_alloc _ _) hBl (by rw [lenB_20]; decide)).mono ?_
  rintro e w1 ⟨rfl, hb1, _⟩
  have HB1 := Rw.dh hb1
  clear hBl hb1
  go_wp2_with fail
  refine (Any.Builder_String_any_k Tryz.lays169 Tryz.Builder_Extra_169 _ _ ([] ++ T) w1 HB1.out.at' HB1.out.bel.size).mono ?_
  rintro e w2 ⟨rfl, _, hb2, _⟩
  have HZ := Rw.dh (show Below w.heap.size w w2 from (Rw.below_alloc _ _).trans ((HB1.out.bel.trans hb2).mono (by omega)))
  clear hb2
  go_wp2
  go_ret
  exact ⟨rfl, HZ.out⟩

def sxT (x : XL) : List UInt8 := if rightX 20 x then showX 20 x else []

set_option maxRecDepth 100000 in
theorem sx_walk (x : XL) (w : World) (hI : In 20 w x) (hV : LibV w) : Calls Tryz.prog 18 #[xV x] w fun e W => e = .returned (.string (shB (sxT x))) ∧ Below w.heap.size w W := by
  have HR := Rw.dh (fun W (hb : Below w.heap.size w W) => rx_walk x W (hI.on hb))
  have HE := Rw.dh (fun W (hb : Below w.heap.size w W) hr => et_walk x W (hI.on hb) (hV.on hb) hr)
  clear hI hV
  obtain ⟨T, HT⟩ : ∃ T, Hid (sxT x = T) := ⟨_, rfl⟩
  rw [HT.out]
  cases hr : rightX 20 x
  · have HT2 : Hid (T = []) := by show _ = _; rw [← HT.out, sxT, hr]; rfl
    rw [hr] at HR
    clear HE HT
    obtain ⟨xo, xk, xn, xs, xv, xc, xa, xp, l⟩ := x
    show Calls Tryz.prog 18 #[.agg #[.string xo, .int .i64 xk, .int .i64 xn, .string xs, .string xv, .string xc, .slice xa l.length xp]] w _
    go_enter Tryz.func18, Tryz.ntmps18
    go_wp2_with fail
    refine (HR.out _ (by first | exact Below.refl _ _ | exact Rw.below_alloc _ _)).mono ?_
    rintro e w1 ⟨rfl, hb1⟩
    have HB := Rw.dh hb1
    clear hb1
    go_wp2
    go_ret
    exact ⟨by rw [HT2.out]; rfl, by first | exact HB.out | exact dig_below_on (Rw.below_alloc _ _) HB.out⟩
  · have HT2 : Hid (showX 20 x = T) := by show _ = _; rw [← HT.out, sxT, hr]; rfl
    rw [hr] at HR
    have HE2 := Rw.dh (fun W hb => HE.out W hb hr)
    rw [HT2.out] at HE2
    clear HE HT HT2
    obtain ⟨xo, xk, xn, xs, xv, xc, xa, xp, l⟩ := x
    show Calls Tryz.prog 18 #[.agg #[.string xo, .int .i64 xk, .int .i64 xn, .string xs, .string xv, .string xc, .slice xa l.length xp]] w _
    go_enter Tryz.func18, Tryz.ntmps18
    go_wp2_with fail
    refine (HR.out _ (by first | exact Below.refl _ _ | exact Rw.below_alloc _ _)).mono ?_
    rintro e w1 ⟨rfl, hb1⟩
    have d0 : w1.cell? ⟨w.heap.size, 0, none⟩ = some (.string xo) := by rw [hb1.cell (by simp)]; simp [go_sem]
    have d1 : w1.cell? ⟨w.heap.size, 1, none⟩ = some (.int .i64 xk) := by rw [hb1.cell (by simp)]; simp [go_sem]
    have d2 : w1.cell? ⟨w.heap.size, 2, none⟩ = some (.int .i64 xn) := by rw [hb1.cell (by simp)]; simp [go_sem]
    have d3 : w1.cell? ⟨w.heap.size, 3, none⟩ = some (.string xs) := by rw [hb1.cell (by simp)]; simp [go_sem]
    have d4 : w1.cell? ⟨w.heap.size, 4, none⟩ = some (.string xv) := by rw [hb1.cell (by simp)]; simp [go_sem]
    have d5 : w1.cell? ⟨w.heap.size, 5, none⟩ = some (.string xc) := by rw [hb1.cell (by simp)]; simp [go_sem]
    have d6 : w1.cell? ⟨w.heap.size, 6, none⟩ = some (.slice xa l.length xp) := by rw [hb1.cell (by simp)]; simp [go_sem]
    have HB : Hid (Below w.heap.size w w1) := by first | exact hb1 | exact dig_below_on (Rw.below_alloc _ _) hb1
    clear hb1
    go_wp2_with fail
    refine (HE2.out _ (by first | exact HB.out | exact dig_below_on HB.out (Rw.below_alloc _ _))).mono ?_
    rintro e w2 ⟨rfl, hb2⟩
    have HB2 := Rw.dh (dig_below_on HB.out hb2)
    clear hb2
    go_wp2
    go_ret
    exact ⟨rfl, HB2.out⟩
end Go.Proofs.YtcgpcigablefhaaGreatDoor
