/-
  Ast: writeExpr, at each kind of Op but those of two.
-/
import Derived.Test.YtcgpcigablefhaaGreatDoorAsK
namespace Go.Proofs.YtcgpcigablefhaaGreatDoor
open Go.RowKit

theorem bl_list (l : List UInt8) : (⟨l.toArray⟩ : ByteArray).toList = l := by rw [ByteArray.toList_eq]

/-- The cells of the first Kid. -/
theorem kid0 {w0 : World} {xa : Option Addr} {k : XL} {r : List XL} (h : Rw.SlG xC 7 w0 xa (k :: r)) : ∃ kb ko, xa = some ⟨kb, ko, none⟩ ∧ kb < w0.heap.size ∧ w0.cell? ⟨kb, ko, none⟩ = some (.string k.op) ∧ w0.cell? ⟨kb, ko + 1, none⟩ = some (.int .i64 k.vk) ∧ w0.cell? ⟨kb, ko + 2, none⟩ = some (.int .i64 k.vn) ∧ w0.cell? ⟨kb, ko + 3, none⟩ = some (.string k.vs) ∧ w0.cell? ⟨kb, ko + 4, none⟩ = some (.string k.var) ∧ w0.cell? ⟨kb, ko + 5, none⟩ = some (.string k.col) ∧ w0.cell? ⟨kb, ko + 6, none⟩ = some (.slice k.a k.kids.length k.c) := by
  rcases h with h | ⟨kb, ko, rfl, hlt, hc⟩
  · cases h
  · have := hc 0 k rfl
    simp only [Nat.zero_mul, Nat.add_zero] at this
    exact ⟨kb, ko, rfl, hlt, this 0 _ rfl, this 1 _ rfl, this 2 _ rfl, this 3 _ rfl, this 4 _ rfl, this 5 _ rfl, this 6 _ rfl⟩

set_option maxRecDepth 100000 in
set_option maxHeartbeats 1000000 in
theorem wx_value {n : Nat} {w0 w : World} {b : Nat} {acc : List UInt8} {xo xs xv xc : ByteArray} {xk xn : Int} {xa : Option Addr} {xp : Nat} {l : List XL} (h : Bl w0 b acc w) (hV : LibV w0) (h1 : (xo.toList == [118, 97, 108, 117, 101]) = true) (hr : rightB xk xn xs = true) (hn : fits xn = true) (hl : acc.length + lenB (n + 1) ≤ 140737488355328) :
    Calls Tryz.prog 74 #[.pointer (some ⟨b, 0, none⟩), .agg #[.string xo, .int .i64 xk, .int .i64 xn, .string xs, .string xv, .string xc, .slice xa l.length xp]] w fun e W => e = .returned (.tuple #[]) ∧ Bl w0 b (acc ++ showX (n + 1) (.mk xo xk xn xs xv xc xa xp l)) W ∧ Kp b w W := by
  have hE : showX (n + 1) (.mk xo xk xn xs xv xc xa xp l) = showL xk xn xs := show_value (eq_of_beq h1)
  rw [hE]
  have HB := Rw.dh h
  have HS : Hid (∀ W, Below w.heap.size w W → Calls Tryz.prog 91 #[.agg #[.int .i64 xk, .int .i64 xn, .string xs]] W fun e W' => e = .returned (.string (shB (showL xk xn xs))) ∧ Below W.heap.size W W') := fun W hb => by
    have hVW := hV.on (h.bel.trans (hb.mono h.bel.size))
    obtain ⟨m, hm⟩ := hVW.mx
    exact show_walk xk xn xs hr hn m W (World.block_lt_of_cell? _ _ hm) hm hVW.tab
  have HL := Rw.dh (showL_len hr hn)
  have HT : Hid ((shB (showL xk xn xs)).toList = showL xk xn xs) := bl_list _
  have HZs : Hid ((shB (showL xk xn xs)).size = (showL xk xn xs).length) := by show _ = _; rw [← bal, HT.out]
  have h100 := lenB_ge (n + 1)
  clear h hV hr hn hE
  generalize showL xk xn xs = T at *
  generalize shB T = S at *
  go_enter Tryz.func74, Tryz.ntmps74
  go_wp2_with fail
  refine (HS.out _ (Rw.below_alloc _ _)).mono ?_
  rintro e w1 ⟨rfl, hb1⟩
  have HB1 := Rw.dh ((HB.out.on (Rw.below_alloc _ _)).on hb1)
  have HK1 := Rw.dh ((kp_alloc b w _).below hb1)
  clear hb1 HS
  go_wp2_with fail
  refine (ws_bl HB1.out S (by rw [HZs.out]; have := HL.out; omega)).mono ?_
  rintro e w2 ⟨rfl, hb2, hk2⟩
  rw [HT.out] at hb2
  have HZ := Rw.dh (And.intro hb2 (HK1.out.trans hk2))
  clear hb2 hk2
  go_wp2
  go_end0
  exact ⟨rfl, HZ.out⟩

set_option maxRecDepth 100000 in
set_option maxHeartbeats 1000000 in
theorem wx_column {n : Nat} {w0 w : World} {b : Nat} {acc : List UInt8} {xo xs xv xc : ByteArray} {xk xn : Int} {xa : Option Addr} {xp : Nat} {l : List XL} (h : Bl w0 b acc w) (h1 : (xo.toList == [118, 97, 108, 117, 101]) = false) (h2 : (xo.toList == [99, 111, 108, 117, 109, 110]) = true) (hv : xv.size ≤ 16) (hc : xc.size ≤ 16) (hl : acc.length + lenB (n + 1) ≤ 140737488355328) :
    Calls Tryz.prog 74 #[.pointer (some ⟨b, 0, none⟩), .agg #[.string xo, .int .i64 xk, .int .i64 xn, .string xs, .string xv, .string xc, .slice xa l.length xp]] w fun e W => e = .returned (.tuple #[]) ∧ Bl w0 b (acc ++ showX (n + 1) (.mk xo xk xn xs xv xc xa xp l)) W ∧ Kp b w W := by
  have hE : showX (n + 1) (.mk xo xk xn xs xv xc xa xp l) = (if xv.toList == [] then xc.toList else xv.toList ++ 46 :: xc.toList) := show_column (eq_of_beq h2)
  rw [hE]
  have HB := Rw.dh h
  have h100 := lenB_ge (n + 1)
  clear h hE
  have HC := Rw.dh (fun W (hb : Bl w0 b acc W) => wc_walk (xo := xo) (xk := xk) (xn := xn) (xs := xs) (xa := xa) (xp := xp) (l := l) hb hv hc (by omega))
  generalize acc ++ (if xv.toList == [] then xc.toList else xv.toList ++ 46 :: xc.toList) = R at *
  go_enter Tryz.func74, Tryz.ntmps74
  go_wp2_with fail
  refine (HC.out _ (HB.out.on (Rw.below_alloc _ _))).mono ?_
  rintro e w1 ⟨rfl, hb1, hk1⟩
  have HZ := Rw.dh (And.intro hb1 ((kp_alloc b w _).trans hk1))
  clear hb1 hk1
  go_wp2
  go_end0
  exact ⟨rfl, HZ.out⟩

set_option maxRecDepth 100000 in
set_option maxHeartbeats 1000000 in
theorem wx_neg {n : Nat} (IH : WrX n) {w0 w : World} {b : Nat} {acc : List UInt8} {xo xs xv xc : ByteArray} {xk xn : Int} {xa : Option Addr} {xp : Nat} {k : XL} (h : Bl w0 b acc w) (hV : LibV w0) (hS : Rw.SlG xC 7 w0 xa [k]) (hI : In n w0 k) (hr : rightX n k = true) (h1 : (xo.toList == [118, 97, 108, 117, 101]) = false) (h2 : (xo.toList == [99, 111, 108, 117, 109, 110]) = false) (h3 : (xo.toList == [110, 101, 103]) = true) (hl : acc.length + lenB (n + 1) ≤ 140737488355328) :
    Calls Tryz.prog 74 #[.pointer (some ⟨b, 0, none⟩), .agg #[.string xo, .int .i64 xk, .int .i64 xn, .string xs, .string xv, .string xc, .slice xa 1 xp]] w fun e W => e = .returned (.tuple #[]) ∧ Bl w0 b (acc ++ showX (n + 1) (.mk xo xk xn xs xv xc xa xp [k])) W ∧ Kp b w W := by
  have hE : showX (n + 1) (.mk xo xk xn xs xv xc xa xp [k]) = [40, 45, 32] ++ showX n k ++ [41] := show_neg (eq_of_beq h3)
  rw [hE]
  have HB := Rw.dh h
  have h100 := lenB_ge n
  have hl' : acc.length + lenB n + 40 ≤ 140737488355328 := by have e : lenB (n + 1) = 3 * lenB n := rfl; omega
  have HC : Hid (∀ W, Bl w0 b acc W → Calls Tryz.prog 93 #[.pointer (some ⟨b, 0, none⟩), .string ⟨#[40, 45, 32]⟩, xV k, .string ⟨#[41]⟩] W fun e W' => e = .returned (.tuple #[]) ∧ Bl w0 b (acc ++ ([40, 45, 32] ++ showX n k ++ [41])) W' ∧ Kp b W W') := fun W hb => (wk_walk IH (showX_len n) hb hI hV hr ⟨#[40, 45, 32]⟩ ⟨#[41]⟩ (by decide) (by decide) hl').mono (by
    rintro e W' ⟨rfl, g1, g2⟩
    have e1 : (⟨#[40, 45, 32]⟩ : ByteArray).toList = [40, 45, 32] := bl_list [40, 45, 32]
    have e2 : (⟨#[41]⟩ : ByteArray).toList = [41] := bl_list [41]
    rw [e1, e2] at g1
    exact ⟨rfl, by simpa using g1, g2⟩)
  obtain ⟨kb, ko, rfl, hkb, c0, c1, c2, c3, c4, c5, c6⟩ := kid0 hS
  have hbA : Below w0.heap.size w0 (w.alloc (.cells #[.string xo, .int .i64 xk, .int .i64 xn, .string xs, .string xv, .string xc, .slice (some ⟨kb, ko, none⟩) 1 xp] 44)) := h.bel.trans ((Rw.below_alloc _ _).mono h.bel.size)
  rw [← hbA.cell hkb] at c0 c1 c2 c3 c4 c5 c6
  clear h hV hS hI hr hE IH hbA
  generalize acc ++ ([40, 45, 32] ++ showX n k ++ [41]) = R at *
  have hne : ¬ kb = w.heap.size := by have := HB.out.bel.size; omega
  go_enter Tryz.func74, Tryz.ntmps74
  go_wp2_with fail
  refine (HC.out _ (HB.out.on (Rw.below_alloc _ _))).mono ?_
  rintro e w1 ⟨rfl, hb1, hk1⟩
  have HZ := Rw.dh (And.intro hb1 ((kp_alloc b w _).trans hk1))
  clear hb1 hk1
  go_wp2
  go_end0
  exact ⟨rfl, HZ.out⟩

set_option maxRecDepth 100000 in
set_option maxHeartbeats 1000000 in
theorem wx_not {n : Nat} (IH : WrX n) {w0 w : World} {b : Nat} {acc : List UInt8} {xo xs xv xc : ByteArray} {xk xn : Int} {xa : Option Addr} {xp : Nat} {k : XL} (h : Bl w0 b acc w) (hV : LibV w0) (hS : Rw.SlG xC 7 w0 xa [k]) (hI : In n w0 k) (hr : rightX n k = true) (h1 : (xo.toList == [118, 97, 108, 117, 101]) = false) (h2 : (xo.toList == [99, 111, 108, 117, 109, 110]) = false) (h3 : (xo.toList == [110, 101, 103]) = false) (h4 : (xo.toList == [110, 111, 116]) = true) (hl : acc.length + lenB (n + 1) ≤ 140737488355328) :
    Calls Tryz.prog 74 #[.pointer (some ⟨b, 0, none⟩), .agg #[.string xo, .int .i64 xk, .int .i64 xn, .string xs, .string xv, .string xc, .slice xa 1 xp]] w fun e W => e = .returned (.tuple #[]) ∧ Bl w0 b (acc ++ showX (n + 1) (.mk xo xk xn xs xv xc xa xp [k])) W ∧ Kp b w W := by
  have hE : showX (n + 1) (.mk xo xk xn xs xv xc xa xp [k]) = [40, 78, 79, 84, 32] ++ showX n k ++ [41] := show_not (eq_of_beq h4)
  rw [hE]
  have HB := Rw.dh h
  have h100 := lenB_ge n
  have hl' : acc.length + lenB n + 40 ≤ 140737488355328 := by have e : lenB (n + 1) = 3 * lenB n := rfl; omega
  have HC : Hid (∀ W, Bl w0 b acc W → Calls Tryz.prog 93 #[.pointer (some ⟨b, 0, none⟩), .string ⟨#[40, 78, 79, 84, 32]⟩, xV k, .string ⟨#[41]⟩] W fun e W' => e = .returned (.tuple #[]) ∧ Bl w0 b (acc ++ ([40, 78, 79, 84, 32] ++ showX n k ++ [41])) W' ∧ Kp b W W') := fun W hb => (wk_walk IH (showX_len n) hb hI hV hr ⟨#[40, 78, 79, 84, 32]⟩ ⟨#[41]⟩ (by decide) (by decide) hl').mono (by
    rintro e W' ⟨rfl, g1, g2⟩
    have e1 : (⟨#[40, 78, 79, 84, 32]⟩ : ByteArray).toList = [40, 78, 79, 84, 32] := bl_list [40, 78, 79, 84, 32]
    have e2 : (⟨#[41]⟩ : ByteArray).toList = [41] := bl_list [41]
    rw [e1, e2] at g1
    exact ⟨rfl, by simpa using g1, g2⟩)
  obtain ⟨kb, ko, rfl, hkb, c0, c1, c2, c3, c4, c5, c6⟩ := kid0 hS
  have hbA : Below w0.heap.size w0 (w.alloc (.cells #[.string xo, .int .i64 xk, .int .i64 xn, .string xs, .string xv, .string xc, .slice (some ⟨kb, ko, none⟩) 1 xp] 44)) := h.bel.trans ((Rw.below_alloc _ _).mono h.bel.size)
  rw [← hbA.cell hkb] at c0 c1 c2 c3 c4 c5 c6
  clear h hV hS hI hr hE IH hbA
  generalize acc ++ ([40, 78, 79, 84, 32] ++ showX n k ++ [41]) = R at *
  have hne : ¬ kb = w.heap.size := by have := HB.out.bel.size; omega
  go_enter Tryz.func74, Tryz.ntmps74
  go_wp2_with fail
  refine (HC.out _ (HB.out.on (Rw.below_alloc _ _))).mono ?_
  rintro e w1 ⟨rfl, hb1, hk1⟩
  have HZ := Rw.dh (And.intro hb1 ((kp_alloc b w _).trans hk1))
  clear hb1 hk1
  go_wp2
  go_end0
  exact ⟨rfl, HZ.out⟩

set_option maxRecDepth 100000 in
set_option maxHeartbeats 1000000 in
theorem wx_null {n : Nat} (IH : WrX n) {w0 w : World} {b : Nat} {acc : List UInt8} {xo xs xv xc : ByteArray} {xk xn : Int} {xa : Option Addr} {xp : Nat} {k : XL} (h : Bl w0 b acc w) (hV : LibV w0) (hS : Rw.SlG xC 7 w0 xa [k]) (hI : In n w0 k) (hr : rightX n k = true) (h1 : (xo.toList == [118, 97, 108, 117, 101]) = false) (h2 : (xo.toList == [99, 111, 108, 117, 109, 110]) = false) (h3 : (xo.toList == [110, 101, 103]) = false) (h4 : (xo.toList == [110, 111, 116]) = false) (h5 : (xo.toList == [110, 117, 108, 108]) = true) (hl : acc.length + lenB (n + 1) ≤ 140737488355328) :
    Calls Tryz.prog 74 #[.pointer (some ⟨b, 0, none⟩), .agg #[.string xo, .int .i64 xk, .int .i64 xn, .string xs, .string xv, .string xc, .slice xa 1 xp]] w fun e W => e = .returned (.tuple #[]) ∧ Bl w0 b (acc ++ showX (n + 1) (.mk xo xk xn xs xv xc xa xp [k])) W ∧ Kp b w W := by
  have hE : showX (n + 1) (.mk xo xk xn xs xv xc xa xp [k]) = [40] ++ showX n k ++ [32, 73, 83, 32, 78, 85, 76, 76, 41] := show_null (eq_of_beq h5)
  rw [hE]
  have HB := Rw.dh h
  have h100 := lenB_ge n
  have hl' : acc.length + lenB n + 40 ≤ 140737488355328 := by have e : lenB (n + 1) = 3 * lenB n := rfl; omega
  have HC : Hid (∀ W, Bl w0 b acc W → Calls Tryz.prog 93 #[.pointer (some ⟨b, 0, none⟩), .string ⟨#[40]⟩, xV k, .string ⟨#[32, 73, 83, 32, 78, 85, 76, 76, 41]⟩] W fun e W' => e = .returned (.tuple #[]) ∧ Bl w0 b (acc ++ ([40] ++ showX n k ++ [32, 73, 83, 32, 78, 85, 76, 76, 41])) W' ∧ Kp b W W') := fun W hb => (wk_walk IH (showX_len n) hb hI hV hr ⟨#[40]⟩ ⟨#[32, 73, 83, 32, 78, 85, 76, 76, 41]⟩ (by decide) (by decide) hl').mono (by
    rintro e W' ⟨rfl, g1, g2⟩
    have e1 : (⟨#[40]⟩ : ByteArray).toList = [40] := bl_list [40]
    have e2 : (⟨#[32, 73, 83, 32, 78, 85, 76, 76, 41]⟩ : ByteArray).toList = [32, 73, 83, 32, 78, 85, 76, 76, 41] := bl_list [32, 73, 83, 32, 78, 85, 76, 76, 41]
    rw [e1, e2] at g1
    exact ⟨rfl, by simpa using g1, g2⟩)
  obtain ⟨kb, ko, rfl, hkb, c0, c1, c2, c3, c4, c5, c6⟩ := kid0 hS
  have hbA : Below w0.heap.size w0 (w.alloc (.cells #[.string xo, .int .i64 xk, .int .i64 xn, .string xs, .string xv, .string xc, .slice (some ⟨kb, ko, none⟩) 1 xp] 44)) := h.bel.trans ((Rw.below_alloc _ _).mono h.bel.size)
  rw [← hbA.cell hkb] at c0 c1 c2 c3 c4 c5 c6
  clear h hV hS hI hr hE IH hbA
  generalize acc ++ ([40] ++ showX n k ++ [32, 73, 83, 32, 78, 85, 76, 76, 41]) = R at *
  have hne : ¬ kb = w.heap.size := by have := HB.out.bel.size; omega
  go_enter Tryz.func74, Tryz.ntmps74
  go_wp2_with fail
  refine (HC.out _ (HB.out.on (Rw.below_alloc _ _))).mono ?_
  rintro e w1 ⟨rfl, hb1, hk1⟩
  have HZ := Rw.dh (And.intro hb1 ((kp_alloc b w _).trans hk1))
  clear hb1 hk1
  go_wp2
  go_end0
  exact ⟨rfl, HZ.out⟩
end Go.Proofs.YtcgpcigablefhaaGreatDoor
